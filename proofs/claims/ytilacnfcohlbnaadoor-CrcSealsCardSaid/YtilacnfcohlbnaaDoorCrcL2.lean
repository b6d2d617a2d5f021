/- The walk of CrcResidue. -/
import Derived.Test.YtilacnfcohlbnaaDoorCrcP
import Derived.Test.YtilacnfcohlbnaaDoorCrcN
namespace Go.Proofs.YtilacnfcohlbnaaDoor
open Go.RowKit

/-- What an owned row is good for: its form, and its bytes. -/
theorem Own.form {B : Nat} {w : World} {v : Value} {xs : List Nat} (h : Own B w v xs) : ∃ (a : Option Addr) (c : Nat), v = .slice a xs.length c ∧ In w a xs := by
  have h' : w.ownsRow B 5 1 v xs.length (xs.map nU8) := h
  have hc := h'
  obtain ⟨_, hcase⟩ := h'
  rcases hcase with ⟨rfl, h0⟩ | ⟨g, cap, cur, rfl, hg, hh, hn, hcap, hsz, htake⟩
  · exact ⟨none, 0, by rw [h0], .inl (List.length_eq_zero_iff.1 h0)⟩
  · refine ⟨some ⟨g, 0, none⟩, cap, rfl, .inr ⟨_, rfl, fun i hi => ?_⟩⟩
    rw [add_off, hc.cellAt i (by omega)]
    simp [List.getD_eq_getElem?_getD, List.getElem?_eq_getElem hi]

set_option maxHeartbeats 4000000 in
theorem residue_walk (a : Option Addr) (n c : Nat) (xs : List Nat) (hn : xs.length = n) (hx : ∀ x ∈ xs, x < 256) (w : World) (hc : In w a xs) (hT : HasTab w) :
    Calls Tryd.prog 10 #[.slice a n c] w fun e w' => e = .returned (.bool true) ∧ Below w.heap.size w w' := by
  have HT := Lib.hid hT
  have HX := Lib.hid hx
  have HC := Lib.hid hc
  clear hT hx hc
  by_cases hl : 300 < n
  · have hd : decide ((300 : Int) < (n : Int)) = true := decide_eq_true (by omega)
    have hlz : (300 : Int) < (n : Int) := by omega
    go_enter Tryd.func10, Tryd.ntmps10
    go_wp2_with fail
    refine (awake_any _ HT.out).mono ?_
    rintro e w1 ⟨rfl, hb1⟩
    go_wp2_with fail
    go_ret
    exact ⟨rfl, hb1⟩
  · have hd : decide ((300 : Int) < (n : Int)) = false := decide_eq_false (by omega)
    go_enter Tryd.func10, Tryd.ntmps10
    go_wp2_with fail
    refine (awake_any _ HT.out).mono ?_
    rintro e w1 ⟨rfl, hb1⟩
    go_wp2_with fail
    refine (append_any a n c xs hn HX.out (by omega) _ (HC.out.below hb1) (HT.out.below hb1)).mono ?_
    rintro e w2 ⟨v, rfl, hown, hb2⟩
    obtain ⟨a2, c2, rfl, hin⟩ := hown.form
    have HI := Lib.hid hin
    clear hown hin
    have kb : Below w.heap.size w w2 := hb1.trans (hb2.mono hb1.size)
    have hs := sum_any a2 (xs ++ le4 (crc xs)).length c2 (xs ++ le4 (crc xs)) rfl (sealed_lt HX.out) (by rw [sealed_length]; omega) w2 HI.out (HT.out.below kb)
    rw [sealed_crc HX.out] at hs
    generalize (xs ++ le4 (crc xs)).length = m at hs
    clear HI
    go_wp2_with fail
    refine hs.mono ?_
    rintro e w3 ⟨rfl, hw3⟩
    have hw3' := hw3.symm
    subst hw3'
    go_wp2_with fail
    go_ret
    exact ⟨rfl, kb⟩
end Go.Proofs.YtilacnfcohlbnaaDoor
