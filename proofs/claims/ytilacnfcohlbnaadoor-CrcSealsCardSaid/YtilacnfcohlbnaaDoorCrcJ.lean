/- The walk of CrcSeals. -/
import Derived.Test.YtilacnfcohlbnaaDoorCrcI
import Derived.Test.YtilacnfcohlbnaaDoorCrcS
import Derived.RegionTactic
import Derived.Deep.QuietTactic
import Derived.BigQuiet
namespace Go.Proofs.YtilacnfcohlbnaaDoor
open Go.RowKit

set_option maxHeartbeats 8000000 in
theorem seals_walk (a : Option Addr) (n c : Nat) (xs : List Nat) (hn : xs.length = n) (hx : ∀ x ∈ xs, x < 256) (hcap : n ≤ c) (hnil : a = none → c = 0) (w : World) (hc : In w a xs) (hT : HasTab w) :
    Calls Tryd.prog 5 #[.slice a n c] w fun e w' => e = .returned (.bool true) ∧ Below w.heap.size w w' := by
  have HT := box hT
  have HX := box hx
  have HC := box hc
  have HNIL := box hnil
  clear hT hx hc hnil
  by_cases hl : 300 < n
  · have hd : decide ((300 : Int) < (n : Int)) = true := decide_eq_true (by omega)
    have hlz : (300 : Int) < (n : Int) := by omega
    go_enter Tryd.func5, Tryd.ntmps5
    go_wp2_with fail
    refine (awake_any _ HT.out).mono ?_
    rintro e w1 ⟨rfl, hb1⟩
    go_wp2_with fail
    go_ret
    exact ⟨rfl, hb1⟩
  have hd : decide ((300 : Int) < (n : Int)) = false := decide_eq_false (by omega)
  go_enter Tryd.func5, Tryd.ntmps5
  go_wp2_with fail
  refine (awake_any _ HT.out).mono ?_
  rintro e w1 ⟨rfl, hb1⟩
  go_wp2_with fail
  refine (append_any a n c xs hn HX.out (by omega) _ (HC.out.below hb1) (HT.out.below hb1)).mono ?_
  rintro e w2 ⟨v, rfl, hown, hb2⟩
  obtain ⟨a2, c2, hv, hin, hnil2, hcap2⟩ := own_form (n := n + 4) (xs := xs ++ le4 (crc xs)) (by rw [sealed_length, hn]) (by have h := hown; rw [Own, sealed_length, hn] at h; exact h)
  subst hv
  have hln : (xs ++ le4 (crc xs)).length = n + 4 := by rw [sealed_length, hn]
  have hlt := box (sealed_lt HX.out)
  have hsc := box (sealed_crc HX.out)
  have htk : Box ((xs ++ le4 (crc xs)).take n = xs) := box (by rw [← hn]; simp)
  have kb : Below w.heap.size w w2 := hb1.trans (hb2.mono hb1.size)
  have HRA := fun w' (h : Below w2.heap.size w2 w') => box (rappend_any a n c xs hn HX.out (by omega) HNIL.out w' ((HC.out.below kb).below h))
  generalize xs ++ le4 (crc xs) = ss at hin hln hlt hsc htk HRA
  have HI := box hin
  clear hown hin
  have cvs : ∀ w', Below w2.heap.size w2 w' → (convert 22 9 (.slice a2 (n + 4) c2)).run Tryd.prog w' = .ok (.string (strOf ss)) w' := fun w' h => conv_any hln (HI.out.below h)
  have b0 : Below w2.heap.size w2 w2 := Below.refl _ _
  go_wp2_with fail
  have b1 : Below w2.heap.size w2 w2.drew := (Below.refl _ _).drew
  have cvd := cvs _ b1
  go_region_with (first | (go_at_call 17; refine (HRA _ (by first | assumption | exact b1)).out.mono ?_; rintro e w3 ⟨v3, rfl, hown3, hb3⟩; have kb3 := b1.trans (hb3.mono b1.size); obtain ⟨a3, c3, hv3, hin3, _, _⟩ := own_form (n := n + 4) (xs := ss) hln (by have h := hown3; rw [Own, hln] at h; exact h); subst hv3; have cv3 := conv_any (c := c3) hln hin3; have cvt := cvs _ kb3; clear hown3 hin3))
  all_goals
    clear cvd cvt cvs HRA b0 b1 hb3
    have kw3 : Below w.heap.size w w3 := kb.trans (kb3.mono kb.size)
    go_wp2_with fail
    refine (check_ok a2 (n + 4) c2 ss hln hlt.out (by omega) (by omega) hcap2 hsc.out w3 (HI.out.below kb3) (HT.out.below kw3)).mono ?_
    rintro e w4 ⟨v4, rfl, hown4, hb4⟩
    rw [show n + 4 - 4 = n by omega, htk.out] at hown4
    obtain ⟨a4, c4, hv4, hin4, _, _⟩ := own_form (n := n) (xs := xs) hn (by have h := hown4; rw [Own, hn] at h; exact h)
    subst hv4
    have kw4 : Below w.heap.size w w4 := kw3.trans (hb4.mono kw3.size)
    have cv4 := conv_any (c := c4) hn hin4
    have cvb := conv_any (c := c) hn (HC.out.below kw4)
    clear hown4 hin4 cv3 hb4
    by_cases h4 : n < 4
    · have C := box (check_short a n c h4 w4)
      have hd4 : decide ((n : Int) < 4) = true := decide_eq_true (by omega)
      have hz4 : (n : Int) < 4 := by omega
      go_wp2_with fail
      refine C.out.mono ?_
      rintro e w5 ⟨rfl, hw5⟩
      have hw5' := hw5.symm
      subst hw5'
      go_wp2_with fail
      go_ret
      exact ⟨rfl, kw4⟩
    · have hd4 : decide ((n : Int) < 4) = false := decide_eq_false (by omega)
      obtain ⟨ad, hA, hat⟩ : ∃ ad, a = some ad ∧ At w4 ad xs := by
        rcases HC.out.below kw4 with h | h
        · subst h; simp at hn; omega
        · exact h
      subst hA
      have HAT := box hat
      clear hat
      by_cases hr : crc xs = 558161692
      · have C := box (check_ok (some ad) n c xs hn HX.out (by omega) h4 hcap hr w4 (HC.out.below kw4) (HT.out.below kw4))
        go_wp2_with fail
        refine C.out.mono ?_
        rintro e w5 ⟨v5, rfl, hown5, hb5⟩
        have htl : (xs.take (n - 4)).length = n - 4 := by simp; omega
        obtain ⟨a5, c5, hv5, hin5, _, _⟩ := own_form (n := n - 4) (xs := xs.take (n - 4)) htl (by have h := hown5; rw [Own, htl] at h; exact h)
        subst hv5
        have HI5 := box hin5
        clear hown5 hin5 cv4 cvb C
        have kw5 : Below w.heap.size w w5 := kw4.trans (hb5.mono kw4.size)
        have D := box (sealed_any ad n c xs hn HX.out (by omega) (by omega) hcap w5 (fun i hi => keepc hb5 (HAT.out i hi)))
        rw [show decide (crc xs = 558161692) = true from decide_eq_true hr] at D
        go_wp2_with fail
        refine D.out.mono ?_
        rintro e w6 ⟨rfl, hb6⟩
        have kw6 : Below w.heap.size w w6 := kw5.trans (hb6.mono kw5.size)
        have cv6 : ∀ t, (convert 22 9 (.slice a5 (n - 4) c5)).run Tryd.prog (w6.drewN t) = .ok (.string (strOf (xs.take (n - 4)))) (w6.drewN t) := fun t => conv_any htl ((HI5.out.below hb6).below (below_drewN t (Below.refl _ _)))
        have cv7 : ∀ t, (convert 22 9 (.slice (some ad) (n - 4) c)).run Tryd.prog (w6.drewN t) = .ok (.string (strOf (xs.take (n - 4)))) (w6.drewN t) := fun t => conv_any htl (.inr ⟨ad, rfl, fun i hi => by
          have hi2 : i < n - 4 := by omega
          have h := keepc (below_drewN t (Below.refl _ _)) (keepc hb6 (keepc hb5 (HAT.out i (by omega))))
          rw [h]
          simp [List.getD_eq_getElem?_getD, hi2]⟩)
        have z4 : (4 : Int) ≤ (n : Int) := by omega
        have z5 : (0 : Int) ≤ (n : Int) - 4 := by omega
        have z6 : (n : Int) - 4 ≤ (c : Int) := by omega
        clear D HAT HI5
        go_wp2_with fail
        go_quiet (fail)
        go_wp2_with fail
        go_ret
        exact ⟨rfl, below_drewN _ kw6⟩
      · have C := box (check_bad (some ad) n c xs hn HX.out (by omega) h4 hr w4 (HC.out.below kw4) (HT.out.below kw4))
        have D := box (sealed_any ad n c xs hn HX.out (by omega) (by omega) hcap w4 HAT.out)
        rw [show decide (crc xs = 558161692) = false from decide_eq_false hr] at D
        go_wp2_with fail
        refine C.out.mono ?_
        rintro e w5 ⟨rfl, hw5⟩
        have hw5' := hw5.symm
        subst hw5'
        clear cv4 cvb C
        go_wp2_with fail
        refine D.out.mono ?_
        rintro e w6 ⟨rfl, hb6⟩
        go_wp2_with fail
        go_ret
        exact ⟨rfl, kw4.trans (hb6.mono kw4.size)⟩
end Go.Proofs.YtilacnfcohlbnaaDoor
