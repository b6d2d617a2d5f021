/- The walk of LinecodeDecodes. -/
import Derived.Test.YthjhgmcikfekmaaDoorLinJ
namespace Go.Proofs.YthjhgmcikfekmaaDoor
open Go.RowKit

set_option maxHeartbeats 8000000 in
theorem decodes_walk (a : Option Addr) (n c : Nat) (xs : List Nat) (hn : xs.length = n) (hx : ∀ x ∈ xs, x < 256) (w : World) (hc : In w a xs) (hT : HasTab w) :
    Calls Tryd.prog 6 #[.slice a n c] w fun e w' => e = .returned (.bool true) ∧ Below w.heap.size w w' := by
  have HT := box hT
  have HX := box hx
  have HC := box hc
  clear hT hx hc
  by_cases hl : 200 < n
  · have hd : decide ((200 : Int) < (n : Int)) = true := decide_eq_true (by omega)
    go_enter Tryd.func6, Tryd.ntmps6
    go_wp2_with fail
    refine (awake_any _ HT.out).mono ?_
    rintro e w1 ⟨rfl, hb1⟩
    go_wp2_with fail
    go_ret
    exact ⟨rfl, hb1⟩
  have hd : decide ((200 : Int) < (n : Int)) = false := decide_eq_false (by omega)
  go_enter Tryd.func6, Tryd.ntmps6
  go_wp2_with fail
  refine (awake_any _ HT.out).mono ?_
  rintro e w1 ⟨rfl, kb⟩
  go_wp2_with fail
  refine (decode_any a n c xs hn HX.out (by omega) _ (HC.out.below kb) (HT.out.below kb)).mono ?_
  rintro e w2 ⟨hb, h⟩
  replace kb : Below w.heap.size w w2 := kb.trans (hb.mono kb.size)
  have R := box (rdecode_any a n c xs hn HX.out (by omega) _ (HC.out.below kb))
  rcases h with ⟨i, hi, hok, hbad, rfl⟩ | ⟨hok, hodd, rfl⟩ | ⟨hok, heven, v, rfl, hown⟩
  · have HB := box (And.intro hok hbad)
    clear hok hbad hb
    go_wp2_with fail
    refine R.out.mono ?_
    rintro e w3 ⟨hb, h⟩
    replace kb : Below w.heap.size w w3 := kb.trans (hb.mono kb.size)
    rcases h with ⟨i', hi', hok', hbad', rfl⟩ | ⟨hok', _, rfl⟩ | ⟨hok', _, v', rfl, _⟩
    · have hii : i = i' := by
        rcases Nat.lt_trichotomy i i' with h | h | h
        · exact absurd (hok' i h) (by have := HB.out.2; omega)
        · exact h
        · exact absurd (HB.out.1 i' h) (by omega)
      subst hii
      clear hok' hbad' hb
      go_wp2_with fail
      refine (same_any none none 0 0 0 0 [] [] rfl rfl (by simp) (by simp) (by omega) (by omega) _ (.inl rfl) (.inl rfl) true (by decide)).mono ?_
      rintro e w4 ⟨rfl, t, rfl⟩
      go_wp2_with fail
      go_ret
      exact ⟨rfl, below_drewN _ kb⟩
    · exact absurd (hok' i hi) (by have := HB.out.2; omega)
    · exact absurd (hok' i hi) (by have := HB.out.2; omega)
  · have HB := box (And.intro hok hodd)
    clear hok hodd hb
    go_wp2_with fail
    refine R.out.mono ?_
    rintro e w3 ⟨hb, h⟩
    replace kb : Below w.heap.size w w3 := kb.trans (hb.mono kb.size)
    rcases h with ⟨i', hi', hok', hbad', rfl⟩ | ⟨hok', _, rfl⟩ | ⟨hok', hev, v', rfl, _⟩
    · exact absurd (HB.out.1 i' hi') (by omega)
    · clear hok' hb
      go_wp2_with fail
      refine (same_any none none 0 0 0 0 [] [] rfl rfl (by simp) (by simp) (by omega) (by omega) _ (.inl rfl) (.inl rfl) true (by decide)).mono ?_
      rintro e w4 ⟨rfl, t, rfl⟩
      go_wp2_with fail
      go_ret
      exact ⟨rfl, below_drewN _ kb⟩
    · have := HB.out.2; omega
  · obtain ⟨m, hm⟩ : ∃ m, n / 2 = m := ⟨_, rfl⟩
    have hnm : n = 2 * m := by omega
    rw [hm] at hown
    have hlt := decTo_lt (k := m) (hnm ▸ hok)
    have hed := enc_dec (k := m) HX.out (hn.trans hnm) (hnm ▸ hok)
    have hdl := decTo_length xs m
    have HB := box (And.intro hok heven)
    have HM := box hm
    have HNM := box hnm
    have HLT := box hlt
    have HED := box hed
    obtain ⟨ds, hds⟩ : ∃ ds, decTo xs m = ds := ⟨_, rfl⟩
    have HDS := box hds
    rw [hds] at hown HLT HED hdl
    clear hds
    obtain ⟨ba, bc, rfl, hin, _, _⟩ := own_form hdl hown
    have HI := box hin
    clear hok heven hb hown hin hm hnm hlt hed
    go_wp2_with fail
    refine R.out.mono ?_
    rintro e w3 ⟨hb, h⟩
    have hm := HM.out
    have hnm := HNM.out
    replace kb : Below w.heap.size w w3 := kb.trans (hb.mono kb.size)
    rcases h with ⟨i', hi', hok', hbad', rfl⟩ | ⟨hok', hodd', rfl⟩ | ⟨hok', _, v', rfl, hown⟩
    · exact absurd (HB.out.1 i' hi') (by omega)
    · have := HB.out.2; omega
    · rw [hm, HDS.out] at hown
      obtain ⟨ra, rc, rfl, hin, _, _⟩ := own_form hdl hown
      have HI2 := box (HI.out.below hb)
      have HR := box hin
      clear hok' hb hown hin hm hnm HI
      go_wp2_with fail
      refine (same_any ba ra m m bc rc ds ds hdl hdl HLT.out HLT.out (by have := HNM.out; omega) (by have := HNM.out; omega) _ HI2.out HR.out true (decide_eq_true rfl)).mono ?_
      rintro e w4 ⟨rfl, t, rfl⟩
      have kb4 := below_drewN t kb
      have HI3 := box (HI2.out.below (drewN_below w3 t))
      go_wp2_with fail
      refine (encode_any ba m bc ds hdl HLT.out (by have := HNM.out; omega) _ HI3.out (HT.out.below kb4)).mono ?_
      rintro e w5 ⟨v, rfl, hown, hb⟩
      rw [HED.out] at hown
      obtain ⟨ea, ec, rfl, hin, _, _⟩ := own_form (by have := HNM.out; omega) hown
      have HE := box hin
      have kb5 := kb4.trans (hb.mono kb4.size)
      clear hin hown hb
      go_wp2_with fail
      refine (same_any ea a (2 * m) n ec c xs xs (by have := HNM.out; omega) hn HX.out HX.out (by have := HNM.out; omega) (by omega) _ HE.out (HC.out.below kb5) true (decide_eq_true rfl)).mono ?_
      rintro e w6 ⟨rfl, t2, rfl⟩
      go_wp2_with fail
      go_ret
      exact ⟨rfl, below_drewN _ kb5⟩
end Go.Proofs.YthjhgmcikfekmaaDoor
