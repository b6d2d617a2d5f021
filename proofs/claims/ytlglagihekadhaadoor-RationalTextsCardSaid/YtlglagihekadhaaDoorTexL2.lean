/- The walk of RationalTexts at a valid pair. -/
import Derived.Test.YtlglagihekadhaaDoorTexL
namespace Go.Proofs.YtlglagihekadhaaDoor
open Go.RowKit Go.Lib

set_option maxRecDepth 10000 in
set_option maxHeartbeats 8000000 in
theorem texts_ok (n d : Int) (n0 : -9223372036854775808 ≤ n) (n1 : n ≤ 9223372036854775807) (d0 : -9223372036854775808 ≤ d) (d1 : d ≤ 9223372036854775807) (hv : validB n d = true) (l : List UInt8) (hl : l.length ≤ 100) (w : World) (hw : EnvW w) :
    Calls Tryd.prog 3 #[.agg #[.int .i64 n, .int .i64 d], st l] w fun e w' => e = .returned (.bool true) ∧ Below w.heap.size w w' := by
  have hlz : ¬ (100 : Int) < (l.length : Int) := by omega
  have hts : textS n d = tx n (full d) := by unfold textS; rw [hv, if_pos rfl]
  obtain ⟨oD, D1, _⟩ := textS_canon (tx_ne n (full d)) hts
  have hb : 0 ≤ d ∧ d ≤ 1152921504606846976 ∧ -1152921504606846976 ≤ n ∧ n ≤ 1152921504606846976 ∧ (d = 0 → n = 0) := by
    have o := okR_of hv; unfold okR at o; omega
  have hfl : full d ≤ 1152921504606846976 := by unfold full; split <;> omega
  have hlt : (tx n (full d)).length ≤ 100 := by
    have e1 := itoa_len hb.2.2.1 hb.2.2.2.1
    have e2 := itoa_len (n := full d) (by omega) hfl
    unfold tx
    split
    · omega
    · rw [List.length_append, List.length_cons]; omega
  have TX := fun w h => box (text_any n d n0 n1 d0 d1 w h)
  rw [hts] at TX
  have PT := fun w h => box (parse_any (tx n (full d)) hlt w h)
  rw [refP_tx oD D1] at PT
  simp only [parV] at PT
  have RT := fun w => box (rtext_any n d hb.2.2.2.2 hb.2.2.1 hb.2.2.2.1 hb.1 hb.2.1 w)
  have CM := fun w => box (cmp_valid n (full d) n d (validB_of oD) hv w)
  have hc : cmpI (n * full d) (n * full (full d)) = 0 := by
    rw [show full (full d) = full d by rw [full, if_neg (by omega)]]; unfold cmpI; simp
  rw [hc] at CM
  have hDz : (full d == 0) = false := by rw [beq_eq_false_iff_ne]; omega
  generalize tx n (full d) = T at TX PT RT
  generalize full d = D at PT CM hDz
  clear hts oD D1 hfl hlt hb hc
  have VA := fun w => box (rvalid_prog n d n0 n1 d0 d1 hv w)
  have PA := fun w h => box (parse_any l hl w h)
  have RP := fun w => box (rparse_any l hl w)
  go_enter Tryd.func3, Tryd.ntmps3
  go_wp2_with fail
  refine (awake_any _).mono ?_
  rintro e w1 ⟨rfl, hb1⟩
  have kb : Below w.heap.size w w1 := by first | exact hb1 | exact ((Below.refl w.heap.size w).alloc (Nat.le_refl _) _).trans (hb1.mono (by simp))
  have q0 : w1.cell? ⟨w.heap.size, 0, none⟩ = some (.int .i64 n) := keepb hb1 (by simp [go_sem])
  have q1 : w1.cell? ⟨w.heap.size, 1, none⟩ = some (.int .i64 d) := keepb hb1 (by simp [go_sem])
  clear hb1
  go_wp2_with fail
  refine (TX _ (hw.below kb).tab).out.mono ?_
  rintro e w2 ⟨rfl, hb2⟩
  replace kb : Below w.heap.size w w2 := kb.trans (hb2.mono kb.size)
  replace q0 := keepb hb2 q0
  replace q1 := keepb hb2 q1
  clear hb2
  go_wp2_with fail
  refine (VA _).out.mono ?_
  rintro e w3 ⟨rfl, hb3⟩
  replace kb : Below w.heap.size w w3 := kb.trans (hb3.mono kb.size)
  replace q0 := keepb hb3 q0
  replace q1 := keepb hb3 q1
  clear hb3
  go_wp2_with fail
  refine (PT _ (hw.below kb)).out.mono ?_
  rintro e w4 ⟨rfl, hb4⟩
  replace kb : Below w.heap.size w w4 := kb.trans (hb4.mono kb.size)
  replace q0 := keepb hb4 q0
  replace q1 := keepb hb4 q1
  clear hb4
  have x0 : (w4.alloc (.cells #[.int .i64 n, .int .i64 D] 23)).cell? ⟨w4.heap.size, 0, none⟩ = some (.int .i64 n) := by simp [go_sem]
  have x1 : (w4.alloc (.cells #[.int .i64 n, .int .i64 D] 23)).cell? ⟨w4.heap.size, 1, none⟩ = some (.int .i64 D) := by simp [go_sem]
  replace q0 : (w4.alloc (.cells #[.int .i64 n, .int .i64 D] 23)).cell? ⟨w.heap.size, 0, none⟩ = some (.int .i64 n) := keepb ((Below.refl _ _).alloc (Nat.le_refl _) _) q0
  replace q1 : (w4.alloc (.cells #[.int .i64 n, .int .i64 D] 23)).cell? ⟨w.heap.size, 1, none⟩ = some (.int .i64 d) := keepb ((Below.refl _ _).alloc (Nat.le_refl _) _) q1
  replace kb := kb.alloc kb.size (.cells #[.int .i64 n, .int .i64 D] 23)
  go_wp2_with fail
  refine (plain_any n d _).mono ?_
  rintro e w5 ⟨rfl, hb5⟩
  replace kb : Below w.heap.size w w5 := kb.trans (hb5.mono kb.size)
  replace q0 := keepb hb5 q0
  replace q1 := keepb hb5 q1
  replace x0 := keepb hb5 x0
  replace x1 := keepb hb5 x1
  clear hb5
  go_wp2_with fail
  refine ((RT _).out).mono ?_
  rintro e w6 ⟨rfl, hb6⟩
  replace kb : Below w.heap.size w w6 := kb.trans (hb6.mono kb.size)
  replace q0 := keepb hb6 q0
  replace q1 := keepb hb6 q1
  replace x0 := keepb hb6 x0
  replace x1 := keepb hb6 x1
  clear hb6
  go_wp2_with fail
  refine ((CM _).out).mono ?_
  rintro e w7 ⟨rfl, hb7⟩
  replace kb : Below w.heap.size w w7 := kb.trans (hb7.mono kb.size)
  replace q0 := keepb hb7 q0
  replace q1 := keepb hb7 q1
  replace x0 := keepb hb7 x0
  replace x1 := keepb hb7 x1
  clear hb7
  clear RT CM PT TX VA
  cases hr : refP l with
  | none =>
    rw [hr] at PA RP
    simp only [parV, refV] at PA RP
    go_wp2_with fail
    refine (PA _ (hw.below kb)).out.mono ?_
    rintro e w8 ⟨rfl, hb8⟩
    replace kb : Below w.heap.size w w8 := kb.trans (hb8.mono kb.size)
    clear hb8
    go_wp2_with fail
    refine (RP _).out.mono ?_
    rintro e w9 ⟨rfl, hb9⟩
    have y0 : w9.cell? ⟨w8.heap.size, 0, none⟩ = some (.int .i64 0) := keepb hb9 (by simp [go_sem])
    have y1 : w9.cell? ⟨w8.heap.size, 1, none⟩ = some (.int .i64 0) := keepb hb9 (by simp [go_sem])
    replace kb : Below w.heap.size w w9 := (kb.alloc kb.size _).trans (hb9.mono (Nat.le_trans kb.size (by simp)))
    have y0' : (w9.alloc (.cells #[.int .i64 0, .int .i64 0] 31)).cell? ⟨w8.heap.size, 0, none⟩ = some (.int .i64 0) := keepb ((Below.refl _ _).alloc (Nat.le_refl _) _) y0
    have y1' : (w9.alloc (.cells #[.int .i64 0, .int .i64 0] 31)).cell? ⟨w8.heap.size, 1, none⟩ = some (.int .i64 0) := keepb ((Below.refl _ _).alloc (Nat.le_refl _) _) y1
    clear hb9
    go_wp2_with fail
    refine bodyPost_ret (v := .bool true) (by simp [results, Tryd.results3, go_sem, *]) rfl ⟨rfl, kb.alloc kb.size _⟩
  | some q =>
    obtain ⟨x, y⟩ := q
    rw [hr] at PA RP
    simp only [parV, refV] at PA RP
    go_wp2_with fail
    refine (PA _ (hw.below kb)).out.mono ?_
    rintro e w8 ⟨rfl, hb8⟩
    replace kb : Below w.heap.size w w8 := kb.trans (hb8.mono kb.size)
    clear hb8
    go_wp2_with fail
    refine (RP _).out.mono ?_
    rintro e w9 ⟨rfl, hb9⟩
    have y0 : w9.cell? ⟨w8.heap.size, 0, none⟩ = some (.int .i64 x) := keepb hb9 (by simp [go_sem])
    have y1 : w9.cell? ⟨w8.heap.size, 1, none⟩ = some (.int .i64 y) := keepb hb9 (by simp [go_sem])
    replace kb : Below w.heap.size w w9 := (kb.alloc kb.size _).trans (hb9.mono (Nat.le_trans kb.size (by simp)))
    have y0' : (w9.alloc (.cells #[.int .i64 x, .int .i64 y] 31)).cell? ⟨w8.heap.size, 0, none⟩ = some (.int .i64 x) := keepb ((Below.refl _ _).alloc (Nat.le_refl _) _) y0
    have y1' : (w9.alloc (.cells #[.int .i64 x, .int .i64 y] 31)).cell? ⟨w8.heap.size, 1, none⟩ = some (.int .i64 y) := keepb ((Below.refl _ _).alloc (Nat.le_refl _) _) y1
    clear hb9
    go_wp2_with fail
    have z0 : (w9.alloc (.cells #[.int .i64 x, .int .i64 y] 31)).cell? ⟨w9.heap.size, 0, none⟩ = some (.int .i64 x) := by simp [go_sem]
    have z1 : (w9.alloc (.cells #[.int .i64 x, .int .i64 y] 31)).cell? ⟨w9.heap.size, 1, none⟩ = some (.int .i64 y) := by simp [go_sem]
    replace kb := kb.alloc kb.size (.cells #[.int .i64 x, .int .i64 y] 31)
    generalize w9.alloc (.cells #[.int .i64 x, .int .i64 y] 31) = wa at kb y0' y1' z0 z1 ⊢
    go_region_with (go_at_call 9; refine (plain_any x y _).mono ?_; rintro e wp ⟨rfl, hbp⟩; have t0 := keepb hbp z0; have t1 := keepb hbp z1; have kbp := kb.drew.trans (hbp.mono kb.size))
    all_goals (go_wp2_with fail)
    all_goals (refine bodyPost_ret (v := .bool true) (by simp [results, Tryd.results3, go_sem, *]) rfl ⟨rfl, ?_⟩)
    all_goals (first | exact kbp | exact kbp.drew | exact below_drewN _ kbp)
end Go.Proofs.YtlglagihekadhaaDoor
