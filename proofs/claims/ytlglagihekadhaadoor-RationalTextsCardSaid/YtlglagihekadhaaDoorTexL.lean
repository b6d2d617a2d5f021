/- The walk of RationalTexts. -/
import Derived.Test.YtlglagihekadhaaDoorTexN
import Derived.Test.YtlglagihekadhaaDoorRatH
import Derived.Test.YtlglagihekadhaaDoorRatG
namespace Go.Proofs.YtlglagihekadhaaDoor
open Go.RowKit Go.Lib

set_option maxRecDepth 10000 in
set_option maxHeartbeats 8000000 in
theorem texts_long (n d : Int) (s : ByteArray) (hl : 100 < s.size) (w : World) :
    Calls Tryd.prog 3 #[.agg #[.int .i64 n, .int .i64 d], .string s] w fun e w' => e = .returned (.bool true) ∧ Below w.heap.size w w' := by
  have hlz : (100 : Int) < (s.size : Int) := by omega
  go_enter Tryd.func3, Tryd.ntmps3
  go_wp2_with fail
  refine (awake_any _).mono ?_
  rintro e w1 ⟨rfl, hb1⟩
  have kb : Below w.heap.size w w1 := by first | exact hb1 | exact ((Below.refl w.heap.size w).alloc (Nat.le_refl _) _).trans (hb1.mono (by simp))
  clear hb1
  go_wp2_with fail
  refine (awake_any _).mono ?_
  rintro e w2 ⟨rfl, hb2⟩
  replace kb : Below w.heap.size w w2 := kb.trans (hb2.mono kb.size)
  clear hb2
  go_wp2_with fail
  refine bodyPost_ret (v := .bool true) (by simp [results, Tryd.results3, go_sem, *]) rfl ⟨rfl, kb⟩
theorem plain_any (n d : Int) (w : World) :
    Calls Tryd.prog 9 #[.agg #[.int .i64 n, .int .i64 d]] w fun e w' => e = .returned (.agg #[.int .i64 n, .int .i64 d]) ∧ Below w.heap.size w w' := by
  go_enter Tryd.func9, Tryd.ntmps9
  go_wp2_with fail
  refine bodyPost_ret (v := .agg #[.int .i64 n, .int .i64 d]) (by simp [results, Tryd.results9, go_sem]) rfl ⟨rfl, ?_⟩
  repeat (first | exact Below.refl _ _ | assumption | (refine Below.alloc ?_ (by (try simp) <;> omega) _) | (refine Below.setCell ?_ (by (try simp) <;> omega) _) | (refine Below.drew ?_) | (refine below_drewN _ ?_))
theorem rvalid_prog (n d : Int) (n0 : -9223372036854775808 ≤ n) (n1 : n ≤ 9223372036854775807) (d0 : -9223372036854775808 ≤ d) (d1 : d ≤ 9223372036854775807) {b : Bool} (hv : validB n d = b) (w : World) :
    Calls Tryd.prog 6 #[.agg #[.int .i64 n, .int .i64 d]] w fun e w' => e = .returned (.bool b) ∧ Below w.heap.size w w' := by
  subst hv
  exact valid_any n d n0 n1 d0 d1 w

set_option maxRecDepth 10000 in
set_option maxHeartbeats 8000000 in
theorem texts_bad (n d : Int) (n0 : -9223372036854775808 ≤ n) (n1 : n ≤ 9223372036854775807) (d0 : -9223372036854775808 ≤ d) (d1 : d ≤ 9223372036854775807) (hv : validB n d = false) (l : List UInt8) (hl : l.length ≤ 100) (w : World) (hw : EnvW w) :
    Calls Tryd.prog 3 #[.agg #[.int .i64 n, .int .i64 d], st l] w fun e w' => e = .returned (.bool true) ∧ Below w.heap.size w w' := by
  have hlz : ¬ (100 : Int) < (l.length : Int) := by omega
  have TX := fun w => box (text_bad n d n0 n1 d0 d1 hv w)
  have VA := fun w => box (rvalid_prog n d n0 n1 d0 d1 hv w)
  have PA := fun w h => box (parse_any l hl w h)
  have RP := fun w => box (rparse_any l hl w)
  go_enter Tryd.func3, Tryd.ntmps3
  go_wp2_with fail
  refine (awake_any _).mono ?_
  rintro e w1 ⟨rfl, hb1⟩
  have kb : Below w.heap.size w w1 := by first | exact hb1 | exact ((Below.refl w.heap.size w).alloc (Nat.le_refl _) _).trans (hb1.mono (by simp))
  have q0 : w1.cell? ⟨w.heap.size, 0, none⟩ = some (.int .i64 n) := keepb hb1 (by simp [go_sem])
  have q1 : w1.cell? ⟨w.heap.size, 1, none⟩ = some (.int .i64 d) := keepb hb1 (by simp [go_sem])
  clear hb1
  go_wp2_with fail
  refine (TX _).out.mono ?_
  rintro e w2 ⟨rfl, hb2⟩
  replace kb : Below w.heap.size w w2 := kb.trans (hb2.mono kb.size)
  replace q0 := keepb hb2 q0
  replace q1 := keepb hb2 q1
  clear hb2
  go_wp2_with fail
  refine (VA _).out.mono ?_
  rintro e w3 ⟨rfl, hb3⟩
  replace kb : Below w.heap.size w w3 := kb.trans (hb3.mono kb.size)
  replace q0 := keepb hb3 q0
  replace q1 := keepb hb3 q1
  clear hb3
  cases hr : refP l with
  | none =>
    rw [hr] at PA RP
    simp only [parV, refV] at PA RP
    go_wp2_with fail
    refine (PA _ (hw.below kb)).out.mono ?_
    rintro e w8 ⟨rfl, hb8⟩
    replace kb : Below w.heap.size w w8 := kb.trans (hb8.mono kb.size)
    clear hb8
    go_wp2_with fail
    refine (RP _).out.mono ?_
    rintro e w9 ⟨rfl, hb9⟩
    have y0 : w9.cell? ⟨w8.heap.size, 0, none⟩ = some (.int .i64 0) := keepb hb9 (by simp [go_sem])
    have y1 : w9.cell? ⟨w8.heap.size, 1, none⟩ = some (.int .i64 0) := keepb hb9 (by simp [go_sem])
    replace kb : Below w.heap.size w w9 := (kb.alloc kb.size _).trans (hb9.mono (Nat.le_trans kb.size (by simp)))
    have y0' : (w9.alloc (.cells #[.int .i64 0, .int .i64 0] 31)).cell? ⟨w8.heap.size, 0, none⟩ = some (.int .i64 0) := keepb ((Below.refl _ _).alloc (Nat.le_refl _) _) y0
    have y1' : (w9.alloc (.cells #[.int .i64 0, .int .i64 0] 31)).cell? ⟨w8.heap.size, 1, none⟩ = some (.int .i64 0) := keepb ((Below.refl _ _).alloc (Nat.le_refl _) _) y1
    clear hb9
    go_wp2_with fail
    refine bodyPost_ret (v := .bool true) (by simp [results, Tryd.results3, go_sem, *]) rfl ⟨rfl, kb.alloc kb.size _⟩
  | some q =>
    obtain ⟨x, y⟩ := q
    rw [hr] at PA RP
    simp only [parV, refV] at PA RP
    go_wp2_with fail
    refine (PA _ (hw.below kb)).out.mono ?_
    rintro e w8 ⟨rfl, hb8⟩
    replace kb : Below w.heap.size w w8 := kb.trans (hb8.mono kb.size)
    clear hb8
    go_wp2_with fail
    refine (RP _).out.mono ?_
    rintro e w9 ⟨rfl, hb9⟩
    have y0 : w9.cell? ⟨w8.heap.size, 0, none⟩ = some (.int .i64 x) := keepb hb9 (by simp [go_sem])
    have y1 : w9.cell? ⟨w8.heap.size, 1, none⟩ = some (.int .i64 y) := keepb hb9 (by simp [go_sem])
    replace kb : Below w.heap.size w w9 := (kb.alloc kb.size _).trans (hb9.mono (Nat.le_trans kb.size (by simp)))
    have y0' : (w9.alloc (.cells #[.int .i64 x, .int .i64 y] 31)).cell? ⟨w8.heap.size, 0, none⟩ = some (.int .i64 x) := keepb ((Below.refl _ _).alloc (Nat.le_refl _) _) y0
    have y1' : (w9.alloc (.cells #[.int .i64 x, .int .i64 y] 31)).cell? ⟨w8.heap.size, 1, none⟩ = some (.int .i64 y) := keepb ((Below.refl _ _).alloc (Nat.le_refl _) _) y1
    clear hb9
    go_wp2_with fail
    have z0 : (w9.alloc (.cells #[.int .i64 x, .int .i64 y] 31)).cell? ⟨w9.heap.size, 0, none⟩ = some (.int .i64 x) := by simp [go_sem]
    have z1 : (w9.alloc (.cells #[.int .i64 x, .int .i64 y] 31)).cell? ⟨w9.heap.size, 1, none⟩ = some (.int .i64 y) := by simp [go_sem]
    replace kb := kb.alloc kb.size (.cells #[.int .i64 x, .int .i64 y] 31)
    generalize w9.alloc (.cells #[.int .i64 x, .int .i64 y] 31) = wa at kb y0' y1' z0 z1 ⊢
    go_region_with (go_at_call 9; refine (plain_any x y _).mono ?_; rintro e wp ⟨rfl, hbp⟩; have t0 := keepb hbp z0; have t1 := keepb hbp z1; have kbp := kb.drew.trans (hbp.mono kb.size))
    all_goals (go_wp2_with fail)
    all_goals (refine bodyPost_ret (v := .bool true) (by simp [results, Tryd.results3, go_sem, *]) rfl ⟨rfl, ?_⟩)
    all_goals (first | exact kbp | exact kbp.drew | exact below_drewN _ kbp)
end Go.Proofs.YtlglagihekadhaaDoor
