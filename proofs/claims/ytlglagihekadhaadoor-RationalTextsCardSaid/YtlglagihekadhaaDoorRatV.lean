/- Contracts of Valid, settle, bounded. -/
import Derived.Test.YtlglagihekadhaaDoorRatP
import Derived.Test.YtlglagihekadhaaDoorRatQ
namespace Go.Proofs.YtlglagihekadhaaDoor
open Go.RowKit Go.Shelf

/-- A value is valid (P1.1). -/
def validB (n d : Int) : Bool := decide ((n = 0 ∧ d = 0) ∨ (1 ≤ d ∧ d ≤ 1152921504606846976 ∧ -1152921504606846976 ≤ n ∧ n ≤ 1152921504606846976 ∧ gd n d = 1))

theorem okR_of {n d : Int} (h : validB n d = true) : okR n d := by unfold validB at h; rw [decide_eq_true_iff] at h; exact h
theorem validB_of {n d : Int} (h : okR n d) : validB n d = true := by unfold validB; rw [decide_eq_true_iff]; exact h
theorem mag_q (n : Int) (h1 : -9223372036854775808 ≤ n) (h2 : n ≤ 9223372036854775807) (w : World) (k : Nat) :
    Calls Tryd.prog 18 #[.int .i64 n] (w.drewN k) fun e w' => e = .returned (.int .u64 (mag n)) ∧ ∃ m, w' = w.drewN m :=
  Calls.quiet_of_same ((mag_any n h1 h2 _).mono fun _ _ ⟨he, hw⟩ => ⟨he, hw.symm⟩)
theorem divisor_q (a b : Int) (a0 : 0 ≤ a) (a1 : a ≤ 18446744073709551615) (b0 : 0 ≤ b) (b1 : b ≤ 18446744073709551615) (w : World) (k : Nat) :
    Calls Tryd.prog 17 #[.int .u64 a, .int .u64 b] (w.drewN k) fun e w' => e = .returned (.int .u64 (gd a b)) ∧ ∃ m, w' = w.drewN m :=
  Calls.quiet_of (divisor_any a b a0 a1 b0 b1 _)

theorem ret_b {a b : Bool} (h : a = b) : Ending.returned (.bool a) = .returned (.bool b) := by rw [h]
theorem valid_any (n d : Int) (n0 : -9223372036854775808 ≤ n) (n1 : n ≤ 9223372036854775807) (d0 : -9223372036854775808 ≤ d) (d1 : d ≤ 9223372036854775807) (w : World) :
    Calls Tryd.prog 6 #[.agg #[.int .i64 n, .int .i64 d]] w fun e w' => e = .returned (.bool (validB n d)) ∧ Below w.heap.size w w' := by
  by_cases z : n = 0 ∧ d = 0
  · obtain ⟨rfl, rfl⟩ := z
    have E : Hid (validB 0 0 = true) := Lib.hid (by simp [validB])
    go_enter Tryd.func6, Tryd.ntmps6
    go_wp2_with fail
    go_ret
    exact ⟨ret_b E.out.symm, (Below.refl _ _).alloc (by simp) _⟩
  · have hz : (n == 0 && d == 0) = false := by
      rw [Bool.and_eq_false_iff, beq_eq_false_iff_ne, beq_eq_false_iff_ne]; omega
    have hz' : (!(n == 0) || !(d == 0)) = true := by rw [← Bool.not_and, hz]; rfl
    by_cases c0 : d = 0
    · subst c0
      have E : Hid (validB n 0 = false) := Lib.hid (by unfold validB; rw [decide_eq_false_iff_not]; omega)
      have hn0 : (n == 0) = false := by rw [beq_eq_false_iff_ne]; omega
      clear z
      go_enter Tryd.func6, Tryd.ntmps6
      go_wp2_with fail
      all_goals (go_ret; exact ⟨ret_b E.out.symm, (Below.refl _ _).alloc (by simp) _⟩)
    have hd0 : (d == 0) = false := by rw [beq_eq_false_iff_ne]; exact c0
    clear c0
    by_cases c1 : d < 1
    · have E : Hid (validB n d = false) := Lib.hid (by unfold validB; rw [decide_eq_false_iff_not]; omega)
      clear z
      go_enter Tryd.func6, Tryd.ntmps6
      go_wp2_with fail
      all_goals (go_ret; exact ⟨ret_b E.out.symm, (Below.refl _ _).alloc (by simp) _⟩)
    by_cases c2 : 1152921504606846976 < d
    · have E : Hid (validB n d = false) := Lib.hid (by unfold validB; rw [decide_eq_false_iff_not]; omega)
      clear z
      go_enter Tryd.func6, Tryd.ntmps6
      go_wp2_with fail
      all_goals (go_ret; exact ⟨ret_b E.out.symm, (Below.refl _ _).alloc (by simp) _⟩)
    by_cases c3 : n < -1152921504606846976
    · have E : Hid (validB n d = false) := Lib.hid (by unfold validB; rw [decide_eq_false_iff_not]; omega)
      clear z
      go_enter Tryd.func6, Tryd.ntmps6
      go_wp2_with fail
      all_goals (go_ret; exact ⟨ret_b E.out.symm, (Below.refl _ _).alloc (by simp) _⟩)
    by_cases c4 : 1152921504606846976 < n
    · have E : Hid (validB n d = false) := Lib.hid (by unfold validB; rw [decide_eq_false_iff_not]; omega)
      clear z
      go_enter Tryd.func6, Tryd.ntmps6
      go_wp2_with fail
      all_goals (go_ret; exact ⟨ret_b E.out.symm, (Below.refl _ _).alloc (by simp) _⟩)
    have E : Hid (validB n d = (gd (mag n) (mag d) == 1)) := Lib.hid (by
      rw [gd_mag]; unfold validB
      rw [Bool.eq_iff_iff, decide_eq_true_iff, beq_iff_eq]
      omega)
    clear z
    have m1 := mag_nonneg n
    have m2 : mag n ≤ 9223372036854775808 := mag_le (by omega) (by omega)
    have m3 := mag_nonneg d
    have m4 : mag d ≤ 9223372036854775808 := mag_le (by omega) (by omega)
    go_enter Tryd.func6, Tryd.ntmps6
    go_wp2_with fail
    all_goals
      go_quiet ((first | (go_at_call 18; exact mag_q _ (by omega) (by omega) _ _) | (go_at_call 17; exact divisor_q _ _ (by omega) (by omega) (by omega) (by omega) _ _)))
      go_wp2_with fail
      go_ret
      exact ⟨ret_b E.out.symm, below_drewN _ ((Below.refl _ _).alloc (by simp) _)⟩

theorem rat_eq {a b c d : Int} (h : a = c) (h' : b = d) : Ending.returned (.agg #[.int .i64 a, .int .i64 b]) = .returned (.agg #[.int .i64 c, .int .i64 d]) := by rw [h, h']
theorem settle_any (n d : Int) (hv : d = 0 → n = 0) (w : World) :
    Calls Tryd.prog 15 #[.agg #[.int .i64 n, .int .i64 d]] w fun e w' => e = .returned (.agg #[.int .i64 n, .int .i64 (full d)]) ∧ Below w.heap.size w w' := by
  by_cases h : d = 0
  · obtain rfl := hv h
    subst h
    go_enter Tryd.func15, Tryd.ntmps15
    go_wp2_with fail
    refine bodyPost_ret (v := .agg #[.int .i64 0, .int .i64 1]) (by simp [results, Tryd.results15, go_sem]) rfl ⟨rfl, ?_⟩
    repeat (first | exact Below.refl _ _ | (refine Below.alloc ?_ (by simp <;> omega) _) | (refine Below.setCell ?_ (by simp <;> omega) _))
  · have E : Hid (full d = d) := Lib.hid (if_neg h)
    have hd : (d == 0) = false := by simp [h]
    clear h hv
    go_enter Tryd.func15, Tryd.ntmps15
    go_wp2_with fail
    refine bodyPost_ret (v := .agg #[.int .i64 n, .int .i64 d]) (by simp [results, Tryd.results15, go_sem]) rfl ⟨rat_eq rfl E.out.symm, ?_⟩
    repeat (first | exact Below.refl _ _ | (refine Below.alloc ?_ (by simp <;> omega) _) | (refine Below.setCell ?_ (by simp <;> omega) _))
end Go.Proofs.YtlglagihekadhaaDoor
