/- Contracts of the reference's functions. -/
import Derived.Test.YtlglagihekadhaaDoorRatI
namespace Go.Proofs.YtlglagihekadhaaDoor
open Go.RowKit Go.Shelf

theorem rabs_any (n : Int) (h1 : -9223372036854775808 < n) (h2 : n ≤ 9223372036854775807) (w : World) :
    Calls Tryd.prog 38 #[.int .i64 n] w fun e w' => e = .returned (.int .i64 (mag n)) ∧ w = w' := by
  by_cases h : n < 0
  · have E : Hid (mag n = -n) := Lib.hid (if_pos h)
    go_enter Tryd.func38, Tryd.ntmps38
    go_wp2
    go_ret
    exact ⟨ret_int (by rw [E.out]), rfl⟩
  · have E : Hid (mag n = n) := Lib.hid (if_neg h)
    go_enter Tryd.func38, Tryd.ntmps38
    go_wp2
    go_ret
    exact ⟨ret_int (by rw [E.out]), rfl⟩

/-- The reference's Gcd for numbers that are not negative. -/
theorem rgcd_any (a b : Int) (a0 : 0 ≤ a) (a1 : a ≤ 9223372036854775807) (b0 : 0 ≤ b) (b1 : b ≤ 9223372036854775807) (w : World) :
    Calls Tryd.prog 37 #[.int .i64 a, .int .i64 b] w fun e w' => e = .returned (.int .i64 (gd a b)) ∧ ∃ n, w' = w.drewN n := by
  go_enter Tryd.func37, Tryd.ntmps37
  go_wp2
  go_loopw [0, 1] (fun t0 t1 wr => ∃ x y : Int, 0 ≤ x ∧ x ≤ 9223372036854775807 ∧ 0 ≤ y ∧ y ≤ 9223372036854775807 ∧ t0 = .int .i64 x ∧ t1 = .int .i64 y ∧ gd x y = gd a b ∧ ∃ n, wr = w.drewN n) (fun _ t1 _ => (intOf t1).toNat)
  case atStart => exact ⟨a, b, a0, a1, b0, b1, rfl, rfl, rfl, 0, rfl⟩
  case round =>
    obtain ⟨x, y, x0, x1, y0, y1, rfl, rfl, hg, n, rfl⟩ := hrel
    have G := Lib.hid hg
    clear hg
    by_cases hy : y = 0
    · subst hy
      go_wp2
      go_ret
      exact ⟨ret_int (by rw [← G.out, gd_zero x x0]), n, rfl⟩
    · have hp : 1 ≤ y := by omega
      have hb : (y != 0) = true := by simp [hy]
      have hr0 : 0 ≤ x % y := Int.emod_nonneg _ hy
      have hr1 : x % y < y := Int.emod_lt_of_pos _ (by omega)
      clear hy
      go_wp2
      go_quiet (fail)
      go_roundw
      case rel => exact ⟨_, _, _, _, _, _, _, _, ⟨y, x % y, y0, y1, hr0, by omega, rfl, rfl, (gd_step x y x0 y0).trans G.out, _, World.drewN_drewN ..⟩, rfl⟩
      case measure => simp [intOf]; omega
/-- .. and that it returns for all numbers, and not 0. -/
theorem rgcd_all (a b : Int) (a0 : -9223372036854775808 ≤ a) (a1 : a ≤ 9223372036854775807) (b0 : -9223372036854775808 ≤ b) (b1 : b ≤ 9223372036854775807) (hab : b ≠ 0) (w : World) :
    Calls Tryd.prog 37 #[.int .i64 a, .int .i64 b] w fun e w' => ∃ g : Int, g ≠ 0 ∧ -9223372036854775808 ≤ g ∧ g ≤ 9223372036854775807 ∧ e = .returned (.int .i64 g) ∧ ∃ n, w' = w.drewN n := by
  go_enter Tryd.func37, Tryd.ntmps37
  go_wp2
  go_loopw [0, 1] (fun t0 t1 wr => ∃ x y : Int, -9223372036854775808 ≤ x ∧ x ≤ 9223372036854775807 ∧ -9223372036854775808 ≤ y ∧ y ≤ 9223372036854775807 ∧ (y = 0 → x ≠ 0) ∧ t0 = .int .i64 x ∧ t1 = .int .i64 y ∧ ∃ n, wr = w.drewN n) (fun _ t1 _ => (intOf t1).natAbs)
  case atStart => exact ⟨a, b, a0, a1, b0, b1, fun h => absurd h hab, rfl, rfl, 0, rfl⟩
  case round =>
    obtain ⟨x, y, x0, x1, y0, y1, hne, rfl, rfl, n, rfl⟩ := hrel
    have HN := Lib.hid hne
    clear hne
    by_cases hy : y = 0
    · subst hy
      go_wp2
      go_ret
      exact ⟨x, by simpa using HN.out, x0, x1, rfl, n, rfl⟩
    · have hb : (y != 0) = true := by simp [hy]
      have hr : (x.tmod y).natAbs < y.natAbs := by rw [Int.natAbs_tmod]; exact Nat.mod_lt _ (by omega)
      have r0 : -9223372036854775808 ≤ x.tmod y := by omega
      have hne' : y ≠ 0 := hy
      have r1 : x.tmod y ≤ 9223372036854775807 := by omega
      go_wp2
      go_quiet (fail)
      go_roundw
      case rel => exact ⟨_, _, _, _, _, _, _, _, ⟨y, x.tmod y, y0, y1, r0, r1, fun _ => hne', rfl, rfl, _, World.drewN_drewN ..⟩, rfl⟩
      case measure => (have hm := Nat.mod_lt x.natAbs (show 0 < y.natAbs by omega); simp [intOf]; omega)

theorem rvalid_zero (w : World) :
    Calls Tryd.prog 25 #[.agg #[.int .i64 0, .int .i64 0]] w fun e w' => e = .returned (.bool true) ∧ Below w.heap.size w w' := by
  go_enter Tryd.func25, Tryd.ntmps25
  go_wp2_with fail
  go_ret
  exact ⟨rfl, (Below.refl _ _).alloc (by simp) _⟩

theorem rabs_q (n : Int) (h1 : -9223372036854775808 < n) (h2 : n ≤ 9223372036854775807) (w : World) (k : Nat) :
    Calls Tryd.prog 38 #[.int .i64 n] (w.drewN k) fun e w' => e = .returned (.int .i64 (mag n)) ∧ ∃ m, w' = w.drewN m :=
  Calls.quiet_of_same ((rabs_any n h1 h2 _).mono fun _ _ ⟨he, hw⟩ => ⟨he, hw.symm⟩)
theorem rgcd_q (a b : Int) (a0 : 0 ≤ a) (a1 : a ≤ 9223372036854775807) (b0 : 0 ≤ b) (b1 : b ≤ 9223372036854775807) (w : World) (k : Nat) :
    Calls Tryd.prog 37 #[.int .i64 a, .int .i64 b] (w.drewN k) fun e w' => e = .returned (.int .i64 (gd a b)) ∧ ∃ m, w' = w.drewN m :=
  Calls.quiet_of (rgcd_any a b a0 a1 b0 b1 _)

set_option maxHeartbeats 1000000 in
/-- The reference's Valid is the same test. -/
theorem rvalid_any (n d : Int) (n0 : -9223372036854775808 ≤ n) (n1 : n ≤ 9223372036854775807) (d0 : -9223372036854775808 ≤ d) (d1 : d ≤ 9223372036854775807) (w : World) :
    Calls Tryd.prog 25 #[.agg #[.int .i64 n, .int .i64 d]] w fun e w' => e = .returned (.bool (validB n d)) ∧ Below w.heap.size w w' := by
  by_cases z : n = 0 ∧ d = 0
  · obtain ⟨rfl, rfl⟩ := z
    rw [show validB 0 0 = true by simp [validB]]
    exact rvalid_zero w
  have hz : ((n == 0) = true ∧ (d == 0) = false) ∨ (n == 0) = false := by
    by_cases h : n = 0
    · exact .inl ⟨by simp [h], by rw [beq_eq_false_iff_ne]; omega⟩
    · exact .inr (by rw [beq_eq_false_iff_ne]; exact h)
  by_cases c1 : d < 1
  · have E : Hid (validB n d = false) := Lib.hid (by unfold validB; rw [decide_eq_false_iff_not]; omega)
    have k1 : decide (1 ≤ d) = false := decide_eq_false (by omega)
    clear z
    rcases hz with ⟨z1, z2⟩ | z1
    all_goals
      go_enter Tryd.func25, Tryd.ntmps25
      go_wp2_with fail
      go_quiet (fail)
      go_wp2_with fail
      go_ret
      exact ⟨ret_b E.out.symm, below_drewN _ ((Below.refl _ _).alloc (by simp) _)⟩
  have k1 : decide (1 ≤ d) = true := decide_eq_true (by omega)
  by_cases c2 : 1152921504606846976 < d
  · have E : Hid (validB n d = false) := Lib.hid (by unfold validB; rw [decide_eq_false_iff_not]; omega)
    have k2 : decide (d ≤ 1152921504606846976) = false := decide_eq_false (by omega)
    clear z
    rcases hz with ⟨z1, z2⟩ | z1
    all_goals
      go_enter Tryd.func25, Tryd.ntmps25
      go_wp2_with fail
      go_quiet (fail)
      go_wp2_with fail
      go_ret
      exact ⟨ret_b E.out.symm, below_drewN _ ((Below.refl _ _).alloc (by simp) _)⟩
  have k2 : decide (d ≤ 1152921504606846976) = true := decide_eq_true (by omega)
  by_cases c3 : n < -1152921504606846976
  · have E : Hid (validB n d = false) := Lib.hid (by unfold validB; rw [decide_eq_false_iff_not]; omega)
    have k3 : decide (-1152921504606846976 ≤ n) = false := decide_eq_false (by omega)
    clear z
    rcases hz with ⟨z1, z2⟩ | z1
    all_goals
      go_enter Tryd.func25, Tryd.ntmps25
      go_wp2_with fail
      go_quiet (fail)
      go_wp2_with fail
      go_ret
      exact ⟨ret_b E.out.symm, below_drewN _ ((Below.refl _ _).alloc (by simp) _)⟩
  have k3 : decide (-1152921504606846976 ≤ n) = true := decide_eq_true (by omega)
  by_cases c4 : 1152921504606846976 < n
  · have E : Hid (validB n d = false) := Lib.hid (by unfold validB; rw [decide_eq_false_iff_not]; omega)
    have k4 : decide (n ≤ 1152921504606846976) = false := decide_eq_false (by omega)
    clear z
    rcases hz with ⟨z1, z2⟩ | z1
    all_goals
      go_enter Tryd.func25, Tryd.ntmps25
      go_wp2_with fail
      go_quiet (fail)
      go_wp2_with fail
      go_ret
      exact ⟨ret_b E.out.symm, below_drewN _ ((Below.refl _ _).alloc (by simp) _)⟩
  have k4 : decide (n ≤ 1152921504606846976) = true := decide_eq_true (by omega)
  have E : Hid (validB n d = (gd (mag n) d == 1)) := Lib.hid (by
    have : gd (mag n) d = gd n d := by
      have e := gd_mag n d
      rwa [show mag d = d by unfold mag; rw [if_neg (by omega)]] at e
    rw [this]; unfold validB
    rw [Bool.eq_iff_iff, decide_eq_true_iff, beq_iff_eq]
    omega)
  have m1 := mag_nonneg n
  have m2 : mag n ≤ 1152921504606846976 := mag_le (by omega) (by omega)
  clear z
  rcases hz with ⟨z1, z2⟩ | z1
  all_goals
    go_enter Tryd.func25, Tryd.ntmps25
    go_wp2_with fail
    go_quiet ((first | (go_at_call 38; exact rabs_q _ (by omega) (by omega) _ _) | (go_at_call 37; exact rgcd_q _ _ (by omega) (by omega) (by omega) (by omega) _ _)))
    go_wp2_with fail
    go_ret
    exact ⟨ret_b E.out.symm, below_drewN _ ((Below.refl _ _).alloc (by simp) _)⟩
end Go.Proofs.YtlglagihekadhaaDoor
