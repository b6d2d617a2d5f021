/- Contracts of the signed two-word numbers. -/
import Derived.Test.YtlglagihekadhaaDoorRatW
import Derived.RegionTactic
import Derived.BigRegion
import Derived.Deep.RegionHeld3
namespace Go.Proofs.YtlglagihekadhaaDoor
open Go.RowKit Go.Shelf

theorem mag_mul (a b : Int) : mag a * mag b = mag (a * b) := by
  rw [mag_eq_natAbs, mag_eq_natAbs, mag_eq_natAbs, Int.natAbs_mul, Int.natCast_mul]
set_option maxHeartbeats 1000000 in
theorem multiply_pos (a b : Int) (a0 : -9223372036854775808 ≤ a) (a1 : a ≤ 9223372036854775807) (b0 : -9223372036854775808 ≤ b) (b1 : b ≤ 9223372036854775807) (H L : Int) (eH : mag a * mag b / 18446744073709551616 = H) (eL : mag a * mag b % 18446744073709551616 = L)
    (EH : Hid (mag (a * b) / 18446744073709551616 = H)) (EL : Hid (mag (a * b) % 18446744073709551616 = L)) (E : Hid (decide (a * b < 0) = false))
    (hs : (decide (a < 0) = true ∧ decide (b < 0) = true) ∨ (decide (a < 0) = false ∧ decide (b < 0) = false) ∨ (decide (a < 0) = true ∧ decide (b < 0) = false ∧ (H == 0) = true ∧ (L == 0) = true) ∨ (decide (a < 0) = false ∧ decide (b < 0) = true ∧ (H == 0) = true ∧ (L == 0) = true)) (w : World) :
    Calls Tryd.prog 23 #[.int .i64 a, .int .i64 b] w fun e w' => e = .returned (.agg #[.bool (decide (a * b < 0)), .int .u64 (mag (a * b) / 18446744073709551616), .int .u64 (mag (a * b) % 18446744073709551616)]) ∧ Below w.heap.size w w' := by
  have m1 := mag_nonneg a
  have m2 : mag a ≤ 9223372036854775808 := mag_le (by omega) (by omega)
  have m3 := mag_nonneg b
  have m4 : mag b ≤ 9223372036854775808 := mag_le (by omega) (by omega)
  rcases hs with ⟨ha, hb⟩ | ⟨ha, hb⟩ | ⟨ha, hb, h1, h2⟩ | ⟨ha, hb, h1, h2⟩
  all_goals
    go_enter Tryd.func23, Tryd.ntmps23
    go_wp2_with fail
    refine (mag_any a a0 a1 _).mono ?_
    rintro e w' ⟨rfl, rfl⟩
    go_wp2_with fail
    refine (mag_any b b0 b1 _).mono ?_
    rintro e w' ⟨rfl, rfl⟩
    go_wp2_with fail
    refine (product_any (mag a) (mag b) m1 (by omega) m3 (by omega) _).mono ?_
    rintro e w1 ⟨rfl, hb1⟩
    obtain ⟨hc1, hf1⟩ := bcell hb1
    have hz1 : w.heap.size < w1.heap.size := by have := hb1.size; simp at this; omega
    go_wp2_with fail
    go_region
    go_wp2_with fail
    refine bodyPost_ret (v := .agg #[.bool false, .int .u64 H, .int .u64 L]) (by simp [results, Tryd.results23, go_sem, hc1, hz1]) rfl ⟨by rw [E.out, EH.out, EL.out], ?_⟩
    clear hc1 hf1
    have hb1 := hb1.mono (B' := w.heap.size) (by simp)
    repeat (first | exact Below.refl _ _ | (refine Below.alloc ?_ (by simp <;> omega) _) | (refine Below.setCell ?_ (by simp) _) | (refine Below.drew ?_) | (refine Below.trans ?_ hb1))
set_option maxHeartbeats 1000000 in
theorem multiply_neg (a b : Int) (a0 : -9223372036854775808 ≤ a) (a1 : a ≤ 9223372036854775807) (b0 : -9223372036854775808 ≤ b) (b1 : b ≤ 9223372036854775807) (H L : Int) (eH : mag a * mag b / 18446744073709551616 = H) (eL : mag a * mag b % 18446744073709551616 = L)
    (EH : Hid (mag (a * b) / 18446744073709551616 = H)) (EL : Hid (mag (a * b) % 18446744073709551616 = L)) (E : Hid (decide (a * b < 0) = true))
    (hs : (decide (a < 0) = true ∧ decide (b < 0) = false ∧ (H == 0) = false) ∨ (decide (a < 0) = false ∧ decide (b < 0) = true ∧ (H == 0) = false) ∨ (decide (a < 0) = true ∧ decide (b < 0) = false ∧ (H == 0) = true ∧ (L == 0) = false) ∨ (decide (a < 0) = false ∧ decide (b < 0) = true ∧ (H == 0) = true ∧ (L == 0) = false)) (w : World) :
    Calls Tryd.prog 23 #[.int .i64 a, .int .i64 b] w fun e w' => e = .returned (.agg #[.bool (decide (a * b < 0)), .int .u64 (mag (a * b) / 18446744073709551616), .int .u64 (mag (a * b) % 18446744073709551616)]) ∧ Below w.heap.size w w' := by
  have m1 := mag_nonneg a
  have m2 : mag a ≤ 9223372036854775808 := mag_le (by omega) (by omega)
  have m3 := mag_nonneg b
  have m4 : mag b ≤ 9223372036854775808 := mag_le (by omega) (by omega)
  rcases hs with ⟨ha, hb, h1⟩ | ⟨ha, hb, h1⟩ | ⟨ha, hb, h1, h2⟩ | ⟨ha, hb, h1, h2⟩
  all_goals
    go_enter Tryd.func23, Tryd.ntmps23
    go_wp2_with fail
    refine (mag_any a a0 a1 _).mono ?_
    rintro e w' ⟨rfl, rfl⟩
    go_wp2_with fail
    refine (mag_any b b0 b1 _).mono ?_
    rintro e w' ⟨rfl, rfl⟩
    go_wp2_with fail
    refine (product_any (mag a) (mag b) m1 (by omega) m3 (by omega) _).mono ?_
    rintro e w1 ⟨rfl, hb1⟩
    obtain ⟨hc1, hf1⟩ := bcell hb1
    have hz1 : w.heap.size < w1.heap.size := by have := hb1.size; simp at this; omega
    go_wp2_with fail
    go_region
    go_wp2_with fail
    refine bodyPost_ret (v := .agg #[.bool true, .int .u64 H, .int .u64 L]) (by simp [results, Tryd.results23, go_sem, hc1, hz1]) rfl ⟨by rw [E.out, EH.out, EL.out], ?_⟩
    clear hc1 hf1
    have hb1 := hb1.mono (B' := w.heap.size) (by simp)
    repeat (first | exact Below.refl _ _ | (refine Below.alloc ?_ (by simp <;> omega) _) | (refine Below.setCell ?_ (by simp) _) | (refine Below.drew ?_) | (refine Below.trans ?_ hb1))

theorem multiply_any (a b : Int) (a0 : -9223372036854775808 ≤ a) (a1 : a ≤ 9223372036854775807) (b0 : -9223372036854775808 ≤ b) (b1 : b ≤ 9223372036854775807) (w : World) :
    Calls Tryd.prog 23 #[.int .i64 a, .int .i64 b] w fun e w' => e = .returned (.agg #[.bool (decide (a * b < 0)), .int .u64 (mag (a * b) / 18446744073709551616), .int .u64 (mag (a * b) % 18446744073709551616)]) ∧ Below w.heap.size w w' := by
  have M := mag_mul a b
  have m0 := mag_nonneg (a * b)
  by_cases h : a * b < 0
  · refine multiply_neg a b a0 a1 b0 b1 _ _ rfl rfl (by rw [M]; exact rfl) (by rw [M]; exact rfl) (decide_eq_true h) ?_ w
    rw [M]
    have hp : 1 ≤ mag (a * b) := mag_pos (by omega)
    have hsg : (a < 0 ∧ ¬ b < 0) ∨ (¬ a < 0 ∧ b < 0) := by
      rcases Int.lt_or_le a 0 with ha | ha <;> rcases Int.lt_or_le b 0 with hb | hb
      · exact absurd (Int.mul_pos_of_neg_of_neg ha hb) (by omega)
      · exact .inl ⟨ha, by omega⟩
      · exact .inr ⟨by omega, hb⟩
      · exact absurd (Int.mul_nonneg ha hb) (by omega)
    generalize mag (a * b) = m at *
    by_cases hH : m / 18446744073709551616 = 0
    · have hL : ¬ m % 18446744073709551616 = 0 := by omega
      rcases hsg with ⟨p, q⟩ | ⟨p, q⟩
      · exact .inr (.inr (.inl ⟨decide_eq_true p, decide_eq_false q, by simp [hH], beq_eq_false_iff_ne.2 hL⟩))
      · exact .inr (.inr (.inr ⟨decide_eq_false p, decide_eq_true q, by simp [hH], beq_eq_false_iff_ne.2 hL⟩))
    · rcases hsg with ⟨p, q⟩ | ⟨p, q⟩
      · exact .inl ⟨decide_eq_true p, decide_eq_false q, beq_eq_false_iff_ne.2 hH⟩
      · exact .inr (.inl ⟨decide_eq_false p, decide_eq_true q, beq_eq_false_iff_ne.2 hH⟩)
  · refine multiply_pos a b a0 a1 b0 b1 _ _ rfl rfl (by rw [M]; exact rfl) (by rw [M]; exact rfl) (decide_eq_false h) ?_ w
    rw [M]
    rcases Int.lt_or_le a 0 with ha | ha <;> rcases Int.lt_or_le b 0 with hb | hb
    · exact .inl ⟨decide_eq_true ha, decide_eq_true hb⟩
    · have : b = 0 := by
        rcases Int.lt_or_eq_of_le hb with hb | hb
        · exact absurd (Int.mul_neg_of_neg_of_pos ha hb) h
        · exact hb.symm
      subst this
      refine .inr (.inr (.inl ⟨decide_eq_true ha, by decide, ?_, ?_⟩)) <;> rw [Int.mul_zero] <;> decide
    · have : a = 0 := by
        rcases Int.lt_or_eq_of_le ha with ha | ha
        · exact absurd (Int.mul_neg_of_pos_of_neg ha hb) h
        · exact ha.symm
      subst this
      refine .inr (.inr (.inr ⟨by decide, decide_eq_true hb, ?_, ?_⟩)) <;> rw [Int.zero_mul] <;> decide
    · exact .inr (.inl ⟨decide_eq_false (by omega), decide_eq_false (by omega)⟩)

end Go.Proofs.YtlglagihekadhaaDoor
