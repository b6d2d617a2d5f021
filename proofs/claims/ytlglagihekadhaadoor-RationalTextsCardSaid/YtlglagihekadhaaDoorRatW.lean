/- Contracts of the two-word numbers. -/
import Derived.Test.YtlglagihekadhaaDoorRatD
import Derived.Shelf.Spec.BitsCarry
import Derived.Deep.RegionHeld3
import Derived.StillTailTactics
namespace Go.Proofs.YtlglagihekadhaaDoor
open Go.RowKit Go.Shelf

theorem bcell {W w1 : World} (hb : Below W.heap.size W w1) : (∀ b o, b < W.heap.size → w1.cell? ⟨b, o, none⟩ = W.cell? ⟨b, o, none⟩) ∧ (∀ b o, b < W.heap.size → w1.frozen? ⟨b, o, none⟩ = W.frozen? ⟨b, o, none⟩) :=
  ⟨fun b o h => hb.cell (p := ⟨b, o, none⟩) h, fun b o h => hb.frozen (p := ⟨b, o, none⟩) h⟩

theorem bcellN {W w1 : World} (n : Nat) (hb : Below W.heap.size W w1) (hn : n ≤ W.heap.size) : (∀ b o, b < n → w1.cell? ⟨b, o, none⟩ = W.cell? ⟨b, o, none⟩) ∧ (∀ b o, b < n → w1.frozen? ⟨b, o, none⟩ = W.frozen? ⟨b, o, none⟩) :=
  ⟨fun b o h => hb.cell (p := ⟨b, o, none⟩) (Nat.lt_of_lt_of_le h hn), fun b o h => hb.frozen (p := ⟨b, o, none⟩) (Nat.lt_of_lt_of_le h hn)⟩

theorem below_drewN {B : Nat} {a w : World} (n : Nat) (h : Below B a w) : Below B a (w.drewN n) := ⟨h.os, h.tape, h.output, h.size, h.block⟩

theorem product_any (a b : Int) (a0 : 0 ≤ a) (a1 : a ≤ 18446744073709551615) (b0 : 0 ≤ b) (b1 : b ≤ 18446744073709551615) (w : World) :
    Calls Tryd.prog 28 #[.int .u64 a, .int .u64 b] w fun e w' => e = .returned (.agg #[.int .u64 (a * b / 18446744073709551616), .int .u64 (a * b % 18446744073709551616)]) ∧ Below w.heap.size w w' := by
  obtain ⟨x, rfl⟩ := Int.eq_ofNat_of_zero_le a0
  obtain ⟨y, rfl⟩ := Int.eq_ofNat_of_zero_le b0
  go_enter Tryd.func28, Tryd.ntmps28
  go_wp2_with (refine (Tryd.bits_Mul64 x y (by omega) (by omega) _).mono ?_; rintro e w' ⟨rfl, rfl⟩)
  simp [bodyPost, results, Tryd.results28, go_sem]
  exact (Below.refl _ _).alloc (by simp) _
theorem add64 (x y c : Int) (hx : 0 ≤ x) (hy : 0 ≤ y) (hc0 : 0 ≤ c) (hc : c ≤ 1) (w : World) : (callFunc 52 #[.int .u64 x, .int .u64 y, .int .u64 c]).run Tryd.prog w =
    .ok (.value (.tuple #[.int .u64 ((x + y + c) % 18446744073709551616), .int .u64 ((x + y + c) / 18446744073709551616)])) w := by
  rw [run_callFunc_extern Tryd.func52 (by kernel_rfl) (by kernel_rfl) (by kernel_rfl) (e := add64Entry) (by kernel_rfl), run_add64 x y c hx hy hc0 hc]
  rfl
theorem sub64 (x y b : Int) (hx : 0 ≤ x) (hy : 0 ≤ y) (hy' : y < 18446744073709551616) (hb0 : 0 ≤ b) (hb : b ≤ 1) (w : World) : (callFunc 53 #[.int .u64 x, .int .u64 y, .int .u64 b]).run Tryd.prog w =
    .ok (.value (.tuple #[.int .u64 ((x - y - b) % 18446744073709551616), .int .u64 (if x < y + b then 1 else 0)])) w := by
  obtain ⟨x, rfl⟩ := Int.eq_ofNat_of_zero_le hx
  obtain ⟨y, rfl⟩ := Int.eq_ofNat_of_zero_le hy
  obtain ⟨b, rfl⟩ := Int.eq_ofNat_of_zero_le hb0
  have e1 : (((x + 18446744073709551616 - y - b) % 18446744073709551616 : Nat) : Int) = ((x : Int) - y - b) % 18446744073709551616 := by omega
  have e2 : ((if x < y + b then 1 else 0 : Nat) : Int) = if (x : Int) < y + b then 1 else 0 := by split <;> split <;> omega
  rw [← e1, ← e2]
  rw [run_callFunc_extern Tryd.func53 (by kernel_rfl) (by kernel_rfl) (by kernel_rfl) (e := sub64Entry) (by kernel_rfl), run_sub64 x y b (by omega)]
  rfl
theorem add64_0 (x y : Int) (hx : 0 ≤ x) (hy : 0 ≤ y) (w : World) : (callFunc 52 #[.int .u64 x, .int .u64 y, .int .u64 0]).run Tryd.prog w =
    .ok (.value (.tuple #[.int .u64 ((x + y) % 18446744073709551616), .int .u64 ((x + y) / 18446744073709551616)])) w := by
  simpa using add64 x y 0 hx hy (Int.le_refl 0) (by decide) w
/-- The borrow, under a name. -/
def bor (x y : Int) : Int := if x < y then 1 else 0
theorem sub64_0 (x y : Int) (hx : 0 ≤ x) (hy : 0 ≤ y) (hy' : y < 18446744073709551616) (w : World) : (callFunc 53 #[.int .u64 x, .int .u64 y, .int .u64 0]).run Tryd.prog w =
    .ok (.value (.tuple #[.int .u64 ((x - y) % 18446744073709551616), .int .u64 (bor x y)])) w := by
  simpa [bor] using sub64 x y 0 hx hy hy' (Int.le_refl 0) (by decide) w
theorem sub64_b (x y b : Int) (hx : 0 ≤ x) (hy : 0 ≤ y) (hy' : y < 18446744073709551616) (hb0 : 0 ≤ b) (hb : b ≤ 1) (w : World) : (callFunc 53 #[.int .u64 x, .int .u64 y, .int .u64 b]).run Tryd.prog w =
    .ok (.value (.tuple #[.int .u64 ((x - y - b) % 18446744073709551616), .int .u64 (bor x (y + b))])) w := sub64 x y b hx hy hy' hb0 hb w
theorem bor_range (x y : Int) : 0 ≤ bor x y ∧ bor x y ≤ 1 := by unfold bor; split <;> omega

theorem wide_eq {a b c d : Int} (h : a = c) (h' : b = d) : Ending.returned (.agg #[.int .u64 a, .int .u64 b]) = .returned (.agg #[.int .u64 c, .int .u64 d]) := by rw [h, h']

theorem wplus_any (ah al bh bl : Int) (h1 : 0 ≤ ah) (h2 : 0 ≤ al) (h3 : 0 ≤ bh) (h4 : 0 ≤ bl) (l2 : al ≤ 18446744073709551615) (l4 : bl ≤ 18446744073709551615) (hs : ah + bh + 1 ≤ 18446744073709551615) (w : World) :
    Calls Tryd.prog 39 #[.agg #[.int .u64 ah, .int .u64 al], .agg #[.int .u64 bh, .int .u64 bl]] w fun e w' =>
      e = .returned (.agg #[.int .u64 (((ah * 18446744073709551616 + al) + (bh * 18446744073709551616 + bl)) / 18446744073709551616), .int .u64 (((ah * 18446744073709551616 + al) + (bh * 18446744073709551616 + bl)) % 18446744073709551616)]) ∧ Below w.heap.size w w' := by
  have k0 : 0 ≤ (al + bl) / 18446744073709551616 := by omega
  have k1 : (al + bl) / 18446744073709551616 ≤ 1 := by omega
  go_enter Tryd.func39, Tryd.ntmps39
  go_wp2_with (first | simp only [add64_0 al bl h2 h4] | simp only [add64 ah bh _ h1 h3 k0 k1])
  refine bodyPost_ret (v := .agg #[.int .u64 ((ah + bh + (al + bl) / 18446744073709551616) % 18446744073709551616), .int .u64 ((al + bl) % 18446744073709551616)]) (by simp [results, Tryd.results39, go_sem]) rfl ⟨wide_eq (by omega) (by omega), ?_⟩
  exact (((Below.refl _ _).alloc (by simp) _).alloc (by simp) _).alloc (by simp; omega) _

theorem wminus_any (ah al bh bl : Int) (h1 : 0 ≤ ah) (h2 : 0 ≤ al) (h3 : 0 ≤ bh) (h4 : 0 ≤ bl) (l1 : ah ≤ 18446744073709551615) (l2 : al ≤ 18446744073709551615) (l4 : bl ≤ 18446744073709551615) (hs : bh * 18446744073709551616 + bl ≤ ah * 18446744073709551616 + al) (w : World) :
    Calls Tryd.prog 40 #[.agg #[.int .u64 ah, .int .u64 al], .agg #[.int .u64 bh, .int .u64 bl]] w fun e w' =>
      e = .returned (.agg #[.int .u64 (((ah * 18446744073709551616 + al) - (bh * 18446744073709551616 + bl)) / 18446744073709551616), .int .u64 (((ah * 18446744073709551616 + al) - (bh * 18446744073709551616 + bl)) % 18446744073709551616)]) ∧ Below w.heap.size w w' := by
  obtain ⟨k0, k1⟩ := bor_range al bl
  go_enter Tryd.func40, Tryd.ntmps40
  go_wp2_with (first | simp only [sub64_0 al bl h2 h4 (by omega)] | simp only [sub64_b ah bh _ h1 h3 (by omega) k0 k1])
  refine bodyPost_ret (v := .agg #[.int .u64 ((ah - bh - bor al bl) % 18446744073709551616), .int .u64 ((al - bl) % 18446744073709551616)]) (by simp [results, Tryd.results40, go_sem]) rfl ⟨wide_eq (by unfold bor; split <;> omega) (by omega), ?_⟩
  exact (((Below.refl _ _).alloc (by simp) _).alloc (by simp) _).alloc (by simp; omega) _

/-- The comparison of two numbers. -/
def cmpI (a b : Int) : Int := if a < b then -1 else if b < a then 1 else 0
theorem cmpU_any (a b : Int) (w : World) :
    Calls Tryd.prog 51 #[.int .u64 a, .int .u64 b] w fun e w' => e = .returned (.int .i64 (cmpI a b)) ∧ w = w' := by
  by_cases h : a < b
  · have E : Hid (cmpI a b = -1) := Lib.hid (if_pos h)
    go_enter Tryd.func51, Tryd.ntmps51
    go_wp2
    go_ret
    exact ⟨ret_int (by rw [E.out]), rfl⟩
  · by_cases h' : b < a
    · have E : Hid (cmpI a b = 1) := Lib.hid (by unfold cmpI; rw [if_neg h, if_pos h'])
      go_enter Tryd.func51, Tryd.ntmps51
      go_wp2
      go_ret
      exact ⟨ret_int (by rw [E.out]), rfl⟩
    · have E : Hid (cmpI a b = 0) := Lib.hid (by unfold cmpI; rw [if_neg h, if_neg h'])
      go_enter Tryd.func51, Tryd.ntmps51
      go_wp2
      go_ret
      exact ⟨ret_int (by rw [E.out]), rfl⟩
theorem wcmp_any (ah al bh bl : Int) (h2 : 0 ≤ al) (h4 : 0 ≤ bl) (l2 : al ≤ 18446744073709551615) (l4 : bl ≤ 18446744073709551615) (w : World) :
    Calls Tryd.prog 36 #[.agg #[.int .u64 ah, .int .u64 al], .agg #[.int .u64 bh, .int .u64 bl]] w fun e w' =>
      e = .returned (.int .i64 (cmpI (ah * 18446744073709551616 + al) (bh * 18446744073709551616 + bl))) ∧ Below w.heap.size w w' := by
  by_cases h : ah = bh
  · subst h
    have E : Hid (cmpI (ah * 18446744073709551616 + al) (ah * 18446744073709551616 + bl) = cmpI al bl) := Lib.hid (by unfold cmpI; simp)
    go_enter Tryd.func36, Tryd.ntmps36
    go_wp2_with (refine (cmpU_any _ _ _).mono ?_; rintro e w' ⟨rfl, rfl⟩)
    go_ret
    exact ⟨ret_int (by rw [E.out]), ((Below.refl _ _).alloc (by simp) _).alloc (by simp) _⟩
  · have E : Hid (cmpI (ah * 18446744073709551616 + al) (bh * 18446744073709551616 + bl) = cmpI ah bh) := Lib.hid (by unfold cmpI; split <;> split <;> (try split) <;> (try split) <;> omega)
    have hb : (ah != bh) = true := by simp [h]
    clear h
    go_enter Tryd.func36, Tryd.ntmps36
    go_wp2_with (refine (cmpU_any _ _ _).mono ?_; rintro e w' ⟨rfl, rfl⟩)
    go_ret
    exact ⟨ret_int (by rw [E.out]), ((Below.refl _ _).alloc (by simp) _).alloc (by simp) _⟩
theorem modulo_any (ah al d : Int) (h1 : 0 ≤ ah) (h2 : 0 ≤ al) (l1 : ah ≤ 18446744073709551615) (l2 : al ≤ 18446744073709551615) (d0 : 1 ≤ d) (d1 : d ≤ 18446744073709551615) (w : World) :
    Calls Tryd.prog 27 #[.agg #[.int .u64 ah, .int .u64 al], .int .u64 d] w fun e w' =>
      e = .returned (.int .u64 ((ah * 18446744073709551616 + al) % d)) ∧ Below w.heap.size w w' := by
  go_enter Tryd.func27, Tryd.ntmps27
  go_wp2_with (refine (rem64_any ah al d h1 l1 d0 d1 h2 l2 _).mono ?_; rintro e w' ⟨rfl, n, rfl⟩)
  go_ret
  exact ⟨rfl, below_drewN _ ((Below.refl _ _).alloc (by simp) _)⟩
theorem over_num (ah al d : Int) (d0 : 1 ≤ d) : (ah * 18446744073709551616 + al) / d = ah / d * 18446744073709551616 + (ah % d * 18446744073709551616 + al) / d := by
  have e := Int.emod_add_mul_ediv ah d
  have : ah * 18446744073709551616 + al = (ah % d * 18446744073709551616 + al) + d * (ah / d * 18446744073709551616) := by
    rw [← Int.mul_assoc]; omega
  rw [this, Int.add_mul_ediv_left _ _ (by omega)]; omega
theorem over_any (ah al d : Int) (h1 : 0 ≤ ah) (h2 : 0 ≤ al) (l1 : ah ≤ 18446744073709551615) (l2 : al ≤ 18446744073709551615) (d0 : 1 ≤ d) (d1 : d ≤ 18446744073709551615) (w : World) :
    Calls Tryd.prog 30 #[.agg #[.int .u64 ah, .int .u64 al], .int .u64 d] w fun e w' =>
      e = .returned (.agg #[.int .u64 ((ah * 18446744073709551616 + al) / d / 18446744073709551616), .int .u64 ((ah * 18446744073709551616 + al) / d % 18446744073709551616)]) ∧ Below w.heap.size w w' := by
  have hm0 : 0 ≤ ah % d := Int.emod_nonneg _ (by omega)
  have hm1 : ah % d < d := Int.emod_lt_of_pos _ (by omega)
  have hq0 : 0 ≤ (ah % d * 18446744073709551616 + al) / d := Int.ediv_nonneg (by omega) (by omega)
  have hq1 : (ah % d * 18446744073709551616 + al) / d ≤ 18446744073709551615 := by
    have : (ah % d * 18446744073709551616 + al) / d < 18446744073709551616 := Int.ediv_lt_of_lt_mul (by omega) (by omega)
    omega
  have E := Lib.hid (over_num ah al d d0)
  go_enter Tryd.func30, Tryd.ntmps30
  go_wp2_with fail
  go_quiet ((exact Calls.quiet_of (div64_any (ah % d) al d hm0 hm1 d1 h2 l2 _)))
  go_wp2
  refine bodyPost_ret (v := .agg #[.int .u64 (ah / d), .int .u64 ((ah % d * 18446744073709551616 + al) / d)]) (by simp [results, Tryd.results30, go_sem]) rfl ⟨wide_eq (by rw [E.out]; omega) (by rw [E.out]; omega), ?_⟩
  repeat (first | exact Below.refl _ _ | (refine Below.alloc ?_ (by simp) _) | (refine Below.setCell ?_ (by simp) _) | (refine below_drewN _ ?_))
end Go.Proofs.YtlglagihekadhaaDoor
