/- Contracts of the reference's Full, Add, Neg, Mul, Div, Cmp, Floor, and of the laws' small helpers. -/
import Derived.Test.YthiemhkhlggenaaRatR2
namespace Go.Proofs.Ythiemhkhlggenaa
open Go.RowKit Go.Shelf

theorem full_any (n d : Int) (hv : d = 0 → n = 0) (w : World) :
    Calls Try.prog 42 #[.agg #[.int .i64 n, .int .i64 d]] w fun e w' => e = .returned (.agg #[.int .i64 n, .int .i64 (full d)]) ∧ Below w.heap.size w w' := by
  by_cases h : d = 0
  · obtain rfl := hv h
    subst h
    go_enter Try.func42, Try.ntmps42
    go_wp2_with fail
    refine bodyPost_ret (v := .agg #[.int .i64 0, .int .i64 1]) (by simp [results, Try.results42, go_sem]) rfl ⟨rfl, ?_⟩
    repeat (first | exact Below.refl _ _ | assumption | (refine Below.alloc ?_ (by (try simp) <;> omega) _) | (refine Below.setCell ?_ (by (try simp) <;> omega) _) | (refine Below.drew ?_) | (refine below_drewN _ ?_))
  · have E : Hid (full d = d) := Lib.hid (if_neg h)
    have hd : (d == 0) = false := by simp [h]
    clear h hv
    go_enter Try.func42, Try.ntmps42
    go_wp2_with fail
    refine bodyPost_ret (v := .agg #[.int .i64 n, .int .i64 d]) (by simp [results, Try.results42, go_sem]) rfl ⟨rat_eq rfl E.out.symm, ?_⟩
    repeat (first | exact Below.refl _ _ | assumption | (refine Below.alloc ?_ (by (try simp) <;> omega) _) | (refine Below.setCell ?_ (by (try simp) <;> omega) _) | (refine Below.drew ?_) | (refine below_drewN _ ?_))
theorem rneg_any (n d : Int) (w : World) :
    Calls Try.prog 23 #[.agg #[.int .i64 n, .int .i64 d]] w fun e w' => e = .returned (.agg #[.int .i64 (wrap64 (-n)), .int .i64 d]) ∧ Below w.heap.size w w' := by
  go_enter Try.func23, Try.ntmps23
  go_wp2_with fail
  refine bodyPost_ret (v := .agg #[.int .i64 (wrap64 (-n)), .int .i64 d]) (by simp [results, Try.results23, go_sem]) rfl ⟨rfl, ?_⟩
  repeat (first | exact Below.refl _ _ | assumption | (refine Below.alloc ?_ (by (try simp) <;> omega) _) | (refine Below.setCell ?_ (by (try simp) <;> omega) _) | (refine Below.drew ?_) | (refine below_drewN _ ?_))
theorem plain_any (n d : Int) (w : World) :
    Calls Try.prog 13 #[.agg #[.int .i64 n, .int .i64 d]] w fun e w' => e = .returned (.agg #[.int .i64 n, .int .i64 d]) ∧ Below w.heap.size w w' := by
  go_enter Try.func13, Try.ntmps13
  go_wp2_with fail
  refine bodyPost_ret (v := .agg #[.int .i64 n, .int .i64 d]) (by simp [results, Try.results13, go_sem]) rfl ⟨rfl, ?_⟩
  repeat (first | exact Below.refl _ _ | assumption | (refine Below.alloc ?_ (by (try simp) <;> omega) _) | (refine Below.setCell ?_ (by (try simp) <;> omega) _) | (refine Below.drew ?_) | (refine below_drewN _ ?_))
theorem toR_zero' : toR 0 0 = 0 := by unfold toR; exact Rat.zero_mkRat _
theorem toR_divInt {n d : Int} (h : okR n d) : toR n d = Rat.divInt n (full d) := by
  rcases h with ⟨rfl, rfl⟩ | ⟨h1, _⟩
  · rw [toR_zero']; exact (Rat.zero_divInt _).symm
  · unfold full; rw [if_neg (by omega), divInt_nat (by omega)]
theorem small_mul {a b : Int} (h1 : -536870912 ≤ a) (h2 : a ≤ 536870912) (h3 : 0 ≤ b) (h4 : b ≤ 536870912) : -288230376151711744 ≤ a * b ∧ a * b ≤ 288230376151711744 := by
  have k1 := Int.mul_le_mul_of_nonneg_right h2 h3
  have k2 := Int.mul_le_mul_of_nonneg_right h1 h3
  omega

set_option maxHeartbeats 4000000 in
theorem radd_any (n1 d1 n2 d2 : Int) (o1 : okR n1 d1) (o2 : okR n2 d2) (a1 : -536870912 ≤ n1) (a2 : n1 ≤ 536870912) (a3 : d1 ≤ 536870912) (b1 : -536870912 ≤ n2) (b2 : n2 ≤ 536870912) (b3 : d2 ≤ 536870912) (w : World) :
    Calls Try.prog 22 #[.agg #[.int .i64 n1, .int .i64 d1], .agg #[.int .i64 n2, .int .i64 d2]] w fun e w' =>
      e = .returned (.tuple #[.agg #[.int .i64 (outR (toR n1 d1 + toR n2 d2)).1, .int .i64 (outR (toR n1 d1 + toR n2 d2)).2.1], .int .i64 (outR (toR n1 d1 + toR n2 d2)).2.2]) ∧ Below w.heap.size w w' := by
  obtain ⟨i1, i2, i3, i4, i5⟩ := okR_num o1
  obtain ⟨j1, j2, j3, j4, j5⟩ := okR_num o2
  obtain ⟨u1, u2⟩ := full_pos o1
  obtain ⟨v1, v2⟩ := full_pos o2
  have u3 : full d1 ≤ 536870912 := by unfold full; split <;> omega
  have v3 : full d2 ≤ 536870912 := by unfold full; split <;> omega
  have S1 := Lib.hid (full_any n1 d1 i5)
  have S2 := Lib.hid (full_any n2 d2 j5)
  obtain ⟨x1, x2⟩ := small_mul a1 a2 (show 0 ≤ full d2 by omega) v3
  obtain ⟨x3, x4⟩ := small_mul b1 b2 (show 0 ≤ full d1 by omega) u3
  obtain ⟨x5, x6⟩ := small_mul (show -536870912 ≤ full d1 by omega) u3 (show 0 ≤ full d2 by omega) v3
  have x7 : 1 ≤ full d1 * full d2 := Int.mul_pos (by omega) (by omega)
  have ER := toR_divInt o1
  have ES := toR_divInt o2
  have K := rof_pos (n1 * full d2 + n2 * full d1) (full d1 * full d2) (by omega) (by omega) (by omega) (by omega)
  rw [← Rat.divInt_add_divInt _ _ (by omega) (by omega), ← ER, ← ES] at K
  have OF := Lib.hid K
  clear K ER ES
  clear i5 j5 o1 o2
  generalize full d1 = D1 at *
  generalize full d2 = D2 at *
  go_enter Try.func22, Try.ntmps22
  go_upto_region 1 with fail
  obtain ⟨c0, c1, c2, c3, c4, c5, e0, e1, e2, e3, e4, e5, hbw, hzw⟩ := init3 (Below.refl _ (((w.alloc (.cells #[.int .i64 n1, .int .i64 d1] 27)).alloc (.cells #[.int .i64 n2, .int .i64 d2] 27)).alloc (.cells #[.int .i64 0, .int .i64 0] 27)))
  generalize ((w.alloc (.cells #[.int .i64 n1, .int .i64 d1] 27)).alloc (.cells #[.int .i64 n2, .int .i64 d2] 27)).alloc (.cells #[.int .i64 0, .int .i64 0] 27) = w1 at *
  go_cut [2] (fun t2 wx => t2 = .pointer (some ⟨w.heap.size, 0, none⟩) ∧ wx.cell? ⟨w.heap.size, 0, none⟩ = some (.int .i64 n1) ∧ wx.cell? ⟨w.heap.size, 1, none⟩ = some (.int .i64 D1) ∧ wx.cell? ⟨w.heap.size + 1, 0, none⟩ = some (.int .i64 n2) ∧ wx.cell? ⟨w.heap.size + 1, 1, none⟩ = some (.int .i64 D2) ∧ wx.cell? ⟨w.heap.size + 1 + 1, 0, none⟩ = some (.int .i64 0) ∧ wx.cell? ⟨w.heap.size + 1 + 1, 1, none⟩ = some (.int .i64 0) ∧ wx.frozen? ⟨w.heap.size + 1 + 1, 0, none⟩ = false ∧ wx.frozen? ⟨w.heap.size + 1 + 1, 1, none⟩ = false ∧ Below w.heap.size w wx ∧ w.heap.size + 3 ≤ wx.heap.size)
  case first =>
    have f0 : w.heap.size < w1.heap.size := by omega
    have f1 : w.heap.size + 1 < w1.heap.size := by omega
    have f2 : w.heap.size + 1 + 1 < w1.heap.size := by omega
    have n01 : w.heap.size ≠ w.heap.size + 1 := by omega
    have n02 : w.heap.size ≠ w.heap.size + 1 + 1 := by omega
    have n12 : w.heap.size + 1 ≠ w.heap.size + 1 + 1 := by omega
    go_region_with (first | (go_at_call_of 42 (Value.agg #[Value.int IntKind.i64 n1, Value.int IntKind.i64 d1]); refine (S1.out _).mono ?_; rintro e w2 ⟨rfl, hb2⟩; obtain ⟨hc2, hf2⟩ := bcellN w1.heap.size hb2 (Nat.le_refl _)) | (go_at_call_of 42 (Value.agg #[Value.int IntKind.i64 n2, Value.int IntKind.i64 d2]); refine (S2.out _).mono ?_; rintro e w3 ⟨rfl, hb3⟩; obtain ⟨hc3, hf3⟩ := bcellN w1.heap.size hb3 (by (first | exact Nat.le_refl _ | exact hb2.size))))
    all_goals
      go_wp2_with fail
      go_meet
      have y2 : w1.heap.size ≤ w2.heap.size := hb2.size
      have y3 : w2.heap.size ≤ w3.heap.size := hb3.size
      have hb2 := hb2.mono (B' := w.heap.size) (by (try simp) <;> omega)
      have hb3 := hb3.mono (B' := w.heap.size) (by (try simp) <;> omega)
      refine ⟨rfl, ?_, ?_, ?_, ?_, ?_, ?_, ?_, ?_, ?_, ?_⟩
      rotate_left 8
      · repeat (first | exact Below.refl _ _ | assumption | (refine Below.alloc ?_ (by (try simp) <;> omega) _) | (refine Below.setCell ?_ (by (try simp) <;> omega) _) | (refine Below.drew ?_) | (refine below_drewN _ ?_) | (refine Below.trans ?_ hb3) | (refine Below.trans ?_ hb2))
      · ((try simp) <;> omega)
      all_goals simp [go_sem, *]
  case rest =>
    obtain ⟨rfl, k0, k1, k2, k3, k4, k5, k6, k7, kb, kz⟩ := hcut
    clear c0 c1 c2 c3 c4 c5 e0 e1 e2 e3 e4 e5 hbw hzw
    generalize wc = wA at *
    have f0 : w.heap.size < wA.heap.size := by omega
    have f1 : w.heap.size + 1 < wA.heap.size := by omega
    have f2 : w.heap.size + 1 + 1 < wA.heap.size := by omega
    go_wp2_with fail
    refine (OF.out _).mono ?_
    rintro e w2 ⟨rfl, hb2⟩
    obtain ⟨hc2, hf2⟩ := bcell hb2
    go_wp2_with fail
    refine bodyPost_ret (v := .tuple #[.agg #[.int .i64 (outR (toR n1 d1 + toR n2 d2)).1, .int .i64 (outR (toR n1 d1 + toR n2 d2)).2.1], .int .i64 (outR (toR n1 d1 + toR n2 d2)).2.2]) (by simp [results, Try.results22, go_sem, *]) rfl ⟨rfl, ?_⟩
    clear hc2 hf2
    replace hb2 := hb2.mono (B' := w.heap.size) (by omega)
    repeat (first | exact Below.refl _ _ | assumption | (refine Below.alloc ?_ (by (try simp) <;> omega) _) | (refine Below.setCell ?_ (by (try simp) <;> omega) _) | (refine Below.drew ?_) | (refine below_drewN _ ?_) | (refine Below.trans ?_ hb2))

set_option maxHeartbeats 4000000 in
theorem rmul_any (n1 d1 n2 d2 : Int) (o1 : okR n1 d1) (o2 : okR n2 d2) (a1 : -536870912 ≤ n1) (a2 : n1 ≤ 536870912) (a3 : d1 ≤ 536870912) (b1 : -536870912 ≤ n2) (b2 : n2 ≤ 536870912) (b3 : d2 ≤ 536870912) (w : World) :
    Calls Try.prog 24 #[.agg #[.int .i64 n1, .int .i64 d1], .agg #[.int .i64 n2, .int .i64 d2]] w fun e w' =>
      e = .returned (.tuple #[.agg #[.int .i64 (outR (toR n1 d1 * toR n2 d2)).1, .int .i64 (outR (toR n1 d1 * toR n2 d2)).2.1], .int .i64 (outR (toR n1 d1 * toR n2 d2)).2.2]) ∧ Below w.heap.size w w' := by
  obtain ⟨i1, i2, i3, i4, i5⟩ := okR_num o1
  obtain ⟨j1, j2, j3, j4, j5⟩ := okR_num o2
  obtain ⟨u1, u2⟩ := full_pos o1
  obtain ⟨v1, v2⟩ := full_pos o2
  have u3 : full d1 ≤ 536870912 := by unfold full; split <;> omega
  have v3 : full d2 ≤ 536870912 := by unfold full; split <;> omega
  have S1 := Lib.hid (full_any n1 d1 i5)
  have S2 := Lib.hid (full_any n2 d2 j5)
  obtain ⟨x1, x2⟩ := small_mul a1 a2 (show 0 ≤ full d2 by omega) v3
  obtain ⟨x3, x4⟩ := small_mul b1 b2 (show 0 ≤ full d1 by omega) u3
  obtain ⟨x5, x6⟩ := small_mul (show -536870912 ≤ full d1 by omega) u3 (show 0 ≤ full d2 by omega) v3
  have x7 : 1 ≤ full d1 * full d2 := Int.mul_pos (by omega) (by omega)
  have ER := toR_divInt o1
  have ES := toR_divInt o2
  have x8 : -288230376151711744 ≤ n1 * n2 ∧ n1 * n2 ≤ 288230376151711744 := by
    rcases Int.lt_or_le n2 0 with h | h
    · have := small_mul a1 a2 (show 0 ≤ -n2 by omega) (by omega); rw [Int.mul_neg] at this; omega
    · exact small_mul a1 a2 h b2
  obtain ⟨x8, x9⟩ := x8
  have K := rof_pos (n1 * n2) (full d1 * full d2) (by omega) (by omega) (by omega) (by omega)
  rw [← Rat.divInt_mul_divInt, ← ER, ← ES] at K
  have OF := Lib.hid K
  clear K ER ES
  clear i5 j5 o1 o2
  generalize full d1 = D1 at *
  generalize full d2 = D2 at *
  go_enter Try.func24, Try.ntmps24
  go_upto_region 1 with fail
  obtain ⟨c0, c1, c2, c3, c4, c5, e0, e1, e2, e3, e4, e5, hbw, hzw⟩ := init3 (Below.refl _ (((w.alloc (.cells #[.int .i64 n1, .int .i64 d1] 27)).alloc (.cells #[.int .i64 n2, .int .i64 d2] 27)).alloc (.cells #[.int .i64 0, .int .i64 0] 27)))
  generalize ((w.alloc (.cells #[.int .i64 n1, .int .i64 d1] 27)).alloc (.cells #[.int .i64 n2, .int .i64 d2] 27)).alloc (.cells #[.int .i64 0, .int .i64 0] 27) = w1 at *
  go_cut [2] (fun t2 wx => t2 = .pointer (some ⟨w.heap.size, 0, none⟩) ∧ wx.cell? ⟨w.heap.size, 0, none⟩ = some (.int .i64 n1) ∧ wx.cell? ⟨w.heap.size, 1, none⟩ = some (.int .i64 D1) ∧ wx.cell? ⟨w.heap.size + 1, 0, none⟩ = some (.int .i64 n2) ∧ wx.cell? ⟨w.heap.size + 1, 1, none⟩ = some (.int .i64 D2) ∧ wx.cell? ⟨w.heap.size + 1 + 1, 0, none⟩ = some (.int .i64 0) ∧ wx.cell? ⟨w.heap.size + 1 + 1, 1, none⟩ = some (.int .i64 0) ∧ wx.frozen? ⟨w.heap.size + 1 + 1, 0, none⟩ = false ∧ wx.frozen? ⟨w.heap.size + 1 + 1, 1, none⟩ = false ∧ Below w.heap.size w wx ∧ w.heap.size + 3 ≤ wx.heap.size)
  case first =>
    have f0 : w.heap.size < w1.heap.size := by omega
    have f1 : w.heap.size + 1 < w1.heap.size := by omega
    have f2 : w.heap.size + 1 + 1 < w1.heap.size := by omega
    have n01 : w.heap.size ≠ w.heap.size + 1 := by omega
    have n02 : w.heap.size ≠ w.heap.size + 1 + 1 := by omega
    have n12 : w.heap.size + 1 ≠ w.heap.size + 1 + 1 := by omega
    go_region_with (first | (go_at_call_of 42 (Value.agg #[Value.int IntKind.i64 n1, Value.int IntKind.i64 d1]); refine (S1.out _).mono ?_; rintro e w2 ⟨rfl, hb2⟩; obtain ⟨hc2, hf2⟩ := bcellN w1.heap.size hb2 (Nat.le_refl _)) | (go_at_call_of 42 (Value.agg #[Value.int IntKind.i64 n2, Value.int IntKind.i64 d2]); refine (S2.out _).mono ?_; rintro e w3 ⟨rfl, hb3⟩; obtain ⟨hc3, hf3⟩ := bcellN w1.heap.size hb3 (by (first | exact Nat.le_refl _ | exact hb2.size))))
    all_goals
      go_wp2_with fail
      go_meet
      have y2 : w1.heap.size ≤ w2.heap.size := hb2.size
      have y3 : w2.heap.size ≤ w3.heap.size := hb3.size
      have hb2 := hb2.mono (B' := w.heap.size) (by (try simp) <;> omega)
      have hb3 := hb3.mono (B' := w.heap.size) (by (try simp) <;> omega)
      refine ⟨rfl, ?_, ?_, ?_, ?_, ?_, ?_, ?_, ?_, ?_, ?_⟩
      rotate_left 8
      · repeat (first | exact Below.refl _ _ | assumption | (refine Below.alloc ?_ (by (try simp) <;> omega) _) | (refine Below.setCell ?_ (by (try simp) <;> omega) _) | (refine Below.drew ?_) | (refine below_drewN _ ?_) | (refine Below.trans ?_ hb3) | (refine Below.trans ?_ hb2))
      · ((try simp) <;> omega)
      all_goals simp [go_sem, *]
  case rest =>
    obtain ⟨rfl, k0, k1, k2, k3, k4, k5, k6, k7, kb, kz⟩ := hcut
    clear c0 c1 c2 c3 c4 c5 e0 e1 e2 e3 e4 e5 hbw hzw
    generalize wc = wA at *
    have f0 : w.heap.size < wA.heap.size := by omega
    have f1 : w.heap.size + 1 < wA.heap.size := by omega
    have f2 : w.heap.size + 1 + 1 < wA.heap.size := by omega
    go_wp2_with fail
    refine (OF.out _).mono ?_
    rintro e w2 ⟨rfl, hb2⟩
    obtain ⟨hc2, hf2⟩ := bcell hb2
    go_wp2_with fail
    refine bodyPost_ret (v := .tuple #[.agg #[.int .i64 (outR (toR n1 d1 * toR n2 d2)).1, .int .i64 (outR (toR n1 d1 * toR n2 d2)).2.1], .int .i64 (outR (toR n1 d1 * toR n2 d2)).2.2]) (by simp [results, Try.results24, go_sem, *]) rfl ⟨rfl, ?_⟩
    clear hc2 hf2
    replace hb2 := hb2.mono (B' := w.heap.size) (by omega)
    repeat (first | exact Below.refl _ _ | assumption | (refine Below.alloc ?_ (by (try simp) <;> omega) _) | (refine Below.setCell ?_ (by (try simp) <;> omega) _) | (refine Below.drew ?_) | (refine below_drewN _ ?_) | (refine Below.trans ?_ hb2))
end Go.Proofs.Ythiemhkhlggenaa
