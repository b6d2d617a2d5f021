/- Contracts of the reference's Div, Cmp, Floor. -/
import Derived.Test.YthiemhkhlggenaaRatR3
namespace Go.Proofs.Ythiemhkhlggenaa
open Go.RowKit Go.Shelf

theorem rdiv_of {n1 d1 n2 d2 : Int} (o1 : okR n1 d1) (o2 : okR n2 d2) : Rat.divInt (n1 * full d2) (full d1 * n2) = toR n1 d1 / toR n2 d2 := by
  rw [toR_divInt o1, toR_divInt o2, Rat.div_def, Rat.inv_divInt, Rat.divInt_mul_divInt]

set_option maxHeartbeats 4000000 in
theorem rdiv_pos (n1 d1 n2 d2 : Int) (o1 : okR n1 d1) (o2 : okR n2 d2) (a1 : -536870912 ≤ n1) (a2 : n1 ≤ 536870912) (a3 : d1 ≤ 536870912) (b1 : -536870912 ≤ n2) (b2 : n2 ≤ 536870912) (b3 : d2 ≤ 536870912) (hn : 0 < n2) (w : World) :
    Calls Try.prog 25 #[.agg #[.int .i64 n1, .int .i64 d1], .agg #[.int .i64 n2, .int .i64 d2]] w fun e w' =>
      e = .returned (.tuple #[.agg #[.int .i64 (outR (toR n1 d1 / toR n2 d2)).1, .int .i64 (outR (toR n1 d1 / toR n2 d2)).2.1], .int .i64 (outR (toR n1 d1 / toR n2 d2)).2.2]) ∧ Below w.heap.size w w' := by
  obtain ⟨i1, i2, i3, i4, i5⟩ := okR_num o1
  obtain ⟨j1, j2, j3, j4, j5⟩ := okR_num o2
  obtain ⟨u1, u2⟩ := full_pos o1
  obtain ⟨v1, v2⟩ := full_pos o2
  have u3 : full d1 ≤ 536870912 := by unfold full; split <;> omega
  have v3 : full d2 ≤ 536870912 := by unfold full; split <;> omega
  have S1 := Lib.hid (full_any n1 d1 i5)
  have S2 := Lib.hid (full_any n2 d2 j5)
  obtain ⟨x1, x2⟩ := small_mul a1 a2 (show 0 ≤ full d2 by omega) v3
  obtain ⟨x3, x4⟩ := small_mul b1 b2 (show 0 ≤ full d1 by omega) u3
  obtain ⟨x5, x6⟩ := small_mul (show -536870912 ≤ full d1 by omega) u3 (show 0 ≤ full d2 by omega) v3
  have x7 : 1 ≤ full d1 * full d2 := Int.mul_pos (by omega) (by omega)
  obtain ⟨y1, y2⟩ := small_mul b1 b2 (show 0 ≤ full d1 by omega) u3
  have y3 : 1 ≤ full d1 * n2 := Int.mul_pos (by omega) hn
  rw [Int.mul_comm n2] at y1 y2
  have K := rof_pos (n1 * full d2) (full d1 * n2) (by omega) (by omega) (by omega) (by omega)
  rw [rdiv_of o1 o2] at K
  have OF := Lib.hid K
  clear K
  clear i5 j5 o1 o2
  generalize full d1 = D1 at *
  generalize full d2 = D2 at *
  go_enter Try.func25, Try.ntmps25
  go_upto_region 1 with fail
  obtain ⟨c0, c1, c2, c3, c4, c5, e0, e1, e2, e3, e4, e5, hbw, hzw⟩ := init3 (Below.refl _ (((w.alloc (.cells #[.int .i64 n1, .int .i64 d1] 27)).alloc (.cells #[.int .i64 n2, .int .i64 d2] 27)).alloc (.cells #[.int .i64 0, .int .i64 0] 27)))
  generalize ((w.alloc (.cells #[.int .i64 n1, .int .i64 d1] 27)).alloc (.cells #[.int .i64 n2, .int .i64 d2] 27)).alloc (.cells #[.int .i64 0, .int .i64 0] 27) = w1 at *
  go_cut [2] (fun t2 wx => t2 = .pointer (some ⟨w.heap.size, 0, none⟩) ∧ wx.cell? ⟨w.heap.size, 0, none⟩ = some (.int .i64 n1) ∧ wx.cell? ⟨w.heap.size, 1, none⟩ = some (.int .i64 D1) ∧ wx.cell? ⟨w.heap.size + 1, 0, none⟩ = some (.int .i64 n2) ∧ wx.cell? ⟨w.heap.size + 1, 1, none⟩ = some (.int .i64 D2) ∧ wx.cell? ⟨w.heap.size + 1 + 1, 0, none⟩ = some (.int .i64 0) ∧ wx.cell? ⟨w.heap.size + 1 + 1, 1, none⟩ = some (.int .i64 0) ∧ wx.frozen? ⟨w.heap.size + 1 + 1, 0, none⟩ = false ∧ wx.frozen? ⟨w.heap.size + 1 + 1, 1, none⟩ = false ∧ Below w.heap.size w wx ∧ w.heap.size + 3 ≤ wx.heap.size)
  case first =>
    have f0 : w.heap.size < w1.heap.size := by omega
    have f1 : w.heap.size + 1 < w1.heap.size := by omega
    have f2 : w.heap.size + 1 + 1 < w1.heap.size := by omega
    have n01 : w.heap.size ≠ w.heap.size + 1 := by omega
    have n02 : w.heap.size ≠ w.heap.size + 1 + 1 := by omega
    have n12 : w.heap.size + 1 ≠ w.heap.size + 1 + 1 := by omega
    go_region_with (first | (go_at_call_of 42 (Value.agg #[Value.int IntKind.i64 n1, Value.int IntKind.i64 d1]); refine (S1.out _).mono ?_; rintro e w2 ⟨rfl, hb2⟩; obtain ⟨hc2, hf2⟩ := bcellN w1.heap.size hb2 (Nat.le_refl _)) | (go_at_call_of 42 (Value.agg #[Value.int IntKind.i64 n2, Value.int IntKind.i64 d2]); refine (S2.out _).mono ?_; rintro e w3 ⟨rfl, hb3⟩; obtain ⟨hc3, hf3⟩ := bcellN w1.heap.size hb3 (by (first | exact Nat.le_refl _ | exact hb2.size))))
    all_goals
      go_wp2_with fail
      go_meet
      have y2 : w1.heap.size ≤ w2.heap.size := hb2.size
      have y3 : w2.heap.size ≤ w3.heap.size := hb3.size
      have hb2 := hb2.mono (B' := w.heap.size) (by (try simp) <;> omega)
      have hb3 := hb3.mono (B' := w.heap.size) (by (try simp) <;> omega)
      refine ⟨rfl, ?_, ?_, ?_, ?_, ?_, ?_, ?_, ?_, ?_, ?_⟩
      rotate_left 8
      · repeat (first | exact Below.refl _ _ | assumption | (refine Below.alloc ?_ (by (try simp) <;> omega) _) | (refine Below.setCell ?_ (by (try simp) <;> omega) _) | (refine Below.drew ?_) | (refine below_drewN _ ?_) | (refine Below.trans ?_ hb3) | (refine Below.trans ?_ hb2))
      · ((try simp) <;> omega)
      all_goals simp [go_sem, *]
  case rest =>
    obtain ⟨rfl, k0, k1, k2, k3, k4, k5, k6, k7, kb, kz⟩ := hcut
    clear c0 c1 c2 c3 c4 c5 e0 e1 e2 e3 e4 e5 hbw hzw
    generalize wc = wA at *
    have f0 : w.heap.size < wA.heap.size := by omega
    have f1 : w.heap.size + 1 < wA.heap.size := by omega
    have f2 : w.heap.size + 1 + 1 < wA.heap.size := by omega
    go_wp2_with fail
    refine (OF.out _).mono ?_
    rintro e w2 ⟨rfl, hb2⟩
    obtain ⟨hc2, hf2⟩ := bcell hb2
    go_wp2_with fail
    refine bodyPost_ret (v := .tuple #[.agg #[.int .i64 (outR (toR n1 d1 / toR n2 d2)).1, .int .i64 (outR (toR n1 d1 / toR n2 d2)).2.1], .int .i64 (outR (toR n1 d1 / toR n2 d2)).2.2]) (by simp [results, Try.results25, go_sem, *]) rfl ⟨rfl, ?_⟩
    clear hc2 hf2
    replace hb2 := hb2.mono (B' := w.heap.size) (by omega)
    repeat (first | exact Below.refl _ _ | assumption | (refine Below.alloc ?_ (by (try simp) <;> omega) _) | (refine Below.setCell ?_ (by (try simp) <;> omega) _) | (refine Below.drew ?_) | (refine below_drewN _ ?_) | (refine Below.trans ?_ hb2))

set_option maxHeartbeats 4000000 in
theorem rdiv_neg (n1 d1 n2 d2 : Int) (o1 : okR n1 d1) (o2 : okR n2 d2) (a1 : -536870912 ≤ n1) (a2 : n1 ≤ 536870912) (a3 : d1 ≤ 536870912) (b1 : -536870912 ≤ n2) (b2 : n2 ≤ 536870912) (b3 : d2 ≤ 536870912) (hn : n2 < 0) (w : World) :
    Calls Try.prog 25 #[.agg #[.int .i64 n1, .int .i64 d1], .agg #[.int .i64 n2, .int .i64 d2]] w fun e w' =>
      e = .returned (.tuple #[.agg #[.int .i64 (outR (toR n1 d1 / toR n2 d2)).1, .int .i64 (outR (toR n1 d1 / toR n2 d2)).2.1], .int .i64 (outR (toR n1 d1 / toR n2 d2)).2.2]) ∧ Below w.heap.size w w' := by
  obtain ⟨i1, i2, i3, i4, i5⟩ := okR_num o1
  obtain ⟨j1, j2, j3, j4, j5⟩ := okR_num o2
  obtain ⟨u1, u2⟩ := full_pos o1
  obtain ⟨v1, v2⟩ := full_pos o2
  have u3 : full d1 ≤ 536870912 := by unfold full; split <;> omega
  have v3 : full d2 ≤ 536870912 := by unfold full; split <;> omega
  have S1 := Lib.hid (full_any n1 d1 i5)
  have S2 := Lib.hid (full_any n2 d2 j5)
  obtain ⟨x1, x2⟩ := small_mul a1 a2 (show 0 ≤ full d2 by omega) v3
  obtain ⟨x3, x4⟩ := small_mul b1 b2 (show 0 ≤ full d1 by omega) u3
  obtain ⟨x5, x6⟩ := small_mul (show -536870912 ≤ full d1 by omega) u3 (show 0 ≤ full d2 by omega) v3
  have x7 : 1 ≤ full d1 * full d2 := Int.mul_pos (by omega) (by omega)
  obtain ⟨y1, y2⟩ := small_mul b1 b2 (show 0 ≤ full d1 by omega) u3
  have y3 : full d1 * n2 ≤ -1 := by have := Int.mul_neg_of_pos_of_neg (show 0 < full d1 by omega) hn; omega
  rw [Int.mul_comm n2] at y1 y2
  have K := rof_neg (n1 * full d2) (full d1 * n2) (by omega) (by omega) (by omega) (by omega)
  rw [rdiv_of o1 o2] at K
  have OF := Lib.hid K
  clear K
  clear i5 j5 o1 o2
  generalize full d1 = D1 at *
  generalize full d2 = D2 at *
  go_enter Try.func25, Try.ntmps25
  go_upto_region 1 with fail
  obtain ⟨c0, c1, c2, c3, c4, c5, e0, e1, e2, e3, e4, e5, hbw, hzw⟩ := init3 (Below.refl _ (((w.alloc (.cells #[.int .i64 n1, .int .i64 d1] 27)).alloc (.cells #[.int .i64 n2, .int .i64 d2] 27)).alloc (.cells #[.int .i64 0, .int .i64 0] 27)))
  generalize ((w.alloc (.cells #[.int .i64 n1, .int .i64 d1] 27)).alloc (.cells #[.int .i64 n2, .int .i64 d2] 27)).alloc (.cells #[.int .i64 0, .int .i64 0] 27) = w1 at *
  go_cut [2] (fun t2 wx => t2 = .pointer (some ⟨w.heap.size, 0, none⟩) ∧ wx.cell? ⟨w.heap.size, 0, none⟩ = some (.int .i64 n1) ∧ wx.cell? ⟨w.heap.size, 1, none⟩ = some (.int .i64 D1) ∧ wx.cell? ⟨w.heap.size + 1, 0, none⟩ = some (.int .i64 n2) ∧ wx.cell? ⟨w.heap.size + 1, 1, none⟩ = some (.int .i64 D2) ∧ wx.cell? ⟨w.heap.size + 1 + 1, 0, none⟩ = some (.int .i64 0) ∧ wx.cell? ⟨w.heap.size + 1 + 1, 1, none⟩ = some (.int .i64 0) ∧ wx.frozen? ⟨w.heap.size + 1 + 1, 0, none⟩ = false ∧ wx.frozen? ⟨w.heap.size + 1 + 1, 1, none⟩ = false ∧ Below w.heap.size w wx ∧ w.heap.size + 3 ≤ wx.heap.size)
  case first =>
    have f0 : w.heap.size < w1.heap.size := by omega
    have f1 : w.heap.size + 1 < w1.heap.size := by omega
    have f2 : w.heap.size + 1 + 1 < w1.heap.size := by omega
    have n01 : w.heap.size ≠ w.heap.size + 1 := by omega
    have n02 : w.heap.size ≠ w.heap.size + 1 + 1 := by omega
    have n12 : w.heap.size + 1 ≠ w.heap.size + 1 + 1 := by omega
    go_region_with (first | (go_at_call_of 42 (Value.agg #[Value.int IntKind.i64 n1, Value.int IntKind.i64 d1]); refine (S1.out _).mono ?_; rintro e w2 ⟨rfl, hb2⟩; obtain ⟨hc2, hf2⟩ := bcellN w1.heap.size hb2 (Nat.le_refl _)) | (go_at_call_of 42 (Value.agg #[Value.int IntKind.i64 n2, Value.int IntKind.i64 d2]); refine (S2.out _).mono ?_; rintro e w3 ⟨rfl, hb3⟩; obtain ⟨hc3, hf3⟩ := bcellN w1.heap.size hb3 (by (first | exact Nat.le_refl _ | exact hb2.size))))
    all_goals
      go_wp2_with fail
      go_meet
      have y2 : w1.heap.size ≤ w2.heap.size := hb2.size
      have y3 : w2.heap.size ≤ w3.heap.size := hb3.size
      have hb2 := hb2.mono (B' := w.heap.size) (by (try simp) <;> omega)
      have hb3 := hb3.mono (B' := w.heap.size) (by (try simp) <;> omega)
      refine ⟨rfl, ?_, ?_, ?_, ?_, ?_, ?_, ?_, ?_, ?_, ?_⟩
      rotate_left 8
      · repeat (first | exact Below.refl _ _ | assumption | (refine Below.alloc ?_ (by (try simp) <;> omega) _) | (refine Below.setCell ?_ (by (try simp) <;> omega) _) | (refine Below.drew ?_) | (refine below_drewN _ ?_) | (refine Below.trans ?_ hb3) | (refine Below.trans ?_ hb2))
      · ((try simp) <;> omega)
      all_goals simp [go_sem, *]
  case rest =>
    obtain ⟨rfl, k0, k1, k2, k3, k4, k5, k6, k7, kb, kz⟩ := hcut
    clear c0 c1 c2 c3 c4 c5 e0 e1 e2 e3 e4 e5 hbw hzw
    generalize wc = wA at *
    have f0 : w.heap.size < wA.heap.size := by omega
    have f1 : w.heap.size + 1 < wA.heap.size := by omega
    have f2 : w.heap.size + 1 + 1 < wA.heap.size := by omega
    go_wp2_with fail
    refine (OF.out _).mono ?_
    rintro e w2 ⟨rfl, hb2⟩
    obtain ⟨hc2, hf2⟩ := bcell hb2
    go_wp2_with fail
    refine bodyPost_ret (v := .tuple #[.agg #[.int .i64 (outR (toR n1 d1 / toR n2 d2)).1, .int .i64 (outR (toR n1 d1 / toR n2 d2)).2.1], .int .i64 (outR (toR n1 d1 / toR n2 d2)).2.2]) (by simp [results, Try.results25, go_sem, *]) rfl ⟨rfl, ?_⟩
    clear hc2 hf2
    replace hb2 := hb2.mono (B' := w.heap.size) (by omega)
    repeat (first | exact Below.refl _ _ | assumption | (refine Below.alloc ?_ (by (try simp) <;> omega) _) | (refine Below.setCell ?_ (by (try simp) <;> omega) _) | (refine Below.drew ?_) | (refine below_drewN _ ?_) | (refine Below.trans ?_ hb2))

set_option maxHeartbeats 4000000 in
theorem rdiv_zero (n1 d1 d2 : Int) (o1 : okR n1 d1) (o2 : okR 0 d2) (a1 : -536870912 ≤ n1) (a2 : n1 ≤ 536870912) (a3 : d1 ≤ 536870912) (b3 : d2 ≤ 536870912) (w : World) :
    Calls Try.prog 25 #[.agg #[.int .i64 n1, .int .i64 d1], .agg #[.int .i64 0, .int .i64 d2]] w fun e w' =>
      e = .returned (.tuple #[.agg #[.int .i64 0, .int .i64 0], .int .i64 2]) ∧ Below w.heap.size w w' := by
  obtain ⟨i1, i2, i3, i4, i5⟩ := okR_num o1
  obtain ⟨j1, j2, j3, j4, j5⟩ := okR_num o2
  obtain ⟨u1, u2⟩ := full_pos o1
  obtain ⟨v1, v2⟩ := full_pos o2
  have u3 : full d1 ≤ 536870912 := by unfold full; split <;> omega
  have v3 : full d2 ≤ 536870912 := by unfold full; split <;> omega
  have S1 := Lib.hid (full_any n1 d1 i5)
  have S2 := Lib.hid (full_any 0 d2 j5)
  obtain ⟨x1, x2⟩ := small_mul a1 a2 (show 0 ≤ full d2 by omega) v3
  obtain ⟨x5, x6⟩ := small_mul (show -536870912 ≤ full d1 by omega) u3 (show 0 ≤ full d2 by omega) v3
  have x7 : 1 ≤ full d1 * full d2 := Int.mul_pos (by omega) (by omega)
  have OF := Lib.hid (rof_zero (n1 * full d2))
  clear i5 j5 o1 o2
  generalize full d1 = D1 at *
  generalize full d2 = D2 at *
  go_enter Try.func25, Try.ntmps25
  go_upto_region 1 with fail
  obtain ⟨c0, c1, c2, c3, c4, c5, e0, e1, e2, e3, e4, e5, hbw, hzw⟩ := init3 (Below.refl _ (((w.alloc (.cells #[.int .i64 n1, .int .i64 d1] 27)).alloc (.cells #[.int .i64 0, .int .i64 d2] 27)).alloc (.cells #[.int .i64 0, .int .i64 0] 27)))
  generalize ((w.alloc (.cells #[.int .i64 n1, .int .i64 d1] 27)).alloc (.cells #[.int .i64 0, .int .i64 d2] 27)).alloc (.cells #[.int .i64 0, .int .i64 0] 27) = w1 at *
  go_cut [2] (fun t2 wx => t2 = .pointer (some ⟨w.heap.size, 0, none⟩) ∧ wx.cell? ⟨w.heap.size, 0, none⟩ = some (.int .i64 n1) ∧ wx.cell? ⟨w.heap.size, 1, none⟩ = some (.int .i64 D1) ∧ wx.cell? ⟨w.heap.size + 1, 0, none⟩ = some (.int .i64 0) ∧ wx.cell? ⟨w.heap.size + 1, 1, none⟩ = some (.int .i64 D2) ∧ wx.cell? ⟨w.heap.size + 1 + 1, 0, none⟩ = some (.int .i64 0) ∧ wx.cell? ⟨w.heap.size + 1 + 1, 1, none⟩ = some (.int .i64 0) ∧ wx.frozen? ⟨w.heap.size + 1 + 1, 0, none⟩ = false ∧ wx.frozen? ⟨w.heap.size + 1 + 1, 1, none⟩ = false ∧ Below w.heap.size w wx ∧ w.heap.size + 3 ≤ wx.heap.size)
  case first =>
    have f0 : w.heap.size < w1.heap.size := by omega
    have f1 : w.heap.size + 1 < w1.heap.size := by omega
    have f2 : w.heap.size + 1 + 1 < w1.heap.size := by omega
    have n01 : w.heap.size ≠ w.heap.size + 1 := by omega
    have n02 : w.heap.size ≠ w.heap.size + 1 + 1 := by omega
    have n12 : w.heap.size + 1 ≠ w.heap.size + 1 + 1 := by omega
    go_region_with (first | (go_at_call_of 42 (Value.agg #[Value.int IntKind.i64 n1, Value.int IntKind.i64 d1]); refine (S1.out _).mono ?_; rintro e w2 ⟨rfl, hb2⟩; obtain ⟨hc2, hf2⟩ := bcellN w1.heap.size hb2 (Nat.le_refl _)) | (go_at_call_of 42 (Value.agg #[Value.int IntKind.i64 0, Value.int IntKind.i64 d2]); refine (S2.out _).mono ?_; rintro e w3 ⟨rfl, hb3⟩; obtain ⟨hc3, hf3⟩ := bcellN w1.heap.size hb3 (by (first | exact Nat.le_refl _ | exact hb2.size))))
    all_goals
      go_wp2_with fail
      go_meet
      have y2 : w1.heap.size ≤ w2.heap.size := hb2.size
      have y3 : w2.heap.size ≤ w3.heap.size := hb3.size
      have hb2 := hb2.mono (B' := w.heap.size) (by (try simp) <;> omega)
      have hb3 := hb3.mono (B' := w.heap.size) (by (try simp) <;> omega)
      refine ⟨rfl, ?_, ?_, ?_, ?_, ?_, ?_, ?_, ?_, ?_, ?_⟩
      rotate_left 8
      · repeat (first | exact Below.refl _ _ | assumption | (refine Below.alloc ?_ (by (try simp) <;> omega) _) | (refine Below.setCell ?_ (by (try simp) <;> omega) _) | (refine Below.drew ?_) | (refine below_drewN _ ?_) | (refine Below.trans ?_ hb3) | (refine Below.trans ?_ hb2))
      · ((try simp) <;> omega)
      all_goals simp [go_sem, *]
  case rest =>
    obtain ⟨rfl, k0, k1, k2, k3, k4, k5, k6, k7, kb, kz⟩ := hcut
    clear c0 c1 c2 c3 c4 c5 e0 e1 e2 e3 e4 e5 hbw hzw
    generalize wc = wA at *
    have f0 : w.heap.size < wA.heap.size := by omega
    have f1 : w.heap.size + 1 < wA.heap.size := by omega
    have f2 : w.heap.size + 1 + 1 < wA.heap.size := by omega
    go_wp2_with fail
    refine (OF.out _).mono ?_
    rintro e w2 ⟨rfl, hb2⟩
    obtain ⟨hc2, hf2⟩ := bcell hb2
    go_wp2_with fail
    refine bodyPost_ret (v := .tuple #[.agg #[.int .i64 0, .int .i64 0], .int .i64 2]) (by simp [results, Try.results25, go_sem, *]) rfl ⟨rfl, ?_⟩
    clear hc2 hf2
    replace hb2 := hb2.mono (B' := w.heap.size) (by omega)
    repeat (first | exact Below.refl _ _ | assumption | (refine Below.alloc ?_ (by (try simp) <;> omega) _) | (refine Below.setCell ?_ (by (try simp) <;> omega) _) | (refine Below.drew ?_) | (refine below_drewN _ ?_) | (refine Below.trans ?_ hb2))
end Go.Proofs.Ythiemhkhlggenaa
