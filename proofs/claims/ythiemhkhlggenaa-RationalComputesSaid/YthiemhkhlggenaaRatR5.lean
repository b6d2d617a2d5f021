/- Contracts of the reference's Cmp and Floor. -/
import Derived.Test.YthiemhkhlggenaaRatR3
namespace Go.Proofs.Ythiemhkhlggenaa
open Go.RowKit Go.Shelf

set_option maxHeartbeats 4000000 in
theorem rcmp_any (n1 d1 n2 d2 : Int) (o1 : okR n1 d1) (o2 : okR n2 d2) (a1 : -536870912 ≤ n1) (a2 : n1 ≤ 536870912) (a3 : d1 ≤ 536870912) (b1 : -536870912 ≤ n2) (b2 : n2 ≤ 536870912) (b3 : d2 ≤ 536870912) (w : World) :
    Calls Try.prog 27 #[.agg #[.int .i64 n1, .int .i64 d1], .agg #[.int .i64 n2, .int .i64 d2]] w fun e w' =>
      e = .returned (.int .i64 (cmpI (n1 * full d2) (n2 * full d1))) ∧ Below w.heap.size w w' := by
  obtain ⟨i1, i2, i3, i4, i5⟩ := okR_num o1
  obtain ⟨j1, j2, j3, j4, j5⟩ := okR_num o2
  obtain ⟨u1, u2⟩ := full_pos o1
  obtain ⟨v1, v2⟩ := full_pos o2
  have u3 : full d1 ≤ 536870912 := by unfold full; split <;> omega
  have v3 : full d2 ≤ 536870912 := by unfold full; split <;> omega
  have S1 := Lib.hid (full_any n1 d1 i5)
  have S2 := Lib.hid (full_any n2 d2 j5)
  obtain ⟨x1, x2⟩ := small_mul a1 a2 (show 0 ≤ full d2 by omega) v3
  obtain ⟨x3, x4⟩ := small_mul b1 b2 (show 0 ≤ full d1 by omega) u3
  obtain ⟨x5, x6⟩ := small_mul (show -536870912 ≤ full d1 by omega) u3 (show 0 ≤ full d2 by omega) v3
  have x7 : 1 ≤ full d1 * full d2 := Int.mul_pos (by omega) (by omega)
  clear i5 j5 o1 o2
  generalize full d1 = D1 at *
  generalize full d2 = D2 at *
  go_enter Try.func27, Try.ntmps27
  go_upto_region 1 with fail
  obtain ⟨c0, c1, c2, c3, e0, e1, e2, e3, hbw, hzw⟩ := init2 (Below.refl _ ((w.alloc (.cells #[.int .i64 n1, .int .i64 d1] 27)).alloc (.cells #[.int .i64 n2, .int .i64 d2] 27)))
  generalize (w.alloc (.cells #[.int .i64 n1, .int .i64 d1] 27)).alloc (.cells #[.int .i64 n2, .int .i64 d2] 27) = w1 at *
  go_cut [2] (fun t2 wx => t2 = .pointer (some ⟨w.heap.size, 0, none⟩) ∧ wx.cell? ⟨w.heap.size, 0, none⟩ = some (.int .i64 n1) ∧ wx.cell? ⟨w.heap.size, 1, none⟩ = some (.int .i64 D1) ∧ wx.cell? ⟨w.heap.size + 1, 0, none⟩ = some (.int .i64 n2) ∧ wx.cell? ⟨w.heap.size + 1, 1, none⟩ = some (.int .i64 D2) ∧ Below w.heap.size w wx ∧ w.heap.size + 2 ≤ wx.heap.size)
  case first =>
    have f0 : w.heap.size < w1.heap.size := by omega
    have f1 : w.heap.size + 1 < w1.heap.size := by omega
    have n01 : w.heap.size ≠ w.heap.size + 1 := by omega
    go_region_with (first | (go_at_call_of 42 (Value.agg #[Value.int IntKind.i64 n1, Value.int IntKind.i64 d1]); refine (S1.out _).mono ?_; rintro e w2 ⟨rfl, hb2⟩; obtain ⟨hc2, hf2⟩ := bcellN w1.heap.size hb2 (Nat.le_refl _)) | (go_at_call_of 42 (Value.agg #[Value.int IntKind.i64 n2, Value.int IntKind.i64 d2]); refine (S2.out _).mono ?_; rintro e w3 ⟨rfl, hb3⟩; obtain ⟨hc3, hf3⟩ := bcellN w1.heap.size hb3 (by (first | exact Nat.le_refl _ | exact hb2.size))))
    all_goals
      go_wp2_with fail
      go_meet
      have y2 : w1.heap.size ≤ w2.heap.size := hb2.size
      have y3 : w2.heap.size ≤ w3.heap.size := hb3.size
      have hb2 := hb2.mono (B' := w.heap.size) (by (try simp) <;> omega)
      have hb3 := hb3.mono (B' := w.heap.size) (by (try simp) <;> omega)
      refine ⟨rfl, ?_, ?_, ?_, ?_, ?_, ?_⟩
      rotate_left 4
      · repeat (first | exact Below.refl _ _ | assumption | (refine Below.alloc ?_ (by (try simp) <;> omega) _) | (refine Below.setCell ?_ (by (try simp) <;> omega) _) | (refine Below.drew ?_) | (refine below_drewN _ ?_) | (refine Below.trans ?_ hb3) | (refine Below.trans ?_ hb2))
      · ((try simp) <;> omega)
      all_goals simp [go_sem, *]
  case rest =>
    obtain ⟨rfl, k0, k1, k2, k3, kb, kz⟩ := hcut
    clear c0 c1 c2 c3 e0 e1 e2 e3 hbw hzw
    generalize wc = wA at *
    have f0 : w.heap.size < wA.heap.size := by omega
    have f1 : w.heap.size + 1 < wA.heap.size := by omega
    by_cases hl : n1 * D2 < n2 * D1
    · have E : Hid (cmpI (n1 * D2) (n2 * D1) = -1) := Lib.hid (if_pos hl)
      go_wp2_with fail
      go_quiet (fail)
      go_wp2_with fail
      go_ret
      exact ⟨ret_int E.out.symm, below_drewN _ kb⟩
    · by_cases hr : n2 * D1 < n1 * D2
      · have E : Hid (cmpI (n1 * D2) (n2 * D1) = 1) := Lib.hid (by unfold cmpI; rw [if_neg hl, if_pos hr])
        go_wp2_with fail
        go_quiet (fail)
        go_wp2_with fail
        go_ret
        exact ⟨ret_int E.out.symm, below_drewN _ kb⟩
      · have E : Hid (cmpI (n1 * D2) (n2 * D1) = 0) := Lib.hid (by unfold cmpI; rw [if_neg hl, if_neg hr])
        go_wp2_with fail
        go_quiet (fail)
        go_wp2_with fail
        go_ret
        exact ⟨ret_int E.out.symm, below_drewN _ kb⟩

set_option maxHeartbeats 1000000 in
theorem rfloor_any (n d : Int) (o1 : okR n d) (w : World) :
    Calls Try.prog 29 #[.agg #[.int .i64 n, .int .i64 d]] w fun e w' => e = .returned (.int .i64 (n / full d)) ∧ Below w.heap.size w w' := by
  obtain ⟨i1, i2, i3, i4, i5⟩ := okR_num o1
  obtain ⟨u1, u2⟩ := full_pos o1
  have S1 := Lib.hid (full_any n d i5)
  generalize full d = D at *
  obtain ⟨fl1, fl2⟩ := floor_num n D u1
  have L1 := Lib.hid fl1
  have L2 := Lib.hid fl2
  have hq0 := IntWalk.i64_quo' n D ⟨by omega, by omega, u1⟩
  have hD : D ≠ 0 := by omega
  obtain ⟨qb1, qb2⟩ := tdiv_range (b := 1152921504606846976) (n := n) u1 (by omega) (by omega)
  obtain ⟨q, hq⟩ : ∃ q, n.tdiv D = q := ⟨_, rfl⟩
  obtain ⟨r, hr⟩ : ∃ r, n.tmod D = r := ⟨_, rfl⟩
  rw [hq] at qb1 qb2 hq0
  have HQ := Lib.hid hq
  have HR := Lib.hid hr
  clear i5 o1 fl1 fl2 hq
  by_cases hneg : r < 0
  · have hd : decide (r < 0) = true := decide_eq_true hneg
    go_enter Try.func29, Try.ntmps29
    go_wp2_with fail
    refine (S1.out _).mono ?_
    rintro e w2 ⟨rfl, hb2⟩
    obtain ⟨c0, c1, e0, e1, hbw, hzw⟩ := init1 hb2
    clear hb2
    go_wp2_with fail
    go_ret
    refine ⟨ret_int ?_, ?_⟩
    · rw [← L1.out (by rw [HR.out]; exact hneg), HQ.out]; first | done | (unfold wrap64; omega)
    · repeat (first | assumption | (refine Below.setCell ?_ (by simp) _))
  · have hd : decide (r < 0) = false := decide_eq_false hneg
    go_enter Try.func29, Try.ntmps29
    go_wp2_with fail
    refine (S1.out _).mono ?_
    rintro e w2 ⟨rfl, hb2⟩
    obtain ⟨c0, c1, e0, e1, hbw, hzw⟩ := init1 hb2
    clear hb2
    go_wp2_with fail
    go_ret
    refine ⟨ret_int ?_, ?_⟩
    · rw [← L2.out (by rw [HR.out]; exact hneg), HQ.out]
    · repeat (first | assumption | (refine Below.setCell ?_ (by simp) _))
end Go.Proofs.Ythiemhkhlggenaa
