/- The contract of Add. -/
import Derived.Test.YtlglagihekadhaaDoorRatX
namespace Go.Proofs.YtlglagihekadhaaDoor
open Go.RowKit Go.Shelf

theorem modulo_num (X d : Int) (h1 : 0 ≤ X) (h2 : X < 340282366920938463463374607431768211456) (d0 : 1 ≤ d) (d1 : d ≤ 18446744073709551615) (w : World) :
    Calls Tryd.prog 27 #[.agg #[.int .u64 (X / 18446744073709551616), .int .u64 (X % 18446744073709551616)], .int .u64 d] w fun e w' => e = .returned (.int .u64 (X % d)) ∧ Below w.heap.size w w' := by
  have := modulo_any (X / 18446744073709551616) (X % 18446744073709551616) d (by omega) (by omega) (by omega) (by omega) d0 d1 w
  rw [show X / 18446744073709551616 * 18446744073709551616 + X % 18446744073709551616 = X by omega] at this
  exact this
theorem over_num' (X d : Int) (h1 : 0 ≤ X) (h2 : X < 340282366920938463463374607431768211456) (d0 : 1 ≤ d) (d1 : d ≤ 18446744073709551615) (w : World) :
    Calls Tryd.prog 30 #[.agg #[.int .u64 (X / 18446744073709551616), .int .u64 (X % 18446744073709551616)], .int .u64 d] w fun e w' => e = .returned (.agg #[.int .u64 (X / d / 18446744073709551616), .int .u64 (X / d % 18446744073709551616)]) ∧ Below w.heap.size w w' := by
  have := over_any (X / 18446744073709551616) (X % 18446744073709551616) d (by omega) (by omega) (by omega) (by omega) d0 d1 w
  rw [show X / 18446744073709551616 * 18446744073709551616 + X % 18446744073709551616 = X by omega] at this
  exact this
theorem mul_bound {a b : Int} (h1 : -1152921504606846976 ≤ a) (h2 : a ≤ 1152921504606846976) (h3 : 0 ≤ b) (h4 : b ≤ 1152921504606846976) :
    -1329227995784915872903807060280344576 ≤ a * b ∧ a * b ≤ 1329227995784915872903807060280344576 := by
  have k1 := Int.mul_le_mul_of_nonneg_right h2 h3
  have k2 := Int.mul_le_mul_of_nonneg_right h1 h3
  omega

set_option maxRecDepth 100000 in
set_option maxHeartbeats 4000000 in
theorem add_valid (n1 d1 n2 d2 : Int) (hv1 : validB n1 d1 = true) (hv2 : validB n2 d2 = true) (w : World) :
    Calls Tryd.prog 12 #[.agg #[.int .i64 n1, .int .i64 d1], .agg #[.int .i64 n2, .int .i64 d2]] w fun e w' =>
      e = .returned (.tuple #[.agg #[.int .i64 (outR (toR n1 d1 + toR n2 d2)).1, .int .i64 (outR (toR n1 d1 + toR n2 d2)).2.1], .int .i64 (outR (toR n1 d1 + toR n2 d2)).2.2]) ∧ Below w.heap.size w w' := by
  have o1 := okR_of hv1
  have o2 := okR_of hv2
  obtain ⟨i1, i2, i3, i4, i5⟩ := okR_num o1
  obtain ⟨j1, j2, j3, j4, j5⟩ := okR_num o2
  obtain ⟨u1, u2⟩ := full_pos o1
  obtain ⟨v1, v2⟩ := full_pos o2
  obtain ⟨g, hg⟩ : ∃ g, g = gd (full d1) (full d2) := ⟨_, rfl⟩
  obtain ⟨t, ht⟩ : ∃ t, t = n1 * (full d2 / g) + n2 * (full d1 / g) := ⟨_, rfl⟩
  obtain ⟨c, hc⟩ : ∃ c, c = gd (mag t % g) g := ⟨_, rfl⟩
  obtain ⟨g0, g1, cp0, cp1, hS⟩ := add_spec o1 o2 hg ht hc
  rw [← hS]
  have s1 := settle_any n1 d1 i5
  have s2 := settle_any n2 d2 j5
  generalize full d1 = D1 at *
  generalize full d2 = D2 at *
  have em1 := mag_self u1
  have em2 := mag_self v1
  have hgs : gd D1 D2 = g := hg.symm
  have hcs : gd (mag t % g) g = c := hc.symm
  have hw1 : IntKind.i64.wrap g = g := IntWalk.i64_in g ⟨by omega, by omega⟩
  have hE2 := IntWalk.i64_quo D2 g ⟨by omega, by omega, g0⟩
  have hE1 := IntWalk.i64_quo D1 g ⟨by omega, by omega, g0⟩
  have hU1 := IntWalk.u64_quo D1 g ⟨by omega, by omega, g0⟩
  have hU2 := IntWalk.u64_quo D2 c ⟨by omega, by omega, cp0⟩
  have p5 : 0 ≤ D1 / g := Int.ediv_nonneg (by omega) (by omega)
  have p6 : D1 / g ≤ D1 := Int.ediv_le_self _ (by omega)
  have p7 : 0 ≤ D2 / g := Int.ediv_nonneg (by omega) (by omega)
  have p8 : D2 / g ≤ D2 := Int.ediv_le_self _ (by omega)
  have p9 : 0 ≤ D2 / c := Int.ediv_nonneg (by omega) (by omega)
  have p10 : D2 / c ≤ D2 := Int.ediv_le_self _ (by omega)
  have hgn : g ≠ 0 := by omega
  have hcn : c ≠ 0 := by omega
  have HS := Lib.hid hS
  have V1 := valid_any n1 d1 (by omega) (by omega) (by omega) (by omega)
  have V2 := valid_any n2 d2 (by omega) (by omega) (by omega) (by omega)
  rw [hv1] at V1
  rw [hv2] at V2
  have HV1 := Lib.hid V1
  have HV2 := Lib.hid V2
  have S1 := Lib.hid s1
  have S2 := Lib.hid s2
  clear hS hg s1 s2 i5 j5 o1 o2 V1 V2 hv1 hv2
  generalize D1 / g = E1 at *
  generalize D2 / g = E2 at *
  generalize D2 / c = F2 at *
  obtain ⟨b1, b2⟩ := mul_bound i1 i2 p7 (show E2 ≤ 1152921504606846976 by omega)
  obtain ⟨b3, b4⟩ := mul_bound j1 j2 p5 (show E1 ≤ 1152921504606846976 by omega)
  have m1 := Lib.hid (multiply_any n1 E2 (by omega) (by omega) (by omega) (by omega))
  have m2 := Lib.hid (multiply_any n2 E1 (by omega) (by omega) (by omega) (by omega))
  generalize n1 * E2 = L at *
  generalize n2 * E1 = R at *
  have P1 := Lib.hid (splus_any L R (by omega) (by omega) (by omega) (by omega))
  rw [← ht] at P1
  have t1 : -2658455991569831745807614120560689152 ≤ t := by omega
  have t2 : t ≤ 2658455991569831745807614120560689152 := by omega
  have t3 := mag_nonneg t
  have t4 : mag t ≤ 2658455991569831745807614120560689152 := mag_le t1 t2
  have t5 : 0 ≤ mag t / c := Int.ediv_nonneg t3 (by omega)
  have pC := Int.mul_nonneg p5 p9
  have mg0 : 0 ≤ mag t % g := Int.emod_nonneg _ (by omega)
  have mg1 : mag t % g < g := Int.emod_lt_of_pos _ (by omega)
  have BD := Lib.hid (bounded_any (decide (t < 0)) (mag t / c) (E1 * F2) t5 pC)
  have MD := Lib.hid (modulo_num (mag t) g t3 (by omega) g0 (by omega))
  have OV := Lib.hid (over_num' (mag t) c t3 (by omega) cp0 (by omega))
  clear ht hc
  go_enter Tryd.func12, Tryd.ntmps12
  go_wp2_with fail
  refine (HV1.out _).mono ?_
  rintro e w0 ⟨rfl, hb0⟩
  obtain ⟨hc0, hf0⟩ := bcell hb0
  have l03 : w.heap.size < w.heap.size + 1 + 1 + 1 := by omega
  go_wp2_with fail
  refine (HV2.out _).mono ?_
  rintro e w1 ⟨rfl, hb1⟩
  obtain ⟨c0, c1, c2, c3, c4, c5, e0, e1, e2, e3, e4, e5, hbw, hzw⟩ := init3 (hb0.trans (hb1.mono hb0.size))
  clear hc0 hf0 l03 hb0 hb1
  go_upto_region 3 with fail
  go_cut [2] (fun t2 wx => t2 = .pointer (some ⟨w.heap.size, 0, none⟩) ∧ wx.cell? ⟨w.heap.size, 0, none⟩ = some (.int .i64 n1) ∧ wx.cell? ⟨w.heap.size, 1, none⟩ = some (.int .i64 D1) ∧ wx.cell? ⟨w.heap.size + 1, 0, none⟩ = some (.int .i64 n2) ∧ wx.cell? ⟨w.heap.size + 1, 1, none⟩ = some (.int .i64 D2) ∧ wx.cell? ⟨w.heap.size + 1 + 1, 0, none⟩ = some (.int .i64 0) ∧ wx.cell? ⟨w.heap.size + 1 + 1, 1, none⟩ = some (.int .i64 0) ∧ wx.frozen? ⟨w.heap.size + 1 + 1, 0, none⟩ = false ∧ wx.frozen? ⟨w.heap.size + 1 + 1, 1, none⟩ = false ∧ Below w.heap.size w wx ∧ w.heap.size + 3 ≤ wx.heap.size)
  case first =>
    have f0 : w.heap.size < w1.heap.size := by omega
    have f1 : w.heap.size + 1 < w1.heap.size := by omega
    have f2 : w.heap.size + 1 + 1 < w1.heap.size := by omega
    have n01 : w.heap.size ≠ w.heap.size + 1 := by omega
    have n02 : w.heap.size ≠ w.heap.size + 1 + 1 := by omega
    have n12 : w.heap.size + 1 ≠ w.heap.size + 1 + 1 := by omega
    go_region_with (first | (go_at_call_of 15 (Value.agg #[Value.int IntKind.i64 n1, Value.int IntKind.i64 d1]); refine (S1.out _).mono ?_; rintro e w2 ⟨rfl, hb2⟩; obtain ⟨hc2, hf2⟩ := bcellN w1.heap.size hb2 (Nat.le_refl _)) | (go_at_call_of 15 (Value.agg #[Value.int IntKind.i64 n2, Value.int IntKind.i64 d2]); refine (S2.out _).mono ?_; rintro e w3 ⟨rfl, hb3⟩; obtain ⟨hc3, hf3⟩ := bcellN w1.heap.size hb3 (by (first | exact Nat.le_refl _ | exact hb2.size))))
    all_goals
      go_wp2_with fail
      go_meet
      have y2 : w1.heap.size ≤ w2.heap.size := hb2.size
      have y3 : w2.heap.size ≤ w3.heap.size := hb3.size
      have hb2 := hb2.mono (B' := w.heap.size) (by (try simp) <;> omega)
      have hb3 := hb3.mono (B' := w.heap.size) (by (try simp) <;> omega)
      refine ⟨rfl, ?_, ?_, ?_, ?_, ?_, ?_, ?_, ?_, ?_, ?_⟩
      rotate_left 8
      · repeat (first | exact Below.refl _ _ | assumption | (refine Below.alloc ?_ (by (try simp) <;> omega) _) | (refine Below.setCell ?_ (by (try simp) <;> omega) _) | (refine Below.drew ?_) | (refine below_drewN _ ?_) | (refine Below.trans ?_ hb3) | (refine Below.trans ?_ hb2))
      · ((try simp) <;> omega)
      all_goals simp [go_sem, *]
  case rest =>
    obtain ⟨rfl, k0, k1, k2, k3, k4, k5, k6, k7, kb, kz⟩ := hcut
    clear c0 c1 c2 c3 c4 c5 e0 e1 e2 e3 e4 e5 hbw hzw S1 S2 HV1 HV2
    generalize wc = wA at *
    have f0 : w.heap.size < wA.heap.size := by omega
    have f1 : w.heap.size + 1 < wA.heap.size := by omega
    have f2 : w.heap.size + 1 + 1 < wA.heap.size := by omega
    go_wp2_with fail
    go_quiet ((first | (go_at_call 18; exact mag_q _ (by omega) (by omega) _ _) | (go_at_call 17; exact divisor_q _ _ (by omega) (by omega) (by omega) (by omega) _ _)))
    rename_i nq
    change ((wA).drewN nq).cell? _ = _ at k0 k1 k2 k3 k4 k5
    change ((wA).drewN nq).frozen? _ = _ at k6 k7
    change _ < ((wA).drewN nq).heap.size at f0 f1 f2
    change _ ≤ ((wA).drewN nq).heap.size at kz
    replace kb := below_drewN nq kb
    generalize (wA).drewN nq = wB at *
    go_upto_region 5 with fail
    go_cut [6, 7] (fun t6 t7 wx => t6 = .int .u64 g ∧ ∃ p : Nat, w.heap.size + 3 ≤ p ∧ t7 = .pointer (some ⟨p, 0, none⟩) ∧ wx.cell? ⟨p, 0, none⟩ = some (.bool (decide (L < 0))) ∧ wx.cell? ⟨p, 1, none⟩ = some (.int .u64 (mag L / 18446744073709551616)) ∧ wx.cell? ⟨p, 2, none⟩ = some (.int .u64 (mag L % 18446744073709551616)) ∧ wx.cell? ⟨w.heap.size, 0, none⟩ = some (.int .i64 n1) ∧ wx.cell? ⟨w.heap.size, 1, none⟩ = some (.int .i64 D1) ∧ wx.cell? ⟨w.heap.size + 1, 0, none⟩ = some (.int .i64 n2) ∧ wx.cell? ⟨w.heap.size + 1, 1, none⟩ = some (.int .i64 D2) ∧ wx.cell? ⟨w.heap.size + 1 + 1, 0, none⟩ = some (.int .i64 0) ∧ wx.cell? ⟨w.heap.size + 1 + 1, 1, none⟩ = some (.int .i64 0) ∧ wx.frozen? ⟨w.heap.size + 1 + 1, 0, none⟩ = false ∧ wx.frozen? ⟨w.heap.size + 1 + 1, 1, none⟩ = false ∧ Below w.heap.size w wx ∧ w.heap.size + 3 ≤ wx.heap.size)
    case first =>
      have hds : ∀ x : World, x.drew.heap.size = x.heap.size := fun _ => rfl
      have f0' : w.heap.size < wB.heap.size + 1 := by omega
      have n0 : wB.heap.size ≠ w.heap.size := by omega
      have n1' : wB.heap.size ≠ w.heap.size + 1 := by omega
      have n2' : wB.heap.size ≠ w.heap.size + 1 + 1 := by omega
      go_region_held3 (fun w' => w'.cell? ⟨w.heap.size, 0, none⟩ = some (.int .i64 n1) ∧ w'.cell? ⟨w.heap.size + 1, 1, none⟩ = some (.int .i64 D2)) (first | go_keep)
        (first | (go_at_call 23; refine (m1.out _).mono ?_; rintro e w2 ⟨rfl, hb2⟩; obtain ⟨hc2, hf2⟩ := bcell hb2; have y2 : wB.heap.size ≤ w2.heap.size := Nat.le_trans (by (first | exact Nat.le_refl _ | (simp <;> omega))) hb2.size; have n3 : w2.heap.size ≠ w.heap.size := (by omega); have n4 : w2.heap.size ≠ w.heap.size + 1 := (by omega); have n5 : w2.heap.size ≠ w.heap.size + 1 + 1 := (by omega)))
      all_goals
        go_wp2_with fail
        go_meet
        have hb2 := hb2.mono (B' := w.heap.size) (by (try simp) <;> omega)
        refine ⟨rfl, _, ?_, rfl, ?_, ?_, ?_, ?_, ?_, ?_, ?_, ?_, ?_, ?_, ?_, ?_, ?_⟩
        rotate_left 12
        · repeat (first | exact Below.refl _ _ | assumption | (refine Below.alloc ?_ (by (try simp) <;> omega) _) | (refine Below.setCell ?_ (by (try simp) <;> omega) _) | (refine Below.drew ?_) | (refine below_drewN _ ?_) | (refine Below.trans ?_ hb2))
        · ((try simp) <;> omega)
        · omega
        all_goals
          have z0 : w.heap.size < w2.heap.size := by omega
          have z1 : w.heap.size + 1 < w2.heap.size := by omega
          have z2 : w.heap.size + 1 + 1 < w2.heap.size := by omega
          simp [go_sem, *]
    case rest =>
      obtain ⟨rfl, p, hp, rfl, q0, q1, q2, k0, k1, k2, k3, k4, k5, k6, k7, kb, kz⟩ := hcut
      generalize wc = wC at *
      have f0 : w.heap.size < wC.heap.size := by omega
      have f1 : w.heap.size + 1 < wC.heap.size := by omega
      have f2 : w.heap.size + 1 + 1 < wC.heap.size := by omega
      have plp : p < wC.heap.size := block_lt q0
      go_upto_region 6 with fail
      go_cut [8] (fun t8 wx => ∃ p' : Nat, w.heap.size + 3 ≤ p' ∧ t8 = .pointer (some ⟨p', 0, none⟩) ∧ wx.cell? ⟨p', 0, none⟩ = some (.bool (decide (R < 0))) ∧ wx.cell? ⟨p', 1, none⟩ = some (.int .u64 (mag R / 18446744073709551616)) ∧ wx.cell? ⟨p', 2, none⟩ = some (.int .u64 (mag R % 18446744073709551616)) ∧ wx.cell? ⟨p, 0, none⟩ = some (.bool (decide (L < 0))) ∧ wx.cell? ⟨p, 1, none⟩ = some (.int .u64 (mag L / 18446744073709551616)) ∧ wx.cell? ⟨p, 2, none⟩ = some (.int .u64 (mag L % 18446744073709551616)) ∧ wx.cell? ⟨w.heap.size, 0, none⟩ = some (.int .i64 n1) ∧ wx.cell? ⟨w.heap.size, 1, none⟩ = some (.int .i64 D1) ∧ wx.cell? ⟨w.heap.size + 1, 0, none⟩ = some (.int .i64 n2) ∧ wx.cell? ⟨w.heap.size + 1, 1, none⟩ = some (.int .i64 D2) ∧ wx.cell? ⟨w.heap.size + 1 + 1, 0, none⟩ = some (.int .i64 0) ∧ wx.cell? ⟨w.heap.size + 1 + 1, 1, none⟩ = some (.int .i64 0) ∧ wx.frozen? ⟨w.heap.size + 1 + 1, 0, none⟩ = false ∧ wx.frozen? ⟨w.heap.size + 1 + 1, 1, none⟩ = false ∧ Below w.heap.size w wx ∧ w.heap.size + 3 ≤ wx.heap.size)
      case first =>
        have hds : ∀ x : World, x.drew.heap.size = x.heap.size := fun _ => rfl
        have f0' : w.heap.size < wC.heap.size + 1 := by omega
        have plp' : p < wC.heap.size + 1 := by omega
        have n0 : wC.heap.size ≠ w.heap.size := by omega
        have n1' : wC.heap.size ≠ w.heap.size + 1 := by omega
        have n2' : wC.heap.size ≠ w.heap.size + 1 + 1 := by omega
        have npp : wC.heap.size ≠ p := by omega
        go_region_held3 (fun w' => w'.cell? ⟨w.heap.size + 1, 0, none⟩ = some (.int .i64 n2) ∧ w'.cell? ⟨w.heap.size, 1, none⟩ = some (.int .i64 D1)) (first | go_keep)
          (first | (go_at_call 23; refine (m2.out _).mono ?_; rintro e w2 ⟨rfl, hb2⟩; obtain ⟨hc2, hf2⟩ := bcell hb2; have y2 : wC.heap.size ≤ w2.heap.size := Nat.le_trans (by (first | exact Nat.le_refl _ | (simp <;> omega))) hb2.size; have n3 : w2.heap.size ≠ w.heap.size := (by omega); have n4 : w2.heap.size ≠ w.heap.size + 1 := (by omega); have n5 : w2.heap.size ≠ w.heap.size + 1 + 1 := (by omega); have nnp : w2.heap.size ≠ p := (by omega)))
        all_goals
          go_wp2_with fail
          go_meet
          have hb2 := hb2.mono (B' := w.heap.size) (by (try simp) <;> omega)
          refine ⟨_, ?_, rfl, ?_, ?_, ?_, ?_, ?_, ?_, ?_, ?_, ?_, ?_, ?_, ?_, ?_, ?_, ?_, ?_⟩
          rotate_left 15
          · repeat (first | exact Below.refl _ _ | assumption | (refine Below.alloc ?_ (by (try simp) <;> omega) _) | (refine Below.setCell ?_ (by (try simp) <;> omega) _) | (refine Below.drew ?_) | (refine below_drewN _ ?_) | (refine Below.trans ?_ hb2))
          · ((try simp) <;> omega)
          · omega
          all_goals
            have z0 : w.heap.size < w2.heap.size := by omega
            have z1 : w.heap.size + 1 < w2.heap.size := by omega
            have z2 : w.heap.size + 1 + 1 < w2.heap.size := by omega
            have zzp : p < w2.heap.size := by omega
            simp [go_sem, *]
      case rest =>
        obtain ⟨p', hp', rfl, r0, r1, r2, q0, q1, q2, k0, k1, k2, k3, k4, k5, k6, k7, kb, kz⟩ := hcut
        generalize wc = wD at *
        have f0 : w.heap.size < wD.heap.size := by omega
        have f1 : w.heap.size + 1 < wD.heap.size := by omega
        have f2 : w.heap.size + 1 + 1 < wD.heap.size := by omega
        go_wp2_with fail
        refine (P1.out _).mono ?_
        rintro e w2 ⟨rfl, hb2⟩
        obtain ⟨hc2, hf2⟩ := bcell hb2
        have y2 : wD.heap.size ≤ w2.heap.size := hb2.size
        go_wp2_with fail
        refine (MD.out _).mono ?_
        rintro e w3 ⟨rfl, hb3⟩
        obtain ⟨hc3, hf3⟩ := bcell hb3
        go_wp2_with fail
        refine (divisor_any _ _ mg0 (by omega) (by omega) (by omega) _).mono ?_
        rintro e w' ⟨rfl, nq, rfl⟩
        have y3 : w2.heap.size + 1 ≤ w3.heap.size := by have := hb3.size; simp at this; omega
        have s0 : w.heap.size < w2.heap.size := by omega
        have s1 : w.heap.size + 1 < w2.heap.size := by omega
        have s2 : w.heap.size + 1 + 1 < w2.heap.size := by omega
        have s3 : w.heap.size < w2.heap.size + 1 := by omega
        have K0 : (w3.drewN nq).cell? ⟨w2.heap.size, 0, none⟩ = some (.bool (decide (t < 0))) := by simp [go_sem, *]
        have K1 : (w3.drewN nq).cell? ⟨w2.heap.size, 1, none⟩ = some (.int .u64 (mag t / 18446744073709551616)) := by simp [go_sem, *]
        have K2 : (w3.drewN nq).cell? ⟨w2.heap.size, 2, none⟩ = some (.int .u64 (mag t % 18446744073709551616)) := by simp [go_sem, *]
        replace k0 : (w3.drewN nq).cell? ⟨w.heap.size, 0, none⟩ = some (.int .i64 n1) := by simp [go_sem, *]
        replace k1 : (w3.drewN nq).cell? ⟨w.heap.size, 1, none⟩ = some (.int .i64 D1) := by simp [go_sem, *]
        replace k2 : (w3.drewN nq).cell? ⟨w.heap.size + 1, 0, none⟩ = some (.int .i64 n2) := by simp [go_sem, *]
        replace k3 : (w3.drewN nq).cell? ⟨w.heap.size + 1, 1, none⟩ = some (.int .i64 D2) := by simp [go_sem, *]
        replace k4 : (w3.drewN nq).cell? ⟨w.heap.size + 1 + 1, 0, none⟩ = some (.int .i64 0) := by simp [go_sem, *]
        replace k5 : (w3.drewN nq).cell? ⟨w.heap.size + 1 + 1, 1, none⟩ = some (.int .i64 0) := by simp [go_sem, *]
        replace k6 : (w3.drewN nq).frozen? ⟨w.heap.size + 1 + 1, 0, none⟩ = false := by simp [go_sem, *]
        replace k7 : (w3.drewN nq).frozen? ⟨w.heap.size + 1 + 1, 1, none⟩ = false := by simp [go_sem, *]
        replace kb : Below w.heap.size w (w3.drewN nq) := by
          have hb2 := hb2.mono (B' := w.heap.size) (by omega)
          have hb3 := hb3.mono (B' := w.heap.size) (by (try simp) <;> omega)
          repeat (first | exact Below.refl _ _ | assumption | (refine Below.alloc ?_ (by (try simp) <;> omega) _) | (refine Below.setCell ?_ (by (try simp) <;> omega) _) | (refine Below.drew ?_) | (refine below_drewN _ ?_) | (refine Below.trans ?_ hb3) | (refine Below.trans ?_ hb2))
        replace kz : w.heap.size + 3 ≤ (w3.drewN nq).heap.size := by have : (w3.drewN nq).heap.size = w3.heap.size := rfl; omega
        have plpp : w2.heap.size < (w3.drewN nq).heap.size := block_lt K0
        have hpp : w.heap.size + 3 ≤ w2.heap.size := by omega
        clear hb2 hb3 hc2 hf2 hc3 hf3 r0 r1 r2 q0 q1 q2 y2 y3 s0 s1 s2 s3 f0 f1 f2
        go_upto_region 9 with fail
        generalize w3.drewN nq = wE at *
        generalize w2.heap.size = pp at *
        have f0 : w.heap.size < wE.heap.size := by omega
        have f1 : w.heap.size + 1 < wE.heap.size := by omega
        have f2 : w.heap.size + 1 + 1 < wE.heap.size := by omega
        go_cut [10, 11] (fun t10 t11 wx => t10 = .int .u64 c ∧ ∃ p3 : Nat, w.heap.size + 3 ≤ p3 ∧ t11 = .pointer (some ⟨p3, 0, none⟩) ∧ wx.cell? ⟨p3, 0, none⟩ = some (.int .u64 ((E1 * F2) / 18446744073709551616)) ∧ wx.cell? ⟨p3, 1, none⟩ = some (.int .u64 ((E1 * F2) % 18446744073709551616)) ∧ wx.cell? ⟨pp, 0, none⟩ = some (.bool (decide (t < 0))) ∧ wx.cell? ⟨pp, 1, none⟩ = some (.int .u64 (mag t / 18446744073709551616)) ∧ wx.cell? ⟨pp, 2, none⟩ = some (.int .u64 (mag t % 18446744073709551616)) ∧ wx.cell? ⟨w.heap.size, 0, none⟩ = some (.int .i64 n1) ∧ wx.cell? ⟨w.heap.size, 1, none⟩ = some (.int .i64 D1) ∧ wx.cell? ⟨w.heap.size + 1, 0, none⟩ = some (.int .i64 n2) ∧ wx.cell? ⟨w.heap.size + 1, 1, none⟩ = some (.int .i64 D2) ∧ wx.cell? ⟨w.heap.size + 1 + 1, 0, none⟩ = some (.int .i64 0) ∧ wx.cell? ⟨w.heap.size + 1 + 1, 1, none⟩ = some (.int .i64 0) ∧ wx.frozen? ⟨w.heap.size + 1 + 1, 0, none⟩ = false ∧ wx.frozen? ⟨w.heap.size + 1 + 1, 1, none⟩ = false ∧ Below w.heap.size w wx ∧ w.heap.size + 3 ≤ wx.heap.size)
        case first =>
          have hds : ∀ x : World, x.drew.heap.size = x.heap.size := fun _ => rfl
          have f0' : w.heap.size < wE.heap.size + 1 := by omega
          have plpp' : pp < wE.heap.size + 1 := by omega
          have n0 : wE.heap.size ≠ w.heap.size := by omega
          have n1' : wE.heap.size ≠ w.heap.size + 1 := by omega
          have n2' : wE.heap.size ≠ w.heap.size + 1 + 1 := by omega
          have nppp : wE.heap.size ≠ pp := by omega
          go_region_held3 (fun w' => w'.cell? ⟨w.heap.size, 1, none⟩ = some (.int .i64 D1) ∧ w'.cell? ⟨w.heap.size + 1, 1, none⟩ = some (.int .i64 D2)) (first | go_keep)
            (first | (go_at_call 18; refine (mag_any _ (by omega) (by omega) _).mono ?_; rintro e w' ⟨rfl, rfl⟩) | (go_at_call 28; refine (product_any _ _ (by omega) (by omega) (by omega) (by omega) _).mono ?_; rintro e w2 ⟨rfl, hb2⟩; obtain ⟨hc2, hf2⟩ := bcell hb2; have y2 : wE.heap.size ≤ w2.heap.size := Nat.le_trans (by (first | exact Nat.le_refl _ | (simp <;> omega))) hb2.size; have n3 : w2.heap.size ≠ w.heap.size := (by omega); have n4 : w2.heap.size ≠ w.heap.size + 1 := (by omega); have n5 : w2.heap.size ≠ w.heap.size + 1 + 1 := (by omega); have nnpp : w2.heap.size ≠ pp := (by omega)))
          all_goals
            go_wp2_with fail
            go_meet
            have hb2 := hb2.mono (B' := w.heap.size) (by (try simp) <;> omega)
            refine ⟨rfl, _, ?_, rfl, ?_, ?_, ?_, ?_, ?_, ?_, ?_, ?_, ?_, ?_, ?_, ?_, ?_, ?_, ?_⟩
            rotate_left 14
            · repeat (first | exact Below.refl _ _ | assumption | (refine Below.alloc ?_ (by (try simp) <;> omega) _) | (refine Below.setCell ?_ (by (try simp) <;> omega) _) | (refine Below.drew ?_) | (refine below_drewN _ ?_) | (refine Below.trans ?_ hb2))
            · ((try simp) <;> omega)
            · omega
            all_goals
              have z0 : w.heap.size < w2.heap.size := by omega
              have z1 : w.heap.size + 1 < w2.heap.size := by omega
              have z2 : w.heap.size + 1 + 1 < w2.heap.size := by omega
              have zzpp : pp < w2.heap.size := by omega
              simp [go_sem, *]
        case rest =>
          obtain ⟨rfl, p3, hp3, rfl, r0, r1, K0, K1, K2, k0, k1, k2, k3, k4, k5, k6, k7, kb, kz⟩ := hcut
          generalize wc = wF at *
          have f0 : w.heap.size < wF.heap.size := by omega
          have f1 : w.heap.size + 1 < wF.heap.size := by omega
          have f2 : w.heap.size + 1 + 1 < wF.heap.size := by omega
          have plp3 : p3 < wF.heap.size := block_lt r0
          have plpp : pp < wF.heap.size := block_lt K0
          have hds : ∀ x : World, x.drew.heap.size = x.heap.size := fun _ => rfl
          have npp : w.heap.size + 1 + 1 ≠ pp := by omega
          have np3 : w.heap.size + 1 + 1 ≠ p3 := by omega
          go_wp2_with fail
          go_region_held3 (fun w' => w'.cell? ⟨pp, 0, none⟩ = some (.bool (decide (t < 0))) ∧ w'.cell? ⟨pp, 1, none⟩ = some (.int .u64 (mag t / 18446744073709551616)) ∧ w'.cell? ⟨pp, 2, none⟩ = some (.int .u64 (mag t % 18446744073709551616)) ∧ w'.cell? ⟨p3, 0, none⟩ = some (.int .u64 ((E1 * F2) / 18446744073709551616)) ∧ w'.cell? ⟨p3, 1, none⟩ = some (.int .u64 ((E1 * F2) % 18446744073709551616))) (first | go_keep)
            (first | (go_at_call 30; refine (OV.out _).mono ?_; rintro e w2 ⟨rfl, hb2⟩; obtain ⟨hc2, hf2⟩ := bcell hb2; have y2 : wF.heap.size ≤ w2.heap.size := hb2.size; have z0 : w.heap.size < w2.heap.size := (by omega); have z1 : w.heap.size + 1 < w2.heap.size := (by omega); have z2 : w.heap.size + 1 + 1 < w2.heap.size := (by omega); have z3 : pp < w2.heap.size := (by omega); have z4 : p3 < w2.heap.size := (by omega)) | (go_at_call 29; refine (BD.out _).mono ?_; rintro e w3 ⟨rfl, hb3⟩; obtain ⟨hc3, hf3⟩ := bcell hb3))
          go_wp2_with fail
          refine bodyPost_ret (v := .tuple #[.agg #[.int .i64 (boundS (decide (t < 0)) (mag t / c) (E1 * F2)).1, .int .i64 (boundS (decide (t < 0)) (mag t / c) (E1 * F2)).2.1], .int .i64 (boundS (decide (t < 0)) (mag t / c) (E1 * F2)).2.2]) (by simp [results, Tryd.results12, go_sem, *]) rfl ⟨rfl, ?_⟩
          clear hc2 hf2 hc3 hf3
          replace hb2 := hb2.mono (B' := w.heap.size) (Nat.le_trans (show w.heap.size ≤ wF.heap.size by omega) (Nat.le_refl _))
          replace hb3 := hb3.mono (B' := w.heap.size) (by (try simp) <;> omega)
          repeat (first | exact Below.refl _ _ | assumption | (refine Below.alloc ?_ (by (try simp) <;> omega) _) | (refine Below.setCell ?_ (by (try simp) <;> omega) _) | (refine Below.drew ?_) | (refine below_drewN _ ?_) | (refine Below.trans ?_ hb3) | (refine Below.trans ?_ hb2))
end Go.Proofs.YtlglagihekadhaaDoor
