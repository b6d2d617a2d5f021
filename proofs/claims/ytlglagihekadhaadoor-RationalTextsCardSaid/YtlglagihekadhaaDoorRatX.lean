/- The contract of Mul. -/
import Derived.Test.YtlglagihekadhaaDoorRatO
namespace Go.Proofs.YtlglagihekadhaaDoor
open Go.RowKit Go.Shelf

theorem mag_self {d : Int} (h : 1 ≤ d) : mag d = d := by unfold mag; rw [if_neg (by omega)]
theorem block_lt {w : World} {b o : Nat} {v : Value} (h : w.cell? ⟨b, o, none⟩ = some v) : b < w.heap.size := World.block_lt_of_cell? w ⟨b, o, none⟩ h

/-- A call whose two arguments and result lie in three new blocks, after calls that changed nothing. -/
theorem init3 {w w1 : World} {a b c d e f : Value} {T1 T2 T3 : Nat} (hb : Below (((w.alloc (.cells #[a, b] T1)).alloc (.cells #[c, d] T2)).alloc (.cells #[e, f] T3)).heap.size (((w.alloc (.cells #[a, b] T1)).alloc (.cells #[c, d] T2)).alloc (.cells #[e, f] T3)) w1) :
    w1.cell? ⟨w.heap.size, 0, none⟩ = some a ∧ w1.cell? ⟨w.heap.size, 1, none⟩ = some b ∧ w1.cell? ⟨w.heap.size + 1, 0, none⟩ = some c ∧ w1.cell? ⟨w.heap.size + 1, 1, none⟩ = some d ∧ w1.cell? ⟨w.heap.size + 1 + 1, 0, none⟩ = some e ∧ w1.cell? ⟨w.heap.size + 1 + 1, 1, none⟩ = some f ∧
    w1.frozen? ⟨w.heap.size, 0, none⟩ = false ∧ w1.frozen? ⟨w.heap.size, 1, none⟩ = false ∧ w1.frozen? ⟨w.heap.size + 1, 0, none⟩ = false ∧ w1.frozen? ⟨w.heap.size + 1, 1, none⟩ = false ∧ w1.frozen? ⟨w.heap.size + 1 + 1, 0, none⟩ = false ∧ w1.frozen? ⟨w.heap.size + 1 + 1, 1, none⟩ = false ∧
    Below w.heap.size w w1 ∧ w.heap.size + 3 ≤ w1.heap.size := by
  obtain ⟨hc, hf⟩ := bcell hb
  have l03 : w.heap.size < w.heap.size + 1 + 1 + 1 := by omega
  have l13 : w.heap.size + 1 < w.heap.size + 1 + 1 + 1 := by omega
  refine ⟨?_, ?_, ?_, ?_, ?_, ?_, ?_, ?_, ?_, ?_, ?_, ?_, ?_, ?_⟩
  rotate_left 12
  · exact (((((Below.refl _ _).alloc (by simp) _).alloc (by simp) _).alloc (by simp; omega) _)).trans (hb.mono (by simp; omega))
  · have := hb.size; simp at this; omega
  all_goals simp [go_sem, hc, hf, l03]

set_option maxRecDepth 100000 in
set_option maxHeartbeats 4000000 in
theorem mul_valid (n1 d1 n2 d2 : Int) (hv1 : validB n1 d1 = true) (hv2 : validB n2 d2 = true) (w : World) :
    Calls Tryd.prog 31 #[.agg #[.int .i64 n1, .int .i64 d1], .agg #[.int .i64 n2, .int .i64 d2]] w fun e w' =>
      e = .returned (.tuple #[.agg #[.int .i64 (outR (toR n1 d1 * toR n2 d2)).1, .int .i64 (outR (toR n1 d1 * toR n2 d2)).2.1], .int .i64 (outR (toR n1 d1 * toR n2 d2)).2.2]) ∧ Below w.heap.size w w' := by
  have o1 := okR_of hv1
  have o2 := okR_of hv2
  obtain ⟨i1, i2, i3, i4, i5⟩ := okR_num o1
  obtain ⟨j1, j2, j3, j4, j5⟩ := okR_num o2
  obtain ⟨u1, u2⟩ := full_pos o1
  obtain ⟨v1, v2⟩ := full_pos o2
  obtain ⟨g, hg⟩ : ∃ g, g = gd (mag n1) (full d2) := ⟨_, rfl⟩
  obtain ⟨h, hh⟩ : ∃ h, h = gd (mag n2) (full d1) := ⟨_, rfl⟩
  obtain ⟨g0, g1, h0, h1, hS⟩ := mul_spec o1 o2 hg hh
  rw [← hS]
  have s1 := settle_any n1 d1 i5
  have s2 := settle_any n2 d2 j5
  generalize full d1 = D1 at *
  generalize full d2 = D2 at *
  have em1 := mag_self u1
  have em2 := mag_self v1
  have hgs : gd (mag n1) D2 = g := hg.symm
  have hhs : gd (mag n2) D1 = h := hh.symm
  have a1 := mag_nonneg n1
  have a2 : mag n1 ≤ 1152921504606846976 := mag_le (by omega) (by omega)
  have b1 := mag_nonneg n2
  have b2 : mag n2 ≤ 1152921504606846976 := mag_le (by omega) (by omega)
  have hT0 := IntWalk.u64_quo (mag n1) g ⟨a1, by omega, g0⟩
  have hT1 := IntWalk.u64_quo (mag n2) h ⟨b1, by omega, h0⟩
  have hB0 := IntWalk.u64_quo D1 h ⟨by omega, by omega, h0⟩
  have hB1 := IntWalk.u64_quo D2 g ⟨by omega, by omega, g0⟩
  have p1 : 0 ≤ mag n1 / g := Int.ediv_nonneg a1 (by omega)
  have p2 : mag n1 / g ≤ mag n1 := Int.ediv_le_self _ a1
  have p3 : 0 ≤ mag n2 / h := Int.ediv_nonneg b1 (by omega)
  have p4 : mag n2 / h ≤ mag n2 := Int.ediv_le_self _ b1
  have p5 : 0 ≤ D1 / h := Int.ediv_nonneg (by omega) (by omega)
  have p6 : D1 / h ≤ D1 := Int.ediv_le_self _ (by omega)
  have p7 : 0 ≤ D2 / g := Int.ediv_nonneg (by omega) (by omega)
  have p8 : D2 / g ≤ D2 := Int.ediv_le_self _ (by omega)
  have hgn : g ≠ 0 := by omega
  have hhn : h ≠ 0 := by omega
  have HS := Lib.hid hS
  have V1 := valid_any n1 d1 (by omega) (by omega) (by omega) (by omega)
  have V2 := valid_any n2 d2 (by omega) (by omega) (by omega) (by omega)
  rw [hv1] at V1
  rw [hv2] at V2
  have HV1 := Lib.hid V1
  have HV2 := Lib.hid V2
  have S1 := Lib.hid s1
  have S2 := Lib.hid s2
  clear hS hg hh s1 s2 i5 j5 o1 o2 V1 V2 hv1 hv2
  generalize mag n1 / g = A at *
  generalize mag n2 / h = A' at *
  generalize D1 / h = C at *
  generalize D2 / g = C' at *
  have pA := Int.mul_nonneg p1 p3
  have pC := Int.mul_nonneg p5 p7
  have BD := Lib.hid (bounded_any (decide (n1 < 0) != decide (n2 < 0)) (A * A') (C * C') pA pC)
  go_enter Tryd.func31, Tryd.ntmps31
  go_wp2_with fail
  refine (HV1.out _).mono ?_
  rintro e w0 ⟨rfl, hb0⟩
  obtain ⟨hc0, hf0⟩ := bcell hb0
  have l03 : w.heap.size < w.heap.size + 1 + 1 + 1 := by omega
  go_wp2_with fail
  refine (HV2.out _).mono ?_
  rintro e w1 ⟨rfl, hb1⟩
  obtain ⟨c0, c1, c2, c3, c4, c5, e0, e1, e2, e3, e4, e5, hbw, hzw⟩ := init3 (hb0.trans (hb1.mono hb0.size))
  clear hc0 hf0 l03 hb0 hb1
  go_upto_region 3 with fail
  go_cut [2] (fun t2 wx => t2 = .pointer (some ⟨w.heap.size, 0, none⟩) ∧ wx.cell? ⟨w.heap.size, 0, none⟩ = some (.int .i64 n1) ∧ wx.cell? ⟨w.heap.size, 1, none⟩ = some (.int .i64 D1) ∧ wx.cell? ⟨w.heap.size + 1, 0, none⟩ = some (.int .i64 n2) ∧ wx.cell? ⟨w.heap.size + 1, 1, none⟩ = some (.int .i64 D2) ∧ wx.cell? ⟨w.heap.size + 1 + 1, 0, none⟩ = some (.int .i64 0) ∧ wx.cell? ⟨w.heap.size + 1 + 1, 1, none⟩ = some (.int .i64 0) ∧ wx.frozen? ⟨w.heap.size + 1 + 1, 0, none⟩ = false ∧ wx.frozen? ⟨w.heap.size + 1 + 1, 1, none⟩ = false ∧ Below w.heap.size w wx ∧ w.heap.size + 3 ≤ wx.heap.size)
  case first =>
    have f0 : w.heap.size < w1.heap.size := by omega
    have f1 : w.heap.size + 1 < w1.heap.size := by omega
    have f2 : w.heap.size + 1 + 1 < w1.heap.size := by omega
    have n01 : w.heap.size ≠ w.heap.size + 1 := by omega
    have n02 : w.heap.size ≠ w.heap.size + 1 + 1 := by omega
    have n12 : w.heap.size + 1 ≠ w.heap.size + 1 + 1 := by omega
    go_region_with (first | (go_at_call_of 15 (Value.agg #[Value.int IntKind.i64 n1, Value.int IntKind.i64 d1]); refine (S1.out _).mono ?_; rintro e w2 ⟨rfl, hb2⟩; obtain ⟨hc2, hf2⟩ := bcellN w1.heap.size hb2 (Nat.le_refl _)) | (go_at_call_of 15 (Value.agg #[Value.int IntKind.i64 n2, Value.int IntKind.i64 d2]); refine (S2.out _).mono ?_; rintro e w3 ⟨rfl, hb3⟩; obtain ⟨hc3, hf3⟩ := bcellN w1.heap.size hb3 (by (first | exact Nat.le_refl _ | exact hb2.size))))
    all_goals
      go_wp2_with fail
      go_meet
      have y2 : w1.heap.size ≤ w2.heap.size := hb2.size
      have y3 : w2.heap.size ≤ w3.heap.size := hb3.size
      have hb2 := hb2.mono (B' := w.heap.size) (by (try simp) <;> omega)
      have hb3 := hb3.mono (B' := w.heap.size) (by (try simp) <;> omega)
      refine ⟨rfl, ?_, ?_, ?_, ?_, ?_, ?_, ?_, ?_, ?_, ?_⟩
      rotate_left 8
      · repeat (first | exact Below.refl _ _ | assumption | (refine Below.alloc ?_ (by (try simp) <;> omega) _) | (refine Below.setCell ?_ (by (try simp) <;> omega) _) | (refine Below.drew ?_) | (refine below_drewN _ ?_) | (refine Below.trans ?_ hb3) | (refine Below.trans ?_ hb2))
      · ((try simp) <;> omega)
      all_goals simp [go_sem, *]
  case rest =>
    obtain ⟨rfl, k0, k1, k2, k3, k4, k5, k6, k7, kb, kz⟩ := hcut
    clear c0 c1 c2 c3 c4 c5 e0 e1 e2 e3 e4 e5 hbw hzw S1 S2 HV1 HV2
    generalize wc = wA at *
    have f0 : w.heap.size < wA.heap.size := by omega
    have f1 : w.heap.size + 1 < wA.heap.size := by omega
    have f2 : w.heap.size + 1 + 1 < wA.heap.size := by omega
    go_wp2_with fail
    go_quiet ((first | (go_at_call 18; exact mag_q _ (by omega) (by omega) _ _) | (go_at_call 17; exact divisor_q _ _ (by omega) (by omega) (by omega) (by omega) _ _)))
    rename_i nq
    change (wA.drewN nq).cell? _ = _ at k0 k1 k2 k3 k4 k5
    change (wA.drewN nq).frozen? _ = _ at k6 k7
    change _ < (wA.drewN nq).heap.size at f0 f1 f2
    change _ ≤ (wA.drewN nq).heap.size at kz
    replace kb := below_drewN nq kb
    generalize wA.drewN nq = wB at *
    go_wp2_with fail
    go_quiet ((first | (go_at_call 18; exact mag_q _ (by omega) (by omega) _ _) | (go_at_call 17; exact divisor_q _ _ (by omega) (by omega) (by omega) (by omega) _ _)))
    rename_i nq
    change (wB.drewN nq).cell? _ = _ at k0 k1 k2 k3 k4 k5
    change (wB.drewN nq).frozen? _ = _ at k6 k7
    change _ < (wB.drewN nq).heap.size at f0 f1 f2
    change _ ≤ (wB.drewN nq).heap.size at kz
    replace kb := below_drewN nq kb
    generalize wB.drewN nq = wA at *
    clear wB
    go_upto_region 6 with fail
    go_cut [6, 7, 8] (fun t6 t7 t8 wx => t6 = .int .u64 g ∧ t7 = .int .u64 h ∧ ∃ p : Nat, w.heap.size + 3 ≤ p ∧ t8 = .pointer (some ⟨p, 0, none⟩) ∧ wx.cell? ⟨p, 0, none⟩ = some (.int .u64 (A * A' / 18446744073709551616)) ∧ wx.cell? ⟨p, 1, none⟩ = some (.int .u64 (A * A' % 18446744073709551616)) ∧ wx.cell? ⟨w.heap.size, 0, none⟩ = some (.int .i64 n1) ∧ wx.cell? ⟨w.heap.size, 1, none⟩ = some (.int .i64 D1) ∧ wx.cell? ⟨w.heap.size + 1, 0, none⟩ = some (.int .i64 n2) ∧ wx.cell? ⟨w.heap.size + 1, 1, none⟩ = some (.int .i64 D2) ∧ wx.cell? ⟨w.heap.size + 1 + 1, 0, none⟩ = some (.int .i64 0) ∧ wx.cell? ⟨w.heap.size + 1 + 1, 1, none⟩ = some (.int .i64 0) ∧ wx.frozen? ⟨w.heap.size + 1 + 1, 0, none⟩ = false ∧ wx.frozen? ⟨w.heap.size + 1 + 1, 1, none⟩ = false ∧ Below w.heap.size w wx ∧ w.heap.size + 3 ≤ wx.heap.size)
    case first =>
      have hds : ∀ x : World, x.drew.heap.size = x.heap.size := fun _ => rfl
      have f0' : w.heap.size < wA.heap.size + 1 := by omega
      have n0 : wA.heap.size ≠ w.heap.size := by omega
      have n1' : wA.heap.size ≠ w.heap.size + 1 := by omega
      have n2' : wA.heap.size ≠ w.heap.size + 1 + 1 := by omega
      go_region_held3 (fun w' => w'.cell? ⟨w.heap.size, 0, none⟩ = some (.int .i64 n1) ∧ w'.cell? ⟨w.heap.size + 1, 0, none⟩ = some (.int .i64 n2)) (first | go_keep)
        (first | (go_at_call 18; refine (mag_any _ (by omega) (by omega) _).mono ?_; rintro e w' ⟨rfl, rfl⟩) | (go_at_call 28; refine (product_any _ _ (by omega) (by omega) (by omega) (by omega) _).mono ?_; rintro e w2 ⟨rfl, hb2⟩; obtain ⟨hc2, hf2⟩ := bcell hb2; have y2 : wA.heap.size ≤ w2.heap.size := Nat.le_trans (by (first | exact Nat.le_refl _ | (simp <;> omega))) hb2.size; have n3 : w2.heap.size ≠ w.heap.size := (by omega); have n4 : w2.heap.size ≠ w.heap.size + 1 := (by omega); have n5 : w2.heap.size ≠ w.heap.size + 1 + 1 := (by omega)))
      all_goals
        go_wp2_with fail
        go_meet
        have hb2 := hb2.mono (B' := w.heap.size) (by (try simp) <;> omega)
        refine ⟨rfl, rfl, _, ?_, rfl, ?_, ?_, ?_, ?_, ?_, ?_, ?_, ?_, ?_, ?_, ?_, ?_⟩
        rotate_left 11
        · repeat (first | exact Below.refl _ _ | assumption | (refine Below.alloc ?_ (by (try simp) <;> omega) _) | (refine Below.setCell ?_ (by (try simp) <;> omega) _) | (refine Below.drew ?_) | (refine below_drewN _ ?_) | (refine Below.trans ?_ hb2))
        · ((try simp) <;> omega)
        · omega
        all_goals
          have z0 : w.heap.size < w2.heap.size := by omega
          have z1 : w.heap.size + 1 < w2.heap.size := by omega
          have z2 : w.heap.size + 1 + 1 < w2.heap.size := by omega
          simp [go_sem, *]
    case rest =>
      obtain ⟨rfl, rfl, p, hp, rfl, q0, q1, k0, k1, k2, k3, k4, k5, k6, k7, kb, kz⟩ := hcut
      generalize wc = wB at *
      have f0 : w.heap.size < wB.heap.size := by omega
      have f1 : w.heap.size + 1 < wB.heap.size := by omega
      have f2 : w.heap.size + 1 + 1 < wB.heap.size := by omega
      have pl : p < wB.heap.size := block_lt q0
      go_upto_region 7 with fail
      go_cut [9] (fun t9 wx => ∃ p' : Nat, w.heap.size + 3 ≤ p' ∧ t9 = .pointer (some ⟨p', 0, none⟩) ∧ wx.cell? ⟨p', 0, none⟩ = some (.int .u64 (C * C' / 18446744073709551616)) ∧ wx.cell? ⟨p', 1, none⟩ = some (.int .u64 (C * C' % 18446744073709551616)) ∧ wx.cell? ⟨p, 0, none⟩ = some (.int .u64 (A * A' / 18446744073709551616)) ∧ wx.cell? ⟨p, 1, none⟩ = some (.int .u64 (A * A' % 18446744073709551616)) ∧ wx.cell? ⟨w.heap.size, 0, none⟩ = some (.int .i64 n1) ∧ wx.cell? ⟨w.heap.size, 1, none⟩ = some (.int .i64 D1) ∧ wx.cell? ⟨w.heap.size + 1, 0, none⟩ = some (.int .i64 n2) ∧ wx.cell? ⟨w.heap.size + 1, 1, none⟩ = some (.int .i64 D2) ∧ wx.cell? ⟨w.heap.size + 1 + 1, 0, none⟩ = some (.int .i64 0) ∧ wx.cell? ⟨w.heap.size + 1 + 1, 1, none⟩ = some (.int .i64 0) ∧ wx.frozen? ⟨w.heap.size + 1 + 1, 0, none⟩ = false ∧ wx.frozen? ⟨w.heap.size + 1 + 1, 1, none⟩ = false ∧ Below w.heap.size w wx ∧ w.heap.size + 3 ≤ wx.heap.size)
      case first =>
        have hds : ∀ x : World, x.drew.heap.size = x.heap.size := fun _ => rfl
        have f0' : w.heap.size < wB.heap.size + 1 := by omega
        have pl' : p < wB.heap.size + 1 := by omega
        have n0 : wB.heap.size ≠ w.heap.size := by omega
        have n1' : wB.heap.size ≠ w.heap.size + 1 := by omega
        have n2' : wB.heap.size ≠ w.heap.size + 1 + 1 := by omega
        have np : wB.heap.size ≠ p := by omega
        go_region_held3 (fun w' => w'.cell? ⟨w.heap.size, 1, none⟩ = some (.int .i64 D1) ∧ w'.cell? ⟨w.heap.size + 1, 1, none⟩ = some (.int .i64 D2)) (first | go_keep)
          (first | (go_at_call 18; refine (mag_any _ (by omega) (by omega) _).mono ?_; rintro e w' ⟨rfl, rfl⟩) | (go_at_call 28; refine (product_any _ _ (by omega) (by omega) (by omega) (by omega) _).mono ?_; rintro e w2 ⟨rfl, hb2⟩; obtain ⟨hc2, hf2⟩ := bcell hb2; have y2 : wB.heap.size ≤ w2.heap.size := Nat.le_trans (by (first | exact Nat.le_refl _ | (simp <;> omega))) hb2.size; have n3 : w2.heap.size ≠ w.heap.size := (by omega); have n4 : w2.heap.size ≠ w.heap.size + 1 := (by omega); have n5 : w2.heap.size ≠ w.heap.size + 1 + 1 := (by omega); have n6 : w2.heap.size ≠ p := (by omega)))
        all_goals
          go_wp2_with fail
          go_meet
          have hb2 := hb2.mono (B' := w.heap.size) (by (try simp) <;> omega)
          refine ⟨_, ?_, rfl, ?_, ?_, ?_, ?_, ?_, ?_, ?_, ?_, ?_, ?_, ?_, ?_, ?_, ?_⟩
          rotate_left 13
          · repeat (first | exact Below.refl _ _ | assumption | (refine Below.alloc ?_ (by (try simp) <;> omega) _) | (refine Below.setCell ?_ (by (try simp) <;> omega) _) | (refine Below.drew ?_) | (refine below_drewN _ ?_) | (refine Below.trans ?_ hb2))
          · ((try simp) <;> omega)
          · omega
          all_goals
            have z0 : w.heap.size < w2.heap.size := by omega
            have z1 : w.heap.size + 1 < w2.heap.size := by omega
            have z2 : w.heap.size + 1 + 1 < w2.heap.size := by omega
            have zp : p < w2.heap.size := by omega
            simp [go_sem, *]
      case rest =>
        obtain ⟨p', hp', rfl, r0, r1, q0', q1', k0, k1, k2, k3, k4, k5, k6, k7, kb, kz⟩ := hcut
        go_wp2_with fail
        refine (BD.out _).mono ?_
        rintro e w2 ⟨rfl, hb2⟩
        obtain ⟨hc2, hf2⟩ := bcell hb2
        have f2 : w.heap.size + 1 + 1 < wc.heap.size := by omega
        go_wp2_with fail
        refine bodyPost_ret (v := .tuple #[.agg #[.int .i64 (boundS (decide (n1 < 0) != decide (n2 < 0)) (A * A') (C * C')).1, .int .i64 (boundS (decide (n1 < 0) != decide (n2 < 0)) (A * A') (C * C')).2.1], .int .i64 (boundS (decide (n1 < 0) != decide (n2 < 0)) (A * A') (C * C')).2.2]) (by simp [results, Tryd.results31, go_sem, *]) rfl ⟨rfl, ?_⟩
        clear hc2 hf2
        have hb2 := hb2.mono (B' := w.heap.size) (by omega)
        repeat (first | exact Below.refl _ _ | assumption | (refine Below.alloc ?_ (by (try simp) <;> omega) _) | (refine Below.setCell ?_ (by (try simp) <;> omega) _) | (refine Below.drew ?_) | (refine below_drewN _ ?_) | (refine Below.trans ?_ hb2))
end Go.Proofs.YtlglagihekadhaaDoor
