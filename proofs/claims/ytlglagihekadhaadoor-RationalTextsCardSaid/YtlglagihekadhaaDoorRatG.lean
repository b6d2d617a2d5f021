/- The contracts of Cmp and Floor. -/
import Derived.Test.YtlglagihekadhaaDoorRatF
namespace Go.Proofs.YtlglagihekadhaaDoor
open Go.RowKit Go.Shelf

/-- A call whose two arguments lie in two new blocks, after calls that changed nothing. -/
theorem init2 {w w1 : World} {a b c d : Value} {T1 T2 : Nat} (hb : Below ((w.alloc (.cells #[a, b] T1)).alloc (.cells #[c, d] T2)).heap.size ((w.alloc (.cells #[a, b] T1)).alloc (.cells #[c, d] T2)) w1) :
    w1.cell? ⟨w.heap.size, 0, none⟩ = some a ∧ w1.cell? ⟨w.heap.size, 1, none⟩ = some b ∧ w1.cell? ⟨w.heap.size + 1, 0, none⟩ = some c ∧ w1.cell? ⟨w.heap.size + 1, 1, none⟩ = some d ∧
    w1.frozen? ⟨w.heap.size, 0, none⟩ = false ∧ w1.frozen? ⟨w.heap.size, 1, none⟩ = false ∧ w1.frozen? ⟨w.heap.size + 1, 0, none⟩ = false ∧ w1.frozen? ⟨w.heap.size + 1, 1, none⟩ = false ∧
    Below w.heap.size w w1 ∧ w.heap.size + 2 ≤ w1.heap.size := by
  obtain ⟨hc, hf⟩ := bcell hb
  have l03 : w.heap.size < w.heap.size + 1 + 1 := by omega
  refine ⟨?_, ?_, ?_, ?_, ?_, ?_, ?_, ?_, ?_, ?_⟩
  rotate_left 8
  · exact (((Below.refl _ _).alloc (by simp) _).alloc (by simp) _).trans (hb.mono (by simp; omega))
  · have := hb.size; simp at this; omega
  all_goals simp [go_sem, hc, hf, l03]
theorem init1 {w w1 : World} {a b : Value} {T1 : Nat} (hb : Below (w.alloc (.cells #[a, b] T1)).heap.size (w.alloc (.cells #[a, b] T1)) w1) :
    w1.cell? ⟨w.heap.size, 0, none⟩ = some a ∧ w1.cell? ⟨w.heap.size, 1, none⟩ = some b ∧
    w1.frozen? ⟨w.heap.size, 0, none⟩ = false ∧ w1.frozen? ⟨w.heap.size, 1, none⟩ = false ∧
    Below w.heap.size w w1 ∧ w.heap.size + 1 ≤ w1.heap.size := by
  obtain ⟨hc, hf⟩ := bcell hb
  refine ⟨?_, ?_, ?_, ?_, ?_, ?_⟩
  rotate_left 4
  · exact ((Below.refl _ _).alloc (by simp) _).trans (hb.mono (by simp))
  · have := hb.size; simp at this; omega
  all_goals simp [go_sem, hc, hf]

theorem cmp_bad1 (n1 d1 n2 d2 : Int) (a0 : -9223372036854775808 ≤ n1) (a1 : n1 ≤ 9223372036854775807) (a2 : -9223372036854775808 ≤ d1) (a3 : d1 ≤ 9223372036854775807) (hv1 : validB n1 d1 = false) (w : World) :
    Calls Tryd.prog 10 #[.agg #[.int .i64 n1, .int .i64 d1], .agg #[.int .i64 n2, .int .i64 d2]] w fun e w' => e = .returned (.int .i64 0) ∧ Below w.heap.size w w' := by
  have V1 := valid_any n1 d1 a0 a1 a2 a3
  rw [hv1] at V1
  have HV1 := Lib.hid V1
  clear V1 hv1
  go_enter Tryd.func10, Tryd.ntmps10
  go_wp2_with fail
  refine (HV1.out _).mono ?_
  rintro e w0 ⟨rfl, hb0⟩
  obtain ⟨c0, c1, c2, c3, e0, e1, e2, e3, hbw, hzw⟩ := init2 hb0
  go_wp2_with fail
  go_ret
  exact ⟨rfl, hbw⟩
theorem cmp_bad2 (n1 d1 n2 d2 : Int) (a0 : -9223372036854775808 ≤ n1) (a1 : n1 ≤ 9223372036854775807) (a2 : -9223372036854775808 ≤ d1) (a3 : d1 ≤ 9223372036854775807) (b0 : -9223372036854775808 ≤ n2) (b1 : n2 ≤ 9223372036854775807) (b2 : -9223372036854775808 ≤ d2) (b3 : d2 ≤ 9223372036854775807) (hv1 : validB n1 d1 = true) (hv2 : validB n2 d2 = false) (w : World) :
    Calls Tryd.prog 10 #[.agg #[.int .i64 n1, .int .i64 d1], .agg #[.int .i64 n2, .int .i64 d2]] w fun e w' => e = .returned (.int .i64 0) ∧ Below w.heap.size w w' := by
  have V1 := valid_any n1 d1 a0 a1 a2 a3
  have V2 := valid_any n2 d2 b0 b1 b2 b3
  rw [hv1] at V1
  rw [hv2] at V2
  have HV1 := Lib.hid V1
  have HV2 := Lib.hid V2
  clear V1 V2 hv1 hv2
  go_enter Tryd.func10, Tryd.ntmps10
  go_wp2_with fail
  refine (HV1.out _).mono ?_
  rintro e w0 ⟨rfl, hb0⟩
  obtain ⟨hc0, hf0⟩ := bcell hb0
  have l03 : w.heap.size < w.heap.size + 1 + 1 := by omega
  go_wp2_with fail
  refine (HV2.out _).mono ?_
  rintro e w1 ⟨rfl, hb1⟩
  obtain ⟨c0, c1, c2, c3, e0, e1, e2, e3, hbw, hzw⟩ := init2 (hb0.trans (hb1.mono hb0.size))
  clear hc0 hf0 l03 hb0 hb1
  go_wp2_with fail
  go_ret
  exact ⟨rfl, hbw⟩

set_option maxHeartbeats 4000000 in
theorem cmp_valid (n1 d1 n2 d2 : Int) (hv1 : validB n1 d1 = true) (hv2 : validB n2 d2 = true) (w : World) :
    Calls Tryd.prog 10 #[.agg #[.int .i64 n1, .int .i64 d1], .agg #[.int .i64 n2, .int .i64 d2]] w fun e w' => e = .returned (.int .i64 (cmpI (n1 * full d2) (n2 * full d1))) ∧ Below w.heap.size w w' := by
  have o1 := okR_of hv1
  have o2 := okR_of hv2
  obtain ⟨i1, i2, i3, i4, i5⟩ := okR_num o1
  obtain ⟨j1, j2, j3, j4, j5⟩ := okR_num o2
  obtain ⟨u1, u2⟩ := full_pos o1
  obtain ⟨v1, v2⟩ := full_pos o2
  have s1 := settle_any n1 d1 i5
  have s2 := settle_any n2 d2 j5
  generalize full d1 = D1 at *
  generalize full d2 = D2 at *
  have V1 := valid_any n1 d1 (by omega) (by omega) (by omega) (by omega)
  have V2 := valid_any n2 d2 (by omega) (by omega) (by omega) (by omega)
  rw [hv1] at V1
  rw [hv2] at V2
  have HV1 := Lib.hid V1
  have HV2 := Lib.hid V2
  have S1 := Lib.hid s1
  have S2 := Lib.hid s2
  have m1 := Lib.hid (multiply_any n1 D2 (by omega) (by omega) (by omega) (by omega))
  have m2 := Lib.hid (multiply_any n2 D1 (by omega) (by omega) (by omega) (by omega))
  have SC := Lib.hid (scmp_any (n1 * D2) (n2 * D1))
  generalize n1 * D2 = L at *
  generalize n2 * D1 = R at *
  clear s1 s2 i5 j5 o1 o2 V1 V2 hv1 hv2
  go_enter Tryd.func10, Tryd.ntmps10
  go_wp2_with fail
  refine (HV1.out _).mono ?_
  rintro e w0 ⟨rfl, hb0⟩
  obtain ⟨hc0, hf0⟩ := bcell hb0
  have l03 : w.heap.size < w.heap.size + 1 + 1 := by omega
  go_wp2_with fail
  refine (HV2.out _).mono ?_
  rintro e w1 ⟨rfl, hb1⟩
  obtain ⟨c0, c1, c2, c3, e0, e1, e2, e3, hbw, hzw⟩ := init2 (hb0.trans (hb1.mono hb0.size))
  clear hc0 hf0 l03 hb0 hb1
  go_upto_region 3 with fail
  go_cut [2] (fun t2 wx => t2 = .pointer (some ⟨w.heap.size, 0, none⟩) ∧ wx.cell? ⟨w.heap.size, 0, none⟩ = some (.int .i64 n1) ∧ wx.cell? ⟨w.heap.size, 1, none⟩ = some (.int .i64 D1) ∧ wx.cell? ⟨w.heap.size + 1, 0, none⟩ = some (.int .i64 n2) ∧ wx.cell? ⟨w.heap.size + 1, 1, none⟩ = some (.int .i64 D2) ∧ Below w.heap.size w wx ∧ w.heap.size + 2 ≤ wx.heap.size)
  case first =>
    have f0 : w.heap.size < w1.heap.size := by omega
    have f1 : w.heap.size + 1 < w1.heap.size := by omega
    have n01 : w.heap.size ≠ w.heap.size + 1 := by omega
    go_region_with (first | (go_at_call_of 15 (Value.agg #[Value.int IntKind.i64 n1, Value.int IntKind.i64 d1]); refine (S1.out _).mono ?_; rintro e w2 ⟨rfl, hb2⟩; obtain ⟨hc2, hf2⟩ := bcellN w1.heap.size hb2 (Nat.le_refl _)) | (go_at_call_of 15 (Value.agg #[Value.int IntKind.i64 n2, Value.int IntKind.i64 d2]); refine (S2.out _).mono ?_; rintro e w3 ⟨rfl, hb3⟩; obtain ⟨hc3, hf3⟩ := bcellN w1.heap.size hb3 (by (first | exact Nat.le_refl _ | exact hb2.size))))
    all_goals
      go_wp2_with fail
      go_meet
      have y2 : w1.heap.size ≤ w2.heap.size := hb2.size
      have y3 : w2.heap.size ≤ w3.heap.size := hb3.size
      have hb2 := hb2.mono (B' := w.heap.size) (by (try simp) <;> omega)
      have hb3 := hb3.mono (B' := w.heap.size) (by (try simp) <;> omega)
      refine ⟨rfl, ?_, ?_, ?_, ?_, ?_, ?_⟩
      rotate_left 4
      · repeat (first | exact Below.refl _ _ | assumption | (refine Below.alloc ?_ (by (try simp) <;> omega) _) | (refine Below.setCell ?_ (by (try simp) <;> omega) _) | (refine Below.drew ?_) | (refine below_drewN _ ?_) | (refine Below.trans ?_ hb3) | (refine Below.trans ?_ hb2))
      · ((try simp) <;> omega)
      all_goals simp [go_sem, *]
  case rest =>
    obtain ⟨rfl, k0, k1, k2, k3, kb, kz⟩ := hcut
    clear c0 c1 c2 c3 e0 e1 e2 e3 hbw hzw S1 S2 HV1 HV2
    generalize wc = wA at *
    have f0 : w.heap.size < wA.heap.size := by omega
    have f1 : w.heap.size + 1 < wA.heap.size := by omega
    go_wp2_with fail
    have hds : ∀ x : World, x.drew.heap.size = x.heap.size := fun _ => rfl
    go_region_held3 (fun w' => w'.cell? ⟨w.heap.size, 0, none⟩ = some (.int .i64 n1) ∧ w'.cell? ⟨w.heap.size, 1, none⟩ = some (.int .i64 D1) ∧ w'.cell? ⟨w.heap.size + 1, 0, none⟩ = some (.int .i64 n2) ∧ w'.cell? ⟨w.heap.size + 1, 1, none⟩ = some (.int .i64 D2)) (first | go_keep)
      (first | (go_at_call_of 23 (Value.int IntKind.i64 n1); refine (m1.out _).mono ?_; rintro e w2 ⟨rfl, hb2⟩; obtain ⟨hc2, hf2⟩ := bcell hb2; have y2 : wA.heap.size ≤ w2.heap.size := hb2.size; have f2 : w.heap.size < w2.heap.size := (by omega); have f3 : w.heap.size + 1 < w2.heap.size := (by omega)) | (go_at_call_of 23 (Value.int IntKind.i64 n2); refine (m2.out _).mono ?_; rintro e w3 ⟨rfl, hb3⟩; obtain ⟨hc3, hf3⟩ := bcell hb3; have y3 : w2.heap.size ≤ w3.heap.size := hb3.size; have f4 : w.heap.size < w3.heap.size := (by omega); have f5 : w.heap.size + 1 < w3.heap.size := (by omega)) | (go_at_call 24; refine (SC.out _).mono ?_; rintro e w4 ⟨rfl, hb4⟩; obtain ⟨hc4, hf4⟩ := bcell hb4))
    go_wp2_with fail
    go_ret
    replace hb2 := hb2.mono (B' := w.heap.size) (Nat.le_trans (show w.heap.size ≤ wA.heap.size by omega) (Nat.le_refl _))
    replace hb3 := hb3.mono (B' := w.heap.size) (by omega)
    replace hb4 := hb4.mono (B' := w.heap.size) (by omega)
    exact ⟨rfl, by repeat (first | exact Below.refl _ _ | assumption | (refine Below.alloc ?_ (by (try simp) <;> omega) _) | (refine Below.setCell ?_ (by (try simp) <;> omega) _) | (refine Below.drew ?_) | (refine below_drewN _ ?_) | (refine Below.trans ?_ hb4) | (refine Below.trans ?_ hb3) | (refine Below.trans ?_ hb2))⟩
theorem cmp_any (n1 d1 n2 d2 : Int) (a0 : -9223372036854775808 ≤ n1) (a1 : n1 ≤ 9223372036854775807) (a2 : -9223372036854775808 ≤ d1) (a3 : d1 ≤ 9223372036854775807) (b0 : -9223372036854775808 ≤ n2) (b1 : n2 ≤ 9223372036854775807) (b2 : -9223372036854775808 ≤ d2) (b3 : d2 ≤ 9223372036854775807) (w : World) :
    Calls Tryd.prog 10 #[.agg #[.int .i64 n1, .int .i64 d1], .agg #[.int .i64 n2, .int .i64 d2]] w fun e w' => e = .returned (.int .i64 (cmpS n1 d1 n2 d2)) ∧ Below w.heap.size w w' := by
  unfold cmpS
  by_cases h1 : validB n1 d1 = true
  · by_cases h2 : validB n2 d2 = true
    · rw [h1, h2]; exact cmp_valid n1 d1 n2 d2 h1 h2 w
    · rw [Bool.not_eq_true] at h2
      rw [h1, h2]; exact cmp_bad2 n1 d1 n2 d2 a0 a1 a2 a3 b0 b1 b2 b3 h1 h2 w
  · rw [Bool.not_eq_true] at h1
    rw [h1]; exact cmp_bad1 n1 d1 n2 d2 a0 a1 a2 a3 h1 w

theorem floor_num (n D : Int) (h : 1 ≤ D) : (n.tmod D < 0 → n.tdiv D - 1 = n / D) ∧ (¬ n.tmod D < 0 → n.tdiv D = n / D) := by
  have e1 := Int.emod_add_mul_ediv n D
  have e2 := Int.emod_nonneg n (b := D) (by omega)
  have e3 := Int.emod_lt_of_pos n (b := D) (by omega)
  have e4 := Int.tmod_add_mul_tdiv n D
  have e5 : n.tmod D < D := Int.tmod_lt_of_pos _ (by omega)
  have e6 : -D < n.tmod D := by
    have := Int.lt_tmod_of_pos n (show 0 < D by omega); omega
  constructor
  · intro hn
    have h1 : n = D * (n.tdiv D - 1) + (n.tmod D + D) := by rw [Int.mul_sub]; omega
    have : n / D = n.tdiv D - 1 := by
      conv => lhs; rw [h1]
      rw [Int.mul_add_ediv_left _ _ (by omega), Int.ediv_eq_zero_of_lt (by omega) (by omega)]; omega
    omega
  · intro hn
    have h1 : n = D * n.tdiv D + n.tmod D := by omega
    have : n / D = n.tdiv D := by
      conv => lhs; rw [h1]
      rw [Int.mul_add_ediv_left _ _ (by omega), Int.ediv_eq_zero_of_lt (by omega) (by omega)]; omega
    omega

theorem floor_bad (n d : Int) (a0 : -9223372036854775808 ≤ n) (a1 : n ≤ 9223372036854775807) (a2 : -9223372036854775808 ≤ d) (a3 : d ≤ 9223372036854775807) (hv : validB n d = false) (w : World) :
    Calls Tryd.prog 14 #[.agg #[.int .i64 n, .int .i64 d]] w fun e w' => e = .returned (.int .i64 0) ∧ Below w.heap.size w w' := by
  have V1 := valid_any n d a0 a1 a2 a3
  rw [hv] at V1
  have HV1 := Lib.hid V1
  clear V1 hv
  go_enter Tryd.func14, Tryd.ntmps14
  go_wp2_with fail
  refine (HV1.out _).mono ?_
  rintro e w0 ⟨rfl, hb0⟩
  obtain ⟨c0, c1, e0, e1, hbw, hzw⟩ := init1 hb0
  go_wp2_with fail
  go_ret
  exact ⟨rfl, hbw⟩
set_option maxHeartbeats 1000000 in
theorem floor_valid (n d : Int) (hv : validB n d = true) (w : World) :
    Calls Tryd.prog 14 #[.agg #[.int .i64 n, .int .i64 d]] w fun e w' => e = .returned (.int .i64 (n / full d)) ∧ Below w.heap.size w w' := by
  have o1 := okR_of hv
  obtain ⟨i1, i2, i3, i4, i5⟩ := okR_num o1
  obtain ⟨u1, u2⟩ := full_pos o1
  have s1 := settle_any n d i5
  generalize full d = D at *
  have V1 := valid_any n d (by omega) (by omega) (by omega) (by omega)
  rw [hv] at V1
  have HV1 := Lib.hid V1
  have S1 := Lib.hid s1
  obtain ⟨fl1, fl2⟩ := floor_num n D u1
  have L1 := Lib.hid fl1
  have L2 := Lib.hid fl2
  have hq0 := IntWalk.i64_quo' n D ⟨by omega, by omega, u1⟩
  have hD : D ≠ 0 := by omega
  have hb : -1152921504606846976 ≤ n.tdiv D ∧ n.tdiv D ≤ 1152921504606846976 := by
    rcases Int.lt_or_le n 0 with h | h
    · have e : n.tdiv D = -((-n) / D) := by rw [← Int.tdiv_eq_ediv_of_nonneg (show 0 ≤ -n by omega), Int.neg_tdiv, Int.neg_neg]
      have h1 : 0 ≤ (-n) / D := Int.ediv_nonneg (by omega) (by omega)
      have h2 : (-n) / D ≤ -n := Int.ediv_le_self _ (by omega)
      omega
    · rw [Int.tdiv_eq_ediv_of_nonneg h]
      have h1 : 0 ≤ n / D := Int.ediv_nonneg h (by omega)
      have h2 : n / D ≤ n := Int.ediv_le_self _ h
      omega
  obtain ⟨qb1, qb2⟩ := hb
  obtain ⟨q, hq⟩ : ∃ q, n.tdiv D = q := ⟨_, rfl⟩
  obtain ⟨r, hr⟩ : ∃ r, n.tmod D = r := ⟨_, rfl⟩
  rw [hq] at qb1 qb2 hq0
  have HQ := Lib.hid hq
  have HR := Lib.hid hr
  clear s1 i5 o1 V1 hv fl1 fl2 hq
  by_cases hneg : r < 0
  · have hd : decide (r < 0) = true := decide_eq_true hneg
    go_enter Tryd.func14, Tryd.ntmps14
    go_wp2_with fail
    refine (HV1.out _).mono ?_
    rintro e w0 ⟨rfl, hb0⟩
    obtain ⟨c0, c1, e0, e1, hbw, hzw⟩ := init1 hb0
    go_wp2_with fail
    refine (S1.out _).mono ?_
    rintro e w2 ⟨rfl, hb2⟩
    obtain ⟨hc2, hf2⟩ := bcell hb2
    have f0 : w.heap.size < w0.heap.size := by omega
    go_wp2_with fail
    go_ret
    refine ⟨ret_int ?_, ?_⟩
    · rw [← L1.out (by rw [HR.out]; exact hneg), HQ.out]; first | done | (unfold wrap64; omega)
    · replace hb2 := hb2.mono (B' := w.heap.size) (by omega)
      clear hc2 hf2
      repeat (first | exact Below.refl _ _ | assumption | (refine Below.alloc ?_ (by (try simp) <;> omega) _) | (refine Below.setCell ?_ (by (try simp) <;> omega) _) | (refine Below.drew ?_) | (refine below_drewN _ ?_) | (refine Below.trans ?_ hb2))
  · have hd : decide (r < 0) = false := decide_eq_false hneg
    go_enter Tryd.func14, Tryd.ntmps14
    go_wp2_with fail
    refine (HV1.out _).mono ?_
    rintro e w0 ⟨rfl, hb0⟩
    obtain ⟨c0, c1, e0, e1, hbw, hzw⟩ := init1 hb0
    go_wp2_with fail
    refine (S1.out _).mono ?_
    rintro e w2 ⟨rfl, hb2⟩
    obtain ⟨hc2, hf2⟩ := bcell hb2
    have f0 : w.heap.size < w0.heap.size := by omega
    go_wp2_with fail
    go_ret
    refine ⟨ret_int ?_, ?_⟩
    · rw [← L2.out (by rw [HR.out]; exact hneg), HQ.out]
    · replace hb2 := hb2.mono (B' := w.heap.size) (by omega)
      clear hc2 hf2
      repeat (first | exact Below.refl _ _ | assumption | (refine Below.alloc ?_ (by (try simp) <;> omega) _) | (refine Below.setCell ?_ (by (try simp) <;> omega) _) | (refine Below.drew ?_) | (refine below_drewN _ ?_) | (refine Below.trans ?_ hb2))

theorem floor_any (n d : Int) (a0 : -9223372036854775808 ≤ n) (a1 : n ≤ 9223372036854775807) (a2 : -9223372036854775808 ≤ d) (a3 : d ≤ 9223372036854775807) (w : World) :
    Calls Tryd.prog 14 #[.agg #[.int .i64 n, .int .i64 d]] w fun e w' => e = .returned (.int .i64 (floorS n d)) ∧ Below w.heap.size w w' := by
  unfold floorS
  by_cases h1 : validB n d = true
  · rw [h1]; exact floor_valid n d h1 w
  · rw [Bool.not_eq_true] at h1
    rw [h1]; exact floor_bad n d a0 a1 a2 a3 h1 w
end Go.Proofs.YtlglagihekadhaaDoor
