/- The contracts of Div, Cmp, Floor. -/
import Derived.Test.YtlglagihekadhaaDoorRatE
namespace Go.Proofs.YtlglagihekadhaaDoor
open Go.RowKit Go.Shelf

/-- Div's result. -/
def divS (a b c d : Int) : Int × Int × Int := if validB a b && validB c d then (if c = 0 then (0, 0, 2) else outR (toR a b / toR c d)) else (0, 0, 1)
def cmpS (a b c d : Int) : Int := if validB a b && validB c d then cmpI (a * full d) (c * full b) else 0
def floorS (a b : Int) : Int := if validB a b then a / full b else 0
theorem divInt_nat {d n : Int} (h : 0 ≤ n) : Rat.divInt d n = toR d n := by
  obtain ⟨k, rfl⟩ := Int.eq_ofNat_of_zero_le h
  rw [Rat.divInt_ofNat]; rfl
theorem rat_div {x y : Rat} {n d : Int} (hy : y.num = n) (hd : (y.den : Int) = d) : (0 < n → x / y = x * toR d n) ∧ (n < 0 → x / y = x * toR (-d) (-n)) := by
  rw [Rat.div_def, Rat.inv_def, hy, hd]
  exact ⟨fun h => by rw [divInt_nat (by omega)], fun h => by rw [← Rat.neg_divInt_neg, divInt_nat (by omega)]⟩
theorem ok_inv {n d : Int} (h : okR n d) (hn : n ≠ 0) : (0 < n → okR d n) ∧ (n < 0 → okR (-d) (-n)) ∧ full d = d := by
  rcases h with ⟨rfl, rfl⟩ | ⟨h1, h2, h3, h4, h5⟩
  · exact absurd rfl hn
  · have hg : gd d n = 1 := by unfold gd at *; rw [Int.gcd_comm]; exact h5
    have hg' : gd (-d) (-n) = 1 := by unfold gd at *; rw [Int.neg_gcd, Int.gcd_neg, Int.gcd_comm]; exact h5
    exact ⟨fun h => .inr ⟨by omega, by omega, by omega, by omega, hg⟩, fun h => .inr ⟨by omega, by omega, by omega, by omega, hg'⟩, if_neg (by omega)⟩

set_option maxHeartbeats 1000000 in
theorem div_bad1 (n1 d1 n2 d2 : Int) (a0 : -9223372036854775808 ≤ n1) (a1 : n1 ≤ 9223372036854775807) (a2 : -9223372036854775808 ≤ d1) (a3 : d1 ≤ 9223372036854775807) (hv1 : validB n1 d1 = false) (w : World) :
    Calls Tryd.prog 13 #[.agg #[.int .i64 n1, .int .i64 d1], .agg #[.int .i64 n2, .int .i64 d2]] w fun e w' =>
      e = .returned (.tuple #[.agg #[.int .i64 0, .int .i64 0], .int .i64 1]) ∧ Below w.heap.size w w' := by
  have V1 := valid_any n1 d1 a0 a1 a2 a3
  rw [hv1] at V1
  have HV1 := Lib.hid V1
  clear V1 hv1
  go_enter Tryd.func13, Tryd.ntmps13
  go_wp2_with fail
  refine (HV1.out _).mono ?_
  rintro e w0 ⟨rfl, hb0⟩
  obtain ⟨c0, c1, c2, c3, c4, c5, e0, e1, e2, e3, e4, e5, hbw, hzw⟩ := init3 hb0
  have f2 : w.heap.size + 1 + 1 < w0.heap.size := by omega
  go_wp2_with fail
  refine bodyPost_ret (v := .tuple #[.agg #[.int .i64 0, .int .i64 0], .int .i64 1]) (by simp [results, Tryd.results13, go_sem, *]) rfl ⟨rfl, ?_⟩
  clear hb0
  repeat (first | exact Below.refl _ _ | assumption | (refine Below.alloc ?_ (by (try simp) <;> omega) _) | (refine Below.setCell ?_ (by (try simp) <;> omega) _) | (refine Below.drew ?_) | (refine below_drewN _ ?_))
set_option maxHeartbeats 1000000 in
theorem div_bad2 (n1 d1 n2 d2 : Int) (a0 : -9223372036854775808 ≤ n1) (a1 : n1 ≤ 9223372036854775807) (a2 : -9223372036854775808 ≤ d1) (a3 : d1 ≤ 9223372036854775807) (b0 : -9223372036854775808 ≤ n2) (b1 : n2 ≤ 9223372036854775807) (b2 : -9223372036854775808 ≤ d2) (b3 : d2 ≤ 9223372036854775807) (hv1 : validB n1 d1 = true) (hv2 : validB n2 d2 = false) (w : World) :
    Calls Tryd.prog 13 #[.agg #[.int .i64 n1, .int .i64 d1], .agg #[.int .i64 n2, .int .i64 d2]] w fun e w' =>
      e = .returned (.tuple #[.agg #[.int .i64 0, .int .i64 0], .int .i64 1]) ∧ Below w.heap.size w w' := by
  have V1 := valid_any n1 d1 a0 a1 a2 a3
  have V2 := valid_any n2 d2 b0 b1 b2 b3
  rw [hv1] at V1
  rw [hv2] at V2
  have HV1 := Lib.hid V1
  have HV2 := Lib.hid V2
  clear V1 V2 hv1 hv2
  go_enter Tryd.func13, Tryd.ntmps13
  go_wp2_with fail
  refine (HV1.out _).mono ?_
  rintro e w0 ⟨rfl, hb0⟩
  obtain ⟨hc0, hf0⟩ := bcell hb0
  have l03 : w.heap.size < w.heap.size + 1 + 1 + 1 := by omega
  go_wp2_with fail
  refine (HV2.out _).mono ?_
  rintro e w1 ⟨rfl, hb1⟩
  obtain ⟨c0, c1, c2, c3, c4, c5, e0, e1, e2, e3, e4, e5, hbw, hzw⟩ := init3 (hb0.trans (hb1.mono hb0.size))
  clear hc0 hf0 l03 hb0 hb1
  have f2 : w.heap.size + 1 + 1 < w1.heap.size := by omega
  go_wp2_with fail
  refine bodyPost_ret (v := .tuple #[.agg #[.int .i64 0, .int .i64 0], .int .i64 1]) (by simp [results, Tryd.results13, go_sem, *]) rfl ⟨rfl, ?_⟩
  repeat (first | exact Below.refl _ _ | assumption | (refine Below.alloc ?_ (by (try simp) <;> omega) _) | (refine Below.setCell ?_ (by (try simp) <;> omega) _) | (refine Below.drew ?_) | (refine below_drewN _ ?_))

set_option maxHeartbeats 1000000 in
theorem div_zero (n1 d1 n2 d2 : Int) (hv1 : validB n1 d1 = true) (hv2 : validB n2 d2 = true) (hn : (n2 == 0) = true) (w : World) :
    Calls Tryd.prog 13 #[.agg #[.int .i64 n1, .int .i64 d1], .agg #[.int .i64 n2, .int .i64 d2]] w fun e w' =>
      e = .returned (.tuple #[.agg #[.int .i64 0, .int .i64 0], .int .i64 2]) ∧ Below w.heap.size w w' := by
  have o1 := okR_of hv1
  have o2 := okR_of hv2
  obtain ⟨i1, i2, i3, i4, i5⟩ := okR_num o1
  obtain ⟨j1, j2, j3, j4, j5⟩ := okR_num o2
  have V1 := valid_any n1 d1 (by omega) (by omega) (by omega) (by omega)
  have V2 := valid_any n2 d2 (by omega) (by omega) (by omega) (by omega)
  rw [hv1] at V1
  rw [hv2] at V2
  have HV1 := Lib.hid V1
  have HV2 := Lib.hid V2
  clear V1 V2 hv1 hv2 o1 o2 i5 j5
  go_enter Tryd.func13, Tryd.ntmps13
  go_wp2_with fail
  refine (HV1.out _).mono ?_
  rintro e w0 ⟨rfl, hb0⟩
  obtain ⟨hc0, hf0⟩ := bcell hb0
  have l03 : w.heap.size < w.heap.size + 1 + 1 + 1 := by omega
  go_wp2_with fail
  refine (HV2.out _).mono ?_
  rintro e w1 ⟨rfl, hb1⟩
  obtain ⟨c0, c1, c2, c3, c4, c5, e0, e1, e2, e3, e4, e5, hbw, hzw⟩ := init3 (hb0.trans (hb1.mono hb0.size))
  clear hc0 hf0 l03 hb0 hb1
  have f2 : w.heap.size + 1 + 1 < w1.heap.size := by omega
  go_wp2_with fail
  refine bodyPost_ret (v := .tuple #[.agg #[.int .i64 0, .int .i64 0], .int .i64 2]) (by simp [results, Tryd.results13, go_sem, *]) rfl ⟨rfl, ?_⟩
  repeat (first | exact Below.refl _ _ | assumption | (refine Below.alloc ?_ (by (try simp) <;> omega) _) | (refine Below.setCell ?_ (by (try simp) <;> omega) _) | (refine Below.drew ?_) | (refine below_drewN _ ?_))

set_option maxHeartbeats 1000000 in
theorem div_pos (n1 d1 n2 d2 : Int) (hv1 : validB n1 d1 = true) (hv2 : validB n2 d2 = true) (hn : 0 < n2) (w : World) :
    Calls Tryd.prog 13 #[.agg #[.int .i64 n1, .int .i64 d1], .agg #[.int .i64 n2, .int .i64 d2]] w fun e w' =>
      e = .returned (.tuple #[.agg #[.int .i64 (mulS n1 d1 d2 n2).1, .int .i64 (mulS n1 d1 d2 n2).2.1], .int .i64 (mulS n1 d1 d2 n2).2.2]) ∧ Below w.heap.size w w' := by
  have o1 := okR_of hv1
  have o2 := okR_of hv2
  obtain ⟨i1, i2, i3, i4, i5⟩ := okR_num o1
  obtain ⟨j1, j2, j3, j4, j5⟩ := okR_num o2
  have V1 := valid_any n1 d1 (by omega) (by omega) (by omega) (by omega)
  have V2 := valid_any n2 d2 (by omega) (by omega) (by omega) (by omega)
  rw [hv1] at V1
  rw [hv2] at V2
  have HV1 := Lib.hid V1
  have HV2 := Lib.hid V2
  have MU := Lib.hid (mul_any n1 d1 d2 n2 (by omega) (by omega) (by omega) (by omega) (by omega) (by omega) (by omega) (by omega))
  have hn0 : (n2 == 0) = false := by rw [beq_eq_false_iff_ne]; omega
  clear V1 V2 hv1 hv2 o1 o2 i5 j5
  go_enter Tryd.func13, Tryd.ntmps13
  go_wp2_with fail
  refine (HV1.out _).mono ?_
  rintro e w0 ⟨rfl, hb0⟩
  obtain ⟨hc0, hf0⟩ := bcell hb0
  have l03 : w.heap.size < w.heap.size + 1 + 1 + 1 := by omega
  go_wp2_with fail
  refine (HV2.out _).mono ?_
  rintro e w1 ⟨rfl, hb1⟩
  obtain ⟨c0, c1, c2, c3, c4, c5, e0, e1, e2, e3, e4, e5, hbw, hzw⟩ := init3 (hb0.trans (hb1.mono hb0.size))
  clear hc0 hf0 l03 hb0 hb1
  have f2 : w.heap.size + 1 + 1 < w1.heap.size := by omega
  go_wp2_with fail
  refine (MU.out _).mono ?_
  rintro e w2 ⟨rfl, hb2⟩
  obtain ⟨hc2, hf2⟩ := bcell hb2
  replace hb2 := hb2.mono (B' := w.heap.size) (by omega)
  go_wp2_with fail
  refine bodyPost_ret (v := .tuple #[.agg #[.int .i64 (mulS n1 d1 d2 n2).1, .int .i64 (mulS n1 d1 d2 n2).2.1], .int .i64 (mulS n1 d1 d2 n2).2.2]) (by simp [results, Tryd.results13, go_sem, *]) rfl ⟨rfl, ?_⟩
  repeat (first | exact Below.refl _ _ | assumption | (refine Below.alloc ?_ (by (try simp) <;> omega) _) | (refine Below.setCell ?_ (by (try simp) <;> omega) _) | (refine Below.drew ?_) | (refine below_drewN _ ?_) | (refine Below.trans ?_ hb2))

set_option maxHeartbeats 1000000 in
theorem div_neg (n1 d1 n2 d2 : Int) (hv1 : validB n1 d1 = true) (hv2 : validB n2 d2 = true) (hn : n2 < 0) (w : World) :
    Calls Tryd.prog 13 #[.agg #[.int .i64 n1, .int .i64 d1], .agg #[.int .i64 n2, .int .i64 d2]] w fun e w' =>
      e = .returned (.tuple #[.agg #[.int .i64 (mulS n1 d1 (-d2) (-n2)).1, .int .i64 (mulS n1 d1 (-d2) (-n2)).2.1], .int .i64 (mulS n1 d1 (-d2) (-n2)).2.2]) ∧ Below w.heap.size w w' := by
  have o1 := okR_of hv1
  have o2 := okR_of hv2
  obtain ⟨i1, i2, i3, i4, i5⟩ := okR_num o1
  obtain ⟨j1, j2, j3, j4, j5⟩ := okR_num o2
  have V1 := valid_any n1 d1 (by omega) (by omega) (by omega) (by omega)
  have V2 := valid_any n2 d2 (by omega) (by omega) (by omega) (by omega)
  rw [hv1] at V1
  rw [hv2] at V2
  have HV1 := Lib.hid V1
  have HV2 := Lib.hid V2
  have MU := Lib.hid (mul_any n1 d1 (-d2) (-n2) (by omega) (by omega) (by omega) (by omega) (by omega) (by omega) (by omega) (by omega))
  have hn0 : (n2 == 0) = false := by rw [beq_eq_false_iff_ne]; omega
  clear V1 V2 hv1 hv2 o1 o2 i5 j5
  go_enter Tryd.func13, Tryd.ntmps13
  go_wp2_with fail
  refine (HV1.out _).mono ?_
  rintro e w0 ⟨rfl, hb0⟩
  obtain ⟨hc0, hf0⟩ := bcell hb0
  have l03 : w.heap.size < w.heap.size + 1 + 1 + 1 := by omega
  go_wp2_with fail
  refine (HV2.out _).mono ?_
  rintro e w1 ⟨rfl, hb1⟩
  obtain ⟨c0, c1, c2, c3, c4, c5, e0, e1, e2, e3, e4, e5, hbw, hzw⟩ := init3 (hb0.trans (hb1.mono hb0.size))
  clear hc0 hf0 l03 hb0 hb1
  have f2 : w.heap.size + 1 + 1 < w1.heap.size := by omega
  go_wp2_with fail
  refine (MU.out _).mono ?_
  rintro e w2 ⟨rfl, hb2⟩
  obtain ⟨hc2, hf2⟩ := bcell hb2
  replace hb2 := hb2.mono (B' := w.heap.size) (by omega)
  go_wp2_with fail
  refine bodyPost_ret (v := .tuple #[.agg #[.int .i64 (mulS n1 d1 (-d2) (-n2)).1, .int .i64 (mulS n1 d1 (-d2) (-n2)).2.1], .int .i64 (mulS n1 d1 (-d2) (-n2)).2.2]) (by simp [results, Tryd.results13, go_sem, *]) rfl ⟨rfl, ?_⟩
  repeat (first | exact Below.refl _ _ | assumption | (refine Below.alloc ?_ (by (try simp) <;> omega) _) | (refine Below.setCell ?_ (by (try simp) <;> omega) _) | (refine Below.drew ?_) | (refine below_drewN _ ?_) | (refine Below.trans ?_ hb2))

theorem div_any (n1 d1 n2 d2 : Int) (a0 : -9223372036854775808 ≤ n1) (a1 : n1 ≤ 9223372036854775807) (a2 : -9223372036854775808 ≤ d1) (a3 : d1 ≤ 9223372036854775807) (b0 : -9223372036854775808 ≤ n2) (b1 : n2 ≤ 9223372036854775807) (b2 : -9223372036854775808 ≤ d2) (b3 : d2 ≤ 9223372036854775807) (w : World) :
    Calls Tryd.prog 13 #[.agg #[.int .i64 n1, .int .i64 d1], .agg #[.int .i64 n2, .int .i64 d2]] w fun e w' =>
      e = .returned (.tuple #[.agg #[.int .i64 (divS n1 d1 n2 d2).1, .int .i64 (divS n1 d1 n2 d2).2.1], .int .i64 (divS n1 d1 n2 d2).2.2]) ∧ Below w.heap.size w w' := by
  unfold divS
  by_cases h1 : validB n1 d1 = true
  · by_cases h2 : validB n2 d2 = true
    · rw [h1, h2, Bool.and_self, if_pos rfl]
      by_cases hn : n2 = 0
      · rw [if_pos hn]; exact div_zero n1 d1 n2 d2 h1 h2 (by rw [hn]; rfl) w
      · rw [if_neg hn]
        obtain ⟨x1, x2⟩ := toR_num (okR_of h2)
        obtain ⟨y1, y2, y3⟩ := ok_inv (okR_of h2) hn
        rw [y3] at x2
        obtain ⟨z1, z2⟩ := rat_div (x := toR n1 d1) x1 x2
        rcases Int.lt_or_le n2 0 with hl | hl
        · rw [z2 hl]
          have := div_neg n1 d1 n2 d2 h1 h2 hl w
          unfold mulS at this
          rw [h1, validB_of (y2 hl)] at this
          exact this
        · have hl' : 0 < n2 := by omega
          rw [z1 hl']
          have := div_pos n1 d1 n2 d2 h1 h2 hl' w
          unfold mulS at this
          rw [h1, validB_of (y1 hl')] at this
          exact this
    · rw [Bool.not_eq_true] at h2
      rw [h1, h2]; exact div_bad2 n1 d1 n2 d2 a0 a1 a2 a3 b0 b1 b2 b3 h1 h2 w
  · rw [Bool.not_eq_true] at h1
    rw [h1]; exact div_bad1 n1 d1 n2 d2 a0 a1 a2 a3 h1 w
end Go.Proofs.YtlglagihekadhaaDoor
