/- The contracts of Add, Mul, Sub, Div for all arguments. -/
import Derived.Test.YtlglagihekadhaaDoorRatAd
namespace Go.Proofs.YtlglagihekadhaaDoor
open Go.RowKit Go.Shelf

def addS (a b c d : Int) : Int × Int × Int := if validB a b && validB c d then outR (toR a b + toR c d) else (0, 0, 1)
def mulS (a b c d : Int) : Int × Int × Int := if validB a b && validB c d then outR (toR a b * toR c d) else (0, 0, 1)

set_option maxHeartbeats 1000000 in
theorem add_bad1 (n1 d1 n2 d2 : Int) (a0 : -9223372036854775808 ≤ n1) (a1 : n1 ≤ 9223372036854775807) (a2 : -9223372036854775808 ≤ d1) (a3 : d1 ≤ 9223372036854775807) (hv1 : validB n1 d1 = false) (w : World) :
    Calls Tryd.prog 12 #[.agg #[.int .i64 n1, .int .i64 d1], .agg #[.int .i64 n2, .int .i64 d2]] w fun e w' =>
      e = .returned (.tuple #[.agg #[.int .i64 0, .int .i64 0], .int .i64 1]) ∧ Below w.heap.size w w' := by
  have V1 := valid_any n1 d1 a0 a1 a2 a3
  rw [hv1] at V1
  have HV1 := Lib.hid V1
  clear V1 hv1
  go_enter Tryd.func12, Tryd.ntmps12
  go_wp2_with fail
  refine (HV1.out _).mono ?_
  rintro e w0 ⟨rfl, hb0⟩
  obtain ⟨c0, c1, c2, c3, c4, c5, e0, e1, e2, e3, e4, e5, hbw, hzw⟩ := init3 hb0
  have f2 : w.heap.size + 1 + 1 < w0.heap.size := by omega
  go_wp2_with fail
  refine bodyPost_ret (v := .tuple #[.agg #[.int .i64 0, .int .i64 0], .int .i64 1]) (by simp [results, Tryd.results12, go_sem, *]) rfl ⟨rfl, ?_⟩
  clear hb0
  repeat (first | exact Below.refl _ _ | assumption | (refine Below.alloc ?_ (by (try simp) <;> omega) _) | (refine Below.setCell ?_ (by (try simp) <;> omega) _) | (refine Below.drew ?_) | (refine below_drewN _ ?_))
set_option maxHeartbeats 1000000 in
theorem add_bad2 (n1 d1 n2 d2 : Int) (a0 : -9223372036854775808 ≤ n1) (a1 : n1 ≤ 9223372036854775807) (a2 : -9223372036854775808 ≤ d1) (a3 : d1 ≤ 9223372036854775807) (b0 : -9223372036854775808 ≤ n2) (b1 : n2 ≤ 9223372036854775807) (b2 : -9223372036854775808 ≤ d2) (b3 : d2 ≤ 9223372036854775807) (hv1 : validB n1 d1 = true) (hv2 : validB n2 d2 = false) (w : World) :
    Calls Tryd.prog 12 #[.agg #[.int .i64 n1, .int .i64 d1], .agg #[.int .i64 n2, .int .i64 d2]] w fun e w' =>
      e = .returned (.tuple #[.agg #[.int .i64 0, .int .i64 0], .int .i64 1]) ∧ Below w.heap.size w w' := by
  have V1 := valid_any n1 d1 a0 a1 a2 a3
  have V2 := valid_any n2 d2 b0 b1 b2 b3
  rw [hv1] at V1
  rw [hv2] at V2
  have HV1 := Lib.hid V1
  have HV2 := Lib.hid V2
  clear V1 V2 hv1 hv2
  go_enter Tryd.func12, Tryd.ntmps12
  go_wp2_with fail
  refine (HV1.out _).mono ?_
  rintro e w0 ⟨rfl, hb0⟩
  obtain ⟨hc0, hf0⟩ := bcell hb0
  have l03 : w.heap.size < w.heap.size + 1 + 1 + 1 := by omega
  go_wp2_with fail
  refine (HV2.out _).mono ?_
  rintro e w1 ⟨rfl, hb1⟩
  obtain ⟨c0, c1, c2, c3, c4, c5, e0, e1, e2, e3, e4, e5, hbw, hzw⟩ := init3 (hb0.trans (hb1.mono hb0.size))
  clear hc0 hf0 l03 hb0 hb1
  have f2 : w.heap.size + 1 + 1 < w1.heap.size := by omega
  go_wp2_with fail
  refine bodyPost_ret (v := .tuple #[.agg #[.int .i64 0, .int .i64 0], .int .i64 1]) (by simp [results, Tryd.results12, go_sem, *]) rfl ⟨rfl, ?_⟩
  repeat (first | exact Below.refl _ _ | assumption | (refine Below.alloc ?_ (by (try simp) <;> omega) _) | (refine Below.setCell ?_ (by (try simp) <;> omega) _) | (refine Below.drew ?_) | (refine below_drewN _ ?_))

theorem add_any (n1 d1 n2 d2 : Int) (a0 : -9223372036854775808 ≤ n1) (a1 : n1 ≤ 9223372036854775807) (a2 : -9223372036854775808 ≤ d1) (a3 : d1 ≤ 9223372036854775807) (b0 : -9223372036854775808 ≤ n2) (b1 : n2 ≤ 9223372036854775807) (b2 : -9223372036854775808 ≤ d2) (b3 : d2 ≤ 9223372036854775807) (w : World) :
    Calls Tryd.prog 12 #[.agg #[.int .i64 n1, .int .i64 d1], .agg #[.int .i64 n2, .int .i64 d2]] w fun e w' =>
      e = .returned (.tuple #[.agg #[.int .i64 (addS n1 d1 n2 d2).1, .int .i64 (addS n1 d1 n2 d2).2.1], .int .i64 (addS n1 d1 n2 d2).2.2]) ∧ Below w.heap.size w w' := by
  unfold addS
  by_cases h1 : validB n1 d1 = true
  · by_cases h2 : validB n2 d2 = true
    · rw [h1, h2]; exact add_valid n1 d1 n2 d2 h1 h2 w
    · rw [Bool.not_eq_true] at h2
      rw [h1, h2]; exact add_bad2 n1 d1 n2 d2 a0 a1 a2 a3 b0 b1 b2 b3 h1 h2 w
  · rw [Bool.not_eq_true] at h1
    rw [h1]; exact add_bad1 n1 d1 n2 d2 a0 a1 a2 a3 h1 w

set_option maxHeartbeats 1000000 in
theorem mul_bad1 (n1 d1 n2 d2 : Int) (a0 : -9223372036854775808 ≤ n1) (a1 : n1 ≤ 9223372036854775807) (a2 : -9223372036854775808 ≤ d1) (a3 : d1 ≤ 9223372036854775807) (hv1 : validB n1 d1 = false) (w : World) :
    Calls Tryd.prog 31 #[.agg #[.int .i64 n1, .int .i64 d1], .agg #[.int .i64 n2, .int .i64 d2]] w fun e w' =>
      e = .returned (.tuple #[.agg #[.int .i64 0, .int .i64 0], .int .i64 1]) ∧ Below w.heap.size w w' := by
  have V1 := valid_any n1 d1 a0 a1 a2 a3
  rw [hv1] at V1
  have HV1 := Lib.hid V1
  clear V1 hv1
  go_enter Tryd.func31, Tryd.ntmps31
  go_wp2_with fail
  refine (HV1.out _).mono ?_
  rintro e w0 ⟨rfl, hb0⟩
  obtain ⟨c0, c1, c2, c3, c4, c5, e0, e1, e2, e3, e4, e5, hbw, hzw⟩ := init3 hb0
  have f2 : w.heap.size + 1 + 1 < w0.heap.size := by omega
  go_wp2_with fail
  refine bodyPost_ret (v := .tuple #[.agg #[.int .i64 0, .int .i64 0], .int .i64 1]) (by simp [results, Tryd.results31, go_sem, *]) rfl ⟨rfl, ?_⟩
  clear hb0
  repeat (first | exact Below.refl _ _ | assumption | (refine Below.alloc ?_ (by (try simp) <;> omega) _) | (refine Below.setCell ?_ (by (try simp) <;> omega) _) | (refine Below.drew ?_) | (refine below_drewN _ ?_))
set_option maxHeartbeats 1000000 in
theorem mul_bad2 (n1 d1 n2 d2 : Int) (a0 : -9223372036854775808 ≤ n1) (a1 : n1 ≤ 9223372036854775807) (a2 : -9223372036854775808 ≤ d1) (a3 : d1 ≤ 9223372036854775807) (b0 : -9223372036854775808 ≤ n2) (b1 : n2 ≤ 9223372036854775807) (b2 : -9223372036854775808 ≤ d2) (b3 : d2 ≤ 9223372036854775807) (hv1 : validB n1 d1 = true) (hv2 : validB n2 d2 = false) (w : World) :
    Calls Tryd.prog 31 #[.agg #[.int .i64 n1, .int .i64 d1], .agg #[.int .i64 n2, .int .i64 d2]] w fun e w' =>
      e = .returned (.tuple #[.agg #[.int .i64 0, .int .i64 0], .int .i64 1]) ∧ Below w.heap.size w w' := by
  have V1 := valid_any n1 d1 a0 a1 a2 a3
  have V2 := valid_any n2 d2 b0 b1 b2 b3
  rw [hv1] at V1
  rw [hv2] at V2
  have HV1 := Lib.hid V1
  have HV2 := Lib.hid V2
  clear V1 V2 hv1 hv2
  go_enter Tryd.func31, Tryd.ntmps31
  go_wp2_with fail
  refine (HV1.out _).mono ?_
  rintro e w0 ⟨rfl, hb0⟩
  obtain ⟨hc0, hf0⟩ := bcell hb0
  have l03 : w.heap.size < w.heap.size + 1 + 1 + 1 := by omega
  go_wp2_with fail
  refine (HV2.out _).mono ?_
  rintro e w1 ⟨rfl, hb1⟩
  obtain ⟨c0, c1, c2, c3, c4, c5, e0, e1, e2, e3, e4, e5, hbw, hzw⟩ := init3 (hb0.trans (hb1.mono hb0.size))
  clear hc0 hf0 l03 hb0 hb1
  have f2 : w.heap.size + 1 + 1 < w1.heap.size := by omega
  go_wp2_with fail
  refine bodyPost_ret (v := .tuple #[.agg #[.int .i64 0, .int .i64 0], .int .i64 1]) (by simp [results, Tryd.results31, go_sem, *]) rfl ⟨rfl, ?_⟩
  repeat (first | exact Below.refl _ _ | assumption | (refine Below.alloc ?_ (by (try simp) <;> omega) _) | (refine Below.setCell ?_ (by (try simp) <;> omega) _) | (refine Below.drew ?_) | (refine below_drewN _ ?_))

theorem mul_any (n1 d1 n2 d2 : Int) (a0 : -9223372036854775808 ≤ n1) (a1 : n1 ≤ 9223372036854775807) (a2 : -9223372036854775808 ≤ d1) (a3 : d1 ≤ 9223372036854775807) (b0 : -9223372036854775808 ≤ n2) (b1 : n2 ≤ 9223372036854775807) (b2 : -9223372036854775808 ≤ d2) (b3 : d2 ≤ 9223372036854775807) (w : World) :
    Calls Tryd.prog 31 #[.agg #[.int .i64 n1, .int .i64 d1], .agg #[.int .i64 n2, .int .i64 d2]] w fun e w' =>
      e = .returned (.tuple #[.agg #[.int .i64 (mulS n1 d1 n2 d2).1, .int .i64 (mulS n1 d1 n2 d2).2.1], .int .i64 (mulS n1 d1 n2 d2).2.2]) ∧ Below w.heap.size w w' := by
  unfold mulS
  by_cases h1 : validB n1 d1 = true
  · by_cases h2 : validB n2 d2 = true
    · rw [h1, h2]; exact mul_valid n1 d1 n2 d2 h1 h2 w
    · rw [Bool.not_eq_true] at h2
      rw [h1, h2]; exact mul_bad2 n1 d1 n2 d2 a0 a1 a2 a3 b0 b1 b2 b3 h1 h2 w
  · rw [Bool.not_eq_true] at h1
    rw [h1]; exact mul_bad1 n1 d1 n2 d2 a0 a1 a2 a3 h1 w
end Go.Proofs.YtlglagihekadhaaDoor
