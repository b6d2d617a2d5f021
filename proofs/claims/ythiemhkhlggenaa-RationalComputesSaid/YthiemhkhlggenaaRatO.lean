/- The contract of Of. -/
import Derived.Test.YthiemhkhlggenaaRatB
namespace Go.Proofs.Ythiemhkhlggenaa
open Go.RowKit Go.Shelf

theorem of_zero (n : Int) (w : World) :
    Calls Try.prog 14 #[.int .i64 n, .int .i64 0] w fun e w' => e = .returned (.tuple #[.agg #[.int .i64 0, .int .i64 0], .int .i64 2]) ∧ Below w.heap.size w w' := by
  go_enter Try.func14, Try.ntmps14
  go_wp2_with fail
  refine bodyPost_ret (v := .tuple #[.agg #[.int .i64 0, .int .i64 0], .int .i64 2]) (by simp [results, Try.results14, go_sem]) rfl ⟨rfl, ?_⟩
  repeat (first | exact Below.refl _ _ | (refine Below.alloc ?_ (by (try simp) <;> omega) _) | (refine Below.setCell ?_ (by (try simp) <;> omega) _))

set_option maxHeartbeats 4000000 in
theorem of_any (n d : Int) (n0 : -9223372036854775808 ≤ n) (n1 : n ≤ 9223372036854775807) (d0 : -9223372036854775808 ≤ d) (d1 : d ≤ 9223372036854775807) (hd : d ≠ 0) (w : World) :
    Calls Try.prog 14 #[.int .i64 n, .int .i64 d] w fun e w' => e = .returned (.tuple #[.agg #[.int .i64 (outR (Rat.divInt n d)).1, .int .i64 (outR (Rat.divInt n d)).2.1], .int .i64 (outR (Rat.divInt n d)).2.2]) ∧ Below w.heap.size w w' := by
  obtain ⟨g, hg⟩ : ∃ g, g = gd (mag n) (mag d) := ⟨_, rfl⟩
  obtain ⟨gp, hS⟩ := of_spec hd hg
  rw [← hS]
  have dp := mag_pos hd
  have hdb : (d == 0) = false := by rw [beq_eq_false_iff_ne]; exact hd
  have m1 := mag_nonneg n
  have m2 : mag n ≤ 9223372036854775808 := mag_le (by omega) (by omega)
  have m3 := mag_nonneg d
  have m4 : mag d ≤ 9223372036854775808 := mag_le (by omega) (by omega)
  have gl : g ≤ mag d := by rw [hg]; exact gd_le_right (by omega)
  have p1 : 0 ≤ mag n / g := Int.ediv_nonneg m1 (by omega)
  have p2 : mag n / g ≤ mag n := Int.ediv_le_self _ m1
  have p3 : 0 ≤ mag d / g := Int.ediv_nonneg m3 (by omega)
  have p4 : mag d / g ≤ mag d := Int.ediv_le_self _ m3
  have hT0 := IntWalk.u64_quo (mag n) g ⟨m1, by omega, gp⟩
  have hB0 := IntWalk.u64_quo (mag d) g ⟨m3, by omega, gp⟩
  have hgs : gd (mag n) (mag d) = g := hg.symm
  have hg0 : (g == 0) = false := by rw [beq_eq_false_iff_ne]; omega
  have HS := Lib.hid hS
  clear hg hS hd
  generalize mag n / g = T at *
  generalize mag d / g = B at *
  have q1 : T / 18446744073709551616 = 0 := by omega
  have q2 : T % 18446744073709551616 = T := by omega
  have q3 : B / 18446744073709551616 = 0 := by omega
  have q4 : B % 18446744073709551616 = B := by omega
  have bd := bounded_any (decide (n < 0) != decide (d < 0)) T B (by omega) (by omega)
  rw [q1, q2, q3, q4] at bd
  have BD := Lib.hid bd
  clear bd q1 q2 q3 q4
  go_enter Try.func14, Try.ntmps14
  go_wp2_with fail
  refine (mag_any n n0 n1 _).mono ?_
  rintro e w' ⟨rfl, rfl⟩
  go_wp2_with fail
  refine (mag_any d d0 d1 _).mono ?_
  rintro e w' ⟨rfl, rfl⟩
  go_wp2_with fail
  refine (divisor_any _ _ m1 (by omega) m3 (by omega) _).mono ?_
  rintro e w' ⟨rfl, k, rfl⟩
  go_wp2_with fail
  go_upto_region 4 with fail
  go_cut [7, 8] (fun t7 t8 wx => ∃ p q : Nat, t7 = .pointer (some ⟨p, 0, none⟩) ∧ t8 = .pointer (some ⟨q, 0, none⟩) ∧ wx.cell? ⟨p, 0, none⟩ = some (.int .u64 0) ∧ wx.cell? ⟨p, 1, none⟩ = some (.int .u64 T) ∧ wx.cell? ⟨q, 0, none⟩ = some (.int .u64 0) ∧ wx.cell? ⟨q, 1, none⟩ = some (.int .u64 B) ∧ wx.cell? ⟨w.heap.size, 0, none⟩ = some (.int .i64 0) ∧ wx.cell? ⟨w.heap.size, 1, none⟩ = some (.int .i64 0) ∧ wx.frozen? ⟨w.heap.size, 0, none⟩ = false ∧ wx.frozen? ⟨w.heap.size, 1, none⟩ = false ∧ Below w.heap.size w wx ∧ w.heap.size < wx.heap.size)
  case first =>
    have hgn : g ≠ 0 := by omega
    clear HS BD
    go_region_held3 (fun w' => w.heap.size ≤ w'.heap.size) (first | (simp; done) | (simp; omega))
      (first | (go_at_call 32; refine (mag_any _ (by omega) (by omega) _).mono ?_; rintro e w' ⟨rfl, rfl⟩))
    all_goals
      go_wp2_with fail
      go_meet
      refine ⟨_, _, rfl, rfl, ?_, ?_, ?_, ?_, ?_, ?_, ?_, ?_, ?_, ?_⟩
      rotate_right 2
      · repeat (first | exact Below.refl _ _ | (refine Below.alloc ?_ (by (try simp) <;> omega) _) | (refine Below.setCell ?_ (by (try simp) <;> omega) _) | (refine Below.drew ?_) | (refine below_drewN _ ?_))
      · simp; omega
      all_goals (simp [go_sem])
  case rest =>
    obtain ⟨p, q, rfl, rfl, k1, k2, k3, k4, k5, k6, k7, k8, hb, hz⟩ := hcut
    go_wp2_with fail
    refine (BD.out _).mono ?_
    rintro e w1 ⟨rfl, hb1⟩
    obtain ⟨hc1, hf1⟩ := bcell hb1
    go_wp2_with fail
    refine bodyPost_ret (v := .tuple #[.agg #[.int .i64 (boundS (decide (n < 0) != decide (d < 0)) T B).1, .int .i64 (boundS (decide (n < 0) != decide (d < 0)) T B).2.1], .int .i64 (boundS (decide (n < 0) != decide (d < 0)) T B).2.2]) (by simp [results, Try.results14, go_sem, *]) rfl ⟨rfl, ?_⟩
    clear hc1 hf1
    have hb1 := hb1.mono (B' := w.heap.size) (by omega)
    repeat (first | exact hb | (refine Below.alloc ?_ (by (try simp) <;> omega) _) | (refine Below.setCell ?_ (by (try simp) <;> omega) _) | (refine Below.trans ?_ hb1))
end Go.Proofs.Ythiemhkhlggenaa
