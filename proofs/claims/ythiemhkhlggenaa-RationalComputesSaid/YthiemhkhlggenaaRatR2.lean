/- Contracts of the reference's Of, Full, Add, Neg, Mul, Div, Cmp, Floor. -/
import Derived.Test.YthiemhkhlggenaaRatR
namespace Go.Proofs.Ythiemhkhlggenaa
open Go.RowKit Go.Shelf

theorem outR_valid (q : Rat) : outR q = if validB q.num (q.den : Int) then (q.num, (q.den : Int), 0) else (0, 0, 10) := by
  rcases outR_cases q with k | ⟨k, k1, _⟩
  · rw [k]
    have : validB q.num (q.den : Int) = false := by
      rw [← Bool.not_eq_true]
      intro h
      have hq : toR q.num (q.den : Int) = q := by unfold toR; rw [Int.toNat_natCast, Rat.mkRat_self]
      obtain ⟨i1, i2, i3, i4, _⟩ := okR_num (okR_of h)
      unfold outR at k
      rw [if_neg (by unfold mag; split <;> omega)] at k
      have k' := congrArg (fun p : Int × Int × Int => p.2.2) k
      simp at k'
    rw [this]; rfl
  · rw [k, validB_of k1]; rfl

theorem of_core {n d g : Int} (hd : 1 ≤ d) (eg : g = gd (mag n) d) : 1 ≤ g ∧ g ≤ d ∧ n.tdiv g = (Rat.divInt n d).num ∧ d.tdiv g = ((Rat.divInt n d).den : Int) := by
  have gp : 1 ≤ g := by rw [eg]; exact gd_pos_right (by omega)
  have gl : g ≤ d := by rw [eg]; exact gd_le_right (by omega)
  have e0 : g = gd n d := by
    rw [eg]; have e := gd_mag n d
    rwa [show mag d = d by unfold mag; rw [if_neg (by omega)]] at e
  have ge : g = ((Int.gcd d n : Nat) : Int) := by rw [e0, Int.gcd_comm]; rfl
  have dn : g ∣ n := by rw [ge]; exact Int.gcd_dvd_right ..
  have dd : g ∣ d := by rw [ge]; exact Int.gcd_dvd_left ..
  have e1 := Rat.num_divInt n d
  have e2 := Rat.den_divInt n d
  rw [← ge, Int.sign_eq_one_of_pos (by omega), Int.one_mul] at e1
  rw [if_neg (by omega)] at e2
  refine ⟨gp, gl, ?_, ?_⟩
  · rw [e1, Int.tdiv_eq_ediv_of_dvd dn]
  · rw [e2, Int.natCast_ediv, ← ge, Int.tdiv_eq_ediv_of_dvd dd, show (d.natAbs : Int) = d by omega]
theorem tdiv_range {n g b : Int} (hg : 1 ≤ g) (h1 : -b ≤ n) (h2 : n ≤ b) : -b ≤ n.tdiv g ∧ n.tdiv g ≤ b := by
  rcases Int.lt_or_le n 0 with h | h
  · have e : n.tdiv g = -((-n) / g) := by rw [← Int.tdiv_eq_ediv_of_nonneg (show 0 ≤ -n by omega), Int.neg_tdiv, Int.neg_neg]
    have h1 : 0 ≤ (-n) / g := Int.ediv_nonneg (by omega) (by omega)
    have h2 : (-n) / g ≤ -n := Int.ediv_le_self _ (by omega)
    omega
  · rw [Int.tdiv_eq_ediv_of_nonneg h]
    have h1 : 0 ≤ n / g := Int.ediv_nonneg h (by omega)
    have h2 : n / g ≤ n := Int.ediv_le_self _ h
    omega

theorem rof_zero (n : Int) (w : World) :
    Calls Try.prog 16 #[.int .i64 n, .int .i64 0] w fun e w' => e = .returned (.tuple #[.agg #[.int .i64 0, .int .i64 0], .int .i64 2]) ∧ Below w.heap.size w w' := by
  go_enter Try.func16, Try.ntmps16
  go_wp2_with fail
  refine bodyPost_ret (v := .tuple #[.agg #[.int .i64 0, .int .i64 0], .int .i64 2]) (by simp [results, Try.results16, go_sem]) rfl ⟨rfl, ?_⟩
  repeat (first | exact Below.refl _ _ | assumption | (refine Below.alloc ?_ (by (try simp) <;> omega) _) | (refine Below.setCell ?_ (by (try simp) <;> omega) _) | (refine Below.drew ?_) | (refine below_drewN _ ?_))

set_option maxHeartbeats 2000000 in
theorem rof_pos (n d : Int) (n0 : -9223372036854775807 ≤ n) (n1 : n ≤ 9223372036854775807) (d0 : 1 ≤ d) (d1 : d ≤ 9223372036854775807) (w : World) :
    Calls Try.prog 16 #[.int .i64 n, .int .i64 d] w fun e w' => e = .returned (.tuple #[.agg #[.int .i64 (outR (Rat.divInt n d)).1, .int .i64 (outR (Rat.divInt n d)).2.1], .int .i64 (outR (Rat.divInt n d)).2.2]) ∧ Below w.heap.size w w' := by
  obtain ⟨g, hg⟩ : ∃ g, g = gd (mag n) d := ⟨_, rfl⟩
  obtain ⟨g0, g1, e1, e2⟩ := of_core (show 1 ≤ d by omega) hg
  obtain ⟨r1, r2⟩ := tdiv_range (b := 9223372036854775807) (n := n) g0 (by omega) (by omega)
  obtain ⟨r3, r4⟩ := tdiv_range (b := 9223372036854775807) (n := d) g0 (by omega) (by omega)
  rw [e1] at r1 r2
  rw [e2] at r3 r4
  have hgs : gd (mag n) d = g := hg.symm
  have ob := outR_valid (Rat.divInt n d)
  have hgn : g ≠ 0 := by omega
  have m1 := mag_nonneg n
  have m2 : mag n ≤ 9223372036854775807 := mag_le (by omega) (by omega)
  have t1 := (IntWalk.i64_quo' n g ⟨by omega, by omega, g0⟩).trans e1
  have t2 := (IntWalk.i64_quo' d g ⟨by omega, by omega, g0⟩).trans e2
  rw [ob]
  have VA := rvalid_any (Rat.divInt n d).num ((Rat.divInt n d).den : Int) (by omega) (by omega) (by omega) (by omega)
  have hdb : (d == 0) = false := by rw [beq_eq_false_iff_ne]; omega
  have hdl : decide (d < 0) = false := decide_eq_false (by omega)
  clear hg e1 e2 ob
  generalize (Rat.divInt n d).num = A at *
  generalize ((Rat.divInt n d).den : Int) = B at *
  have VH := Lib.hid VA
  clear VA
  by_cases hv : validB A B = true
  · rw [hv, if_pos rfl]
    rw [hv] at VH
    clear hv
    go_enter Try.func16, Try.ntmps16
    go_wp2_with fail
    refine (rabs_any _ (by omega) (by omega) _).mono ?_
    rintro e w' ⟨rfl, rfl⟩
    go_wp2_with fail
    refine (rgcd_any _ _ (by omega) (by omega) (by omega) (by omega) _).mono ?_
    rintro e w' ⟨rfl, nq, rfl⟩
    go_wp2_with fail
    go_upto_region 6 with fail
    go_cut [7] (fun t7 wx => ∃ p : Nat, w.heap.size + 1 ≤ p ∧ t7 = .pointer (some ⟨p, 0, none⟩) ∧ wx.cell? ⟨p, 0, none⟩ = some (.int .i64 A) ∧ wx.cell? ⟨p, 1, none⟩ = some (.int .i64 B) ∧ wx.cell? ⟨w.heap.size, 0, none⟩ = some (.int .i64 0) ∧ wx.cell? ⟨w.heap.size, 1, none⟩ = some (.int .i64 0) ∧ wx.frozen? ⟨w.heap.size, 0, none⟩ = false ∧ wx.frozen? ⟨w.heap.size, 1, none⟩ = false ∧ Below w.heap.size w wx ∧ w.heap.size + 1 ≤ wx.heap.size)
    case first =>
      clear VH
      go_region_held3 (fun w' => w.heap.size ≤ w'.heap.size) (first | (simp; done) | (simp; omega)) (fail)
      all_goals
        go_wp2_with fail
        go_meet
        refine ⟨w.heap.size + 1, by omega, rfl, ?_, ?_, ?_, ?_, ?_, ?_, ?_, ?_⟩
        rotate_left 6
        · repeat (first | exact Below.refl _ _ | assumption | (refine Below.alloc ?_ (by (try simp) <;> omega) _) | (refine Below.setCell ?_ (by (try simp) <;> omega) _) | (refine Below.drew ?_) | (refine below_drewN _ ?_))
        · ((try simp) <;> omega)
        all_goals simp [go_sem]
    case rest =>
      obtain ⟨p, hp, rfl, k0, k1, k2, k3, k4, k5, kb, kz⟩ := hcut
      have f0 : w.heap.size < wc.heap.size := by omega
      go_wp2_with fail
      refine (VH.out _).mono ?_
      rintro e w2 ⟨rfl, hb2⟩
      obtain ⟨hc2, hf2⟩ := bcell hb2
      have pl : p < wc.heap.size := block_lt k0
      go_wp2_with fail
      replace hb2 := hb2.mono (B' := w.heap.size) (by omega)
      refine bodyPost_ret (v := .tuple #[.agg #[.int .i64 A, .int .i64 B], .int .i64 0]) (by simp [results, Try.results16, go_sem, *]) rfl ⟨rfl, ?_⟩
      clear hc2 hf2
      repeat (first | exact Below.refl _ _ | assumption | (refine Below.alloc ?_ (by (try simp) <;> omega) _) | (refine Below.setCell ?_ (by (try simp) <;> omega) _) | (refine Below.drew ?_) | (refine below_drewN _ ?_) | (refine Below.trans ?_ hb2))
  · rw [Bool.not_eq_true] at hv
    rw [hv, if_neg (by decide)]
    rw [hv] at VH
    clear hv
    go_enter Try.func16, Try.ntmps16
    go_wp2_with fail
    refine (rabs_any _ (by omega) (by omega) _).mono ?_
    rintro e w' ⟨rfl, rfl⟩
    go_wp2_with fail
    refine (rgcd_any _ _ (by omega) (by omega) (by omega) (by omega) _).mono ?_
    rintro e w' ⟨rfl, nq, rfl⟩
    go_wp2_with fail
    go_upto_region 6 with fail
    go_cut [7] (fun t7 wx => ∃ p : Nat, w.heap.size + 1 ≤ p ∧ t7 = .pointer (some ⟨p, 0, none⟩) ∧ wx.cell? ⟨p, 0, none⟩ = some (.int .i64 A) ∧ wx.cell? ⟨p, 1, none⟩ = some (.int .i64 B) ∧ wx.cell? ⟨w.heap.size, 0, none⟩ = some (.int .i64 0) ∧ wx.cell? ⟨w.heap.size, 1, none⟩ = some (.int .i64 0) ∧ wx.frozen? ⟨w.heap.size, 0, none⟩ = false ∧ wx.frozen? ⟨w.heap.size, 1, none⟩ = false ∧ Below w.heap.size w wx ∧ w.heap.size + 1 ≤ wx.heap.size)
    case first =>
      clear VH
      go_region_held3 (fun w' => w.heap.size ≤ w'.heap.size) (first | (simp; done) | (simp; omega)) (fail)
      all_goals
        go_wp2_with fail
        go_meet
        refine ⟨w.heap.size + 1, by omega, rfl, ?_, ?_, ?_, ?_, ?_, ?_, ?_, ?_⟩
        rotate_left 6
        · repeat (first | exact Below.refl _ _ | assumption | (refine Below.alloc ?_ (by (try simp) <;> omega) _) | (refine Below.setCell ?_ (by (try simp) <;> omega) _) | (refine Below.drew ?_) | (refine below_drewN _ ?_))
        · ((try simp) <;> omega)
        all_goals simp [go_sem]
    case rest =>
      obtain ⟨p, hp, rfl, k0, k1, k2, k3, k4, k5, kb, kz⟩ := hcut
      have f0 : w.heap.size < wc.heap.size := by omega
      go_wp2_with fail
      refine (VH.out _).mono ?_
      rintro e w2 ⟨rfl, hb2⟩
      obtain ⟨hc2, hf2⟩ := bcell hb2
      have pl : p < wc.heap.size := block_lt k0
      go_wp2_with fail
      replace hb2 := hb2.mono (B' := w.heap.size) (by omega)
      refine bodyPost_ret (v := .tuple #[.agg #[.int .i64 0, .int .i64 0], .int .i64 10]) (by simp [results, Try.results16, go_sem, *]) rfl ⟨rfl, ?_⟩
      clear hc2 hf2
      repeat (first | exact Below.refl _ _ | assumption | (refine Below.alloc ?_ (by (try simp) <;> omega) _) | (refine Below.setCell ?_ (by (try simp) <;> omega) _) | (refine Below.drew ?_) | (refine below_drewN _ ?_) | (refine Below.trans ?_ hb2))

set_option maxHeartbeats 2000000 in
theorem rof_neg (n d : Int) (n0 : -9223372036854775807 ≤ n) (n1 : n ≤ 9223372036854775807) (d0 : -9223372036854775807 ≤ d) (d1 : d ≤ -1) (w : World) :
    Calls Try.prog 16 #[.int .i64 n, .int .i64 d] w fun e w' => e = .returned (.tuple #[.agg #[.int .i64 (outR (Rat.divInt n d)).1, .int .i64 (outR (Rat.divInt n d)).2.1], .int .i64 (outR (Rat.divInt n d)).2.2]) ∧ Below w.heap.size w w' := by
  rw [← Rat.neg_divInt_neg]
  obtain ⟨g, hg⟩ : ∃ g, g = gd (mag (-n)) (-d) := ⟨_, rfl⟩
  obtain ⟨g0, g1, e1, e2⟩ := of_core (show 1 ≤ (-d) by omega) hg
  obtain ⟨r1, r2⟩ := tdiv_range (b := 9223372036854775807) (n := (-n)) g0 (by omega) (by omega)
  obtain ⟨r3, r4⟩ := tdiv_range (b := 9223372036854775807) (n := (-d)) g0 (by omega) (by omega)
  rw [e1] at r1 r2
  rw [e2] at r3 r4
  have hgs : gd (mag (-n)) (-d) = g := hg.symm
  have ob := outR_valid (Rat.divInt (-n) (-d))
  have hgn : g ≠ 0 := by omega
  have m1 := mag_nonneg (-n)
  have m2 : mag (-n) ≤ 9223372036854775807 := mag_le (by omega) (by omega)
  have t1 := (IntWalk.i64_quo' (-n) g ⟨by omega, by omega, g0⟩).trans e1
  have t2 := (IntWalk.i64_quo' (-d) g ⟨by omega, by omega, g0⟩).trans e2
  rw [ob]
  have VA := rvalid_any (Rat.divInt (-n) (-d)).num ((Rat.divInt (-n) (-d)).den : Int) (by omega) (by omega) (by omega) (by omega)
  have hdb : (d == 0) = false := by rw [beq_eq_false_iff_ne]; omega
  have hdl : decide (d < 0) = true := decide_eq_true (by omega)
  clear hg e1 e2 ob
  have t1x := t1
  have t2x := t2
  rw [Int.neg_tdiv] at t1x t2x
  generalize (Rat.divInt (-n) (-d)).num = A at *
  generalize ((Rat.divInt (-n) (-d)).den : Int) = B at *
  have VH := Lib.hid VA
  clear VA
  by_cases hv : validB A B = true
  · rw [hv, if_pos rfl]
    rw [hv] at VH
    clear hv
    go_enter Try.func16, Try.ntmps16
    go_wp2_with fail
    refine (rabs_any _ (by omega) (by omega) _).mono ?_
    rintro e w' ⟨rfl, rfl⟩
    go_wp2_with fail
    refine (rgcd_any _ _ (by omega) (by omega) (by omega) (by omega) _).mono ?_
    rintro e w' ⟨rfl, nq, rfl⟩
    go_wp2_with fail
    go_upto_region 6 with fail
    go_cut [7] (fun t7 wx => ∃ p : Nat, w.heap.size + 1 ≤ p ∧ t7 = .pointer (some ⟨p, 0, none⟩) ∧ wx.cell? ⟨p, 0, none⟩ = some (.int .i64 A) ∧ wx.cell? ⟨p, 1, none⟩ = some (.int .i64 B) ∧ wx.cell? ⟨w.heap.size, 0, none⟩ = some (.int .i64 0) ∧ wx.cell? ⟨w.heap.size, 1, none⟩ = some (.int .i64 0) ∧ wx.frozen? ⟨w.heap.size, 0, none⟩ = false ∧ wx.frozen? ⟨w.heap.size, 1, none⟩ = false ∧ Below w.heap.size w wx ∧ w.heap.size + 1 ≤ wx.heap.size)
    case first =>
      clear VH
      go_region_held3 (fun w' => w.heap.size ≤ w'.heap.size) (first | (simp; done) | (simp; omega)) (fail)
      all_goals
        go_wp2_with fail
        go_meet
        refine ⟨w.heap.size + 1, by omega, rfl, ?_, ?_, ?_, ?_, ?_, ?_, ?_, ?_⟩
        rotate_left 6
        · repeat (first | exact Below.refl _ _ | assumption | (refine Below.alloc ?_ (by (try simp) <;> omega) _) | (refine Below.setCell ?_ (by (try simp) <;> omega) _) | (refine Below.drew ?_) | (refine below_drewN _ ?_))
        · ((try simp) <;> omega)
        all_goals simp [go_sem]
    case rest =>
      obtain ⟨p, hp, rfl, k0, k1, k2, k3, k4, k5, kb, kz⟩ := hcut
      have f0 : w.heap.size < wc.heap.size := by omega
      go_wp2_with fail
      refine (VH.out _).mono ?_
      rintro e w2 ⟨rfl, hb2⟩
      obtain ⟨hc2, hf2⟩ := bcell hb2
      have pl : p < wc.heap.size := block_lt k0
      go_wp2_with fail
      replace hb2 := hb2.mono (B' := w.heap.size) (by omega)
      refine bodyPost_ret (v := .tuple #[.agg #[.int .i64 A, .int .i64 B], .int .i64 0]) (by simp [results, Try.results16, go_sem, *]) rfl ⟨rfl, ?_⟩
      clear hc2 hf2
      repeat (first | exact Below.refl _ _ | assumption | (refine Below.alloc ?_ (by (try simp) <;> omega) _) | (refine Below.setCell ?_ (by (try simp) <;> omega) _) | (refine Below.drew ?_) | (refine below_drewN _ ?_) | (refine Below.trans ?_ hb2))
  · rw [Bool.not_eq_true] at hv
    rw [hv, if_neg (by decide)]
    rw [hv] at VH
    clear hv
    go_enter Try.func16, Try.ntmps16
    go_wp2_with fail
    refine (rabs_any _ (by omega) (by omega) _).mono ?_
    rintro e w' ⟨rfl, rfl⟩
    go_wp2_with fail
    refine (rgcd_any _ _ (by omega) (by omega) (by omega) (by omega) _).mono ?_
    rintro e w' ⟨rfl, nq, rfl⟩
    go_wp2_with fail
    go_upto_region 6 with fail
    go_cut [7] (fun t7 wx => ∃ p : Nat, w.heap.size + 1 ≤ p ∧ t7 = .pointer (some ⟨p, 0, none⟩) ∧ wx.cell? ⟨p, 0, none⟩ = some (.int .i64 A) ∧ wx.cell? ⟨p, 1, none⟩ = some (.int .i64 B) ∧ wx.cell? ⟨w.heap.size, 0, none⟩ = some (.int .i64 0) ∧ wx.cell? ⟨w.heap.size, 1, none⟩ = some (.int .i64 0) ∧ wx.frozen? ⟨w.heap.size, 0, none⟩ = false ∧ wx.frozen? ⟨w.heap.size, 1, none⟩ = false ∧ Below w.heap.size w wx ∧ w.heap.size + 1 ≤ wx.heap.size)
    case first =>
      clear VH
      go_region_held3 (fun w' => w.heap.size ≤ w'.heap.size) (first | (simp; done) | (simp; omega)) (fail)
      all_goals
        go_wp2_with fail
        go_meet
        refine ⟨w.heap.size + 1, by omega, rfl, ?_, ?_, ?_, ?_, ?_, ?_, ?_, ?_⟩
        rotate_left 6
        · repeat (first | exact Below.refl _ _ | assumption | (refine Below.alloc ?_ (by (try simp) <;> omega) _) | (refine Below.setCell ?_ (by (try simp) <;> omega) _) | (refine Below.drew ?_) | (refine below_drewN _ ?_))
        · ((try simp) <;> omega)
        all_goals simp [go_sem]
    case rest =>
      obtain ⟨p, hp, rfl, k0, k1, k2, k3, k4, k5, kb, kz⟩ := hcut
      have f0 : w.heap.size < wc.heap.size := by omega
      go_wp2_with fail
      refine (VH.out _).mono ?_
      rintro e w2 ⟨rfl, hb2⟩
      obtain ⟨hc2, hf2⟩ := bcell hb2
      have pl : p < wc.heap.size := block_lt k0
      go_wp2_with fail
      replace hb2 := hb2.mono (B' := w.heap.size) (by omega)
      refine bodyPost_ret (v := .tuple #[.agg #[.int .i64 0, .int .i64 0], .int .i64 10]) (by simp [results, Try.results16, go_sem, *]) rfl ⟨rfl, ?_⟩
      clear hc2 hf2
      repeat (first | exact Below.refl _ _ | assumption | (refine Below.alloc ?_ (by (try simp) <;> omega) _) | (refine Below.setCell ?_ (by (try simp) <;> omega) _) | (refine Below.drew ?_) | (refine below_drewN _ ?_) | (refine Below.trans ?_ hb2))
end Go.Proofs.Ythiemhkhlggenaa
