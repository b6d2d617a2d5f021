/- RationalOf: Of returns the number in lowest terms, or the error. -/
import Derived.Test.YtokcgfpnokeanaaRatT
namespace Go.Proofs.Ytokcgfpnokeanaa
open Go.RowKit Go.Shelf

/-- What is known of the reference's Of where its numbers are too great: it returns. -/
def ROfSome (n d : Int) : Prop := ∀ w : World, Calls Try.prog 16 #[.int .i64 n, .int .i64 d] w fun e w' => ∃ a b c : Int, e = .returned (.tuple #[.agg #[.int .i64 a, .int .i64 b], .int .i64 c]) ∧ Below w.heap.size w w'

theorem wrap_range (x : Int) : -9223372036854775808 ≤ IntKind.i64.wrap x ∧ IntKind.i64.wrap x ≤ 9223372036854775807 := by rw [IntKind.wrap_i64]; omega
set_option maxHeartbeats 2000000 in
theorem rof_some (n d M : Int) (n0 : -536870912 ≤ n) (n1 : n ≤ 536870912) (hd : decide (d < 0) = true) (hdb : (d == 0) = false) (hM : wrap64 (-d) = M) (M0 : -9223372036854775808 ≤ M) (M1 : M ≤ 9223372036854775807) (Mn : M ≠ 0) : ROfSome n d := by
  intro w
  have m1 := mag_nonneg (-n)
  have m2 : mag (-n) ≤ 536870912 := mag_le (by omega) (by omega)
  have GC := Lib.hid (rgcd_all (mag (-n)) M (by omega) (by omega) M0 M1 Mn)
  clear Mn
  go_enter Try.func16, Try.ntmps16
  go_wp2_with fail
  refine (rabs_any _ (by omega) (by omega) _).mono ?_
  rintro e w' ⟨rfl, rfl⟩
  go_wp2_with fail
  refine (GC.out _).mono ?_
  rintro e w' ⟨g, g0, g1, g2, rfl, nq, rfl⟩
  obtain ⟨A, hA⟩ : ∃ A, IntKind.i64.wrap ((-n).tdiv g) = A := ⟨_, rfl⟩
  obtain ⟨B, hB⟩ : ∃ B, IntKind.i64.wrap (M.tdiv g) = B := ⟨_, rfl⟩
  have rA := wrap_range ((-n).tdiv g)
  have rB := wrap_range (M.tdiv g)
  rw [hA] at rA
  rw [hB] at rB
  have VH := Lib.hid (rvalid_any A B rA.1 rA.2 rB.1 rB.2)
  clear rA rB
  have hA' := hA
  rw [Int.neg_tdiv] at hA'
  go_wp2_with fail
  go_upto_region 6 with fail
  go_cut [7] (fun t7 wx => ∃ p : Nat, w.heap.size + 1 ≤ p ∧ t7 = .pointer (some ⟨p, 0, none⟩) ∧ wx.cell? ⟨p, 0, none⟩ = some (.int .i64 A) ∧ wx.cell? ⟨p, 1, none⟩ = some (.int .i64 B) ∧ wx.cell? ⟨w.heap.size, 0, none⟩ = some (.int .i64 0) ∧ wx.cell? ⟨w.heap.size, 1, none⟩ = some (.int .i64 0) ∧ wx.frozen? ⟨w.heap.size, 0, none⟩ = false ∧ wx.frozen? ⟨w.heap.size, 1, none⟩ = false ∧ Below w.heap.size w wx ∧ w.heap.size + 1 ≤ wx.heap.size)
  case first =>
    clear VH
    go_region_held3 (fun w' => w.heap.size ≤ w'.heap.size) (first | (simp; done) | (simp; omega)) (fail)
    all_goals
      go_wp2_with fail
      go_meet
      refine ⟨w.heap.size + 1, by omega, rfl, ?_, ?_, ?_, ?_, ?_, ?_, ?_, ?_⟩
      rotate_left 6
      · repeat (first | exact Below.refl _ _ | assumption | (refine Below.alloc ?_ (by (try simp) <;> omega) _) | (refine Below.setCell ?_ (by (try simp) <;> omega) _) | (refine Below.drew ?_) | (refine below_drewN _ ?_))
      · ((try simp) <;> omega)
      all_goals simp [go_sem, *]
  case rest =>
    obtain ⟨p, hp, rfl, k0, k1, k2, k3, k4, k5, kb, kz⟩ := hcut
    have f0 : w.heap.size < wc.heap.size := by omega
    go_wp2_with fail
    refine (VH.out _).mono ?_
    rintro e w2 ⟨rfl, hb2⟩
    obtain ⟨hc2, hf2⟩ := bcell hb2
    have pl : p < wc.heap.size := block_lt k0
    replace hb2 := hb2.mono (B' := w.heap.size) (by omega)
    by_cases hv : validB A B = true
    · go_wp2_with fail
      refine bodyPost_ret (v := .tuple #[.agg #[.int .i64 A, .int .i64 B], .int .i64 0]) (by simp [results, Try.results16, go_sem, *]) rfl ⟨A, B, 0, rfl, ?_⟩
      clear hc2 hf2
      repeat (first | exact Below.refl _ _ | assumption | (refine Below.alloc ?_ (by (try simp) <;> omega) _) | (refine Below.setCell ?_ (by (try simp) <;> omega) _) | (refine Below.drew ?_) | (refine below_drewN _ ?_) | (refine Below.trans ?_ hb2))
    · rw [Bool.not_eq_true] at hv
      go_wp2_with fail
      refine bodyPost_ret (v := .tuple #[.agg #[.int .i64 0, .int .i64 0], .int .i64 10]) (by simp [results, Try.results16, go_sem, *]) rfl ⟨0, 0, 10, rfl, ?_⟩
      clear hc2 hf2
      repeat (first | exact Below.refl _ _ | assumption | (refine Below.alloc ?_ (by (try simp) <;> omega) _) | (refine Below.setCell ?_ (by (try simp) <;> omega) _) | (refine Below.drew ?_) | (refine below_drewN _ ?_) | (refine Below.trans ?_ hb2))
end Go.Proofs.Ytokcgfpnokeanaa
