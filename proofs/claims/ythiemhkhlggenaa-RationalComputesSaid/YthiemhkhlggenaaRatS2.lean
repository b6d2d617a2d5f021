/- Contracts of the laws' helpers small and is. -/
import Derived.Test.YthiemhkhlggenaaRatR4
import Derived.Test.YthiemhkhlggenaaRatR5
namespace Go.Proofs.Ythiemhkhlggenaa
open Go.RowKit Go.Shelf

def smallI (n : Int) : Bool := decide (-536870912 ≤ n ∧ n ≤ 536870912)
def smallB (l : List Int) : Bool := l.all smallI
theorem smallB_iff (l : List Int) : smallB l = true ↔ ∀ x ∈ l, -536870912 ≤ x ∧ x ≤ 536870912 := by unfold smallB smallI; simp

set_option maxHeartbeats 1000000 in
theorem small_any (l : List Int) (p c : Nat) (w : World) (hc : ∀ i (h : i < l.length), w.cell? ⟨p, i, none⟩ = some (.int .i64 l[i])) (hl : l.length ≤ 100) :
    Calls Try.prog 15 #[.slice (some ⟨p, 0, none⟩) l.length c] w fun e w' => e = .returned (.bool (smallB l)) ∧ w = w' := by
  have HC := Lib.hid hc
  clear hc
  go_enter Try.func15, Try.ntmps15
  go_wp2_with fail
  go_loop [7] (fun t7 => ∃ k : Nat, k ≤ l.length ∧ t7 = .int .i64 k ∧ Hid (smallB (l.take k) = true)) (fun t7 => l.length - (intOf t7).toNat)
  case atStart => exact ⟨0, Nat.zero_le _, rfl, by rw [List.take_zero]; rfl⟩
  case round =>
    obtain ⟨k, hk, rfl, hs⟩ := hrel
    by_cases hlt : k < l.length
    · have hcell := HC.out k hlt
      obtain ⟨x, hx⟩ : ∃ x, l[k] = x := ⟨_, rfl⟩
      rw [hx] at hcell
      have HX : Hid (l.take (k + 1) = l.take k ++ [x]) := Lib.hid (by rw [List.take_succ_eq_append_getElem hlt, hx])
      have HM : Hid (x ∈ l) := Lib.hid (by rw [← hx]; exact List.getElem_mem hlt)
      clear hx
      by_cases h1 : x < -536870912
      · have E : Hid (smallB l = false) := Lib.hid (by
          rw [← Bool.not_eq_true, smallB_iff]; intro h; have := h x HM.out; omega)
        go_wp2_with fail
        go_ret
        exact ⟨ret_b E.out.symm, rfl⟩
      · by_cases h2 : 536870912 < x
        · have E : Hid (smallB l = false) := Lib.hid (by
            rw [← Bool.not_eq_true, smallB_iff]; intro h; have := h x HM.out; omega)
          go_wp2_with fail
          go_ret
          exact ⟨ret_b E.out.symm, rfl⟩
        · have E : Hid (smallB (l.take (k + 1)) = true) := Lib.hid (by
            rw [HX.out]; unfold smallB; rw [List.all_append]
            have := hs.out; unfold smallB at this; rw [this]; unfold smallI; simp; omega)
          go_wp2_with fail
          go_round
          case rel => exact ⟨k + 1, by omega, by go_num, E⟩
          case measure => simp [intOf]; omega
    · have hk' : k = l.length := by omega
      have E : Hid (smallB l = true) := Lib.hid (by have := hs.out; rwa [hk', List.take_length] at this)
      subst hk'
      go_wp2_with fail
      go_ret
      exact ⟨ret_b E.out.symm, rfl⟩
/-- 'is' at a result that is the reference's. -/
theorem is_any (n d e0 : Int) (w : World) :
    Calls Try.prog 17 #[.agg #[.int .i64 n, .int .i64 d], .int .i64 e0, .agg #[.int .i64 n, .int .i64 d], .int .i64 e0] w fun e w' => e = .returned (.bool true) ∧ Below w.heap.size w w' := by
  go_enter Try.func17, Try.ntmps17
  go_wp2_with fail
  have hds : ∀ x : World, x.drew.heap.size = x.heap.size := fun _ => rfl
  have l03 : w.heap.size < w.heap.size + 1 + 1 := by omega
  go_region_held3 (fun w' => w'.cell? ⟨w.heap.size, 0, none⟩ = some (.int .i64 n) ∧ w'.cell? ⟨w.heap.size, 1, none⟩ = some (.int .i64 d) ∧ w'.cell? ⟨w.heap.size + 1, 0, none⟩ = some (.int .i64 n) ∧ w'.cell? ⟨w.heap.size + 1, 1, none⟩ = some (.int .i64 d)) (first | go_keep | (simp [go_sem]; done))
    (first | (go_at_call 13; refine (plain_any _ _ _).mono ?_; rintro e w2 ⟨rfl, hb2⟩; obtain ⟨hc2, hf2⟩ := bcell hb2))
  all_goals
    go_wp2_with fail
    go_ret
    refine ⟨rfl, ?_⟩
    clear hc2 hf2
    replace hb2 := hb2.mono (B' := w.heap.size) (by (try simp) <;> omega)
    repeat (first | exact Below.refl _ _ | assumption | (refine Below.alloc ?_ (by (try simp) <;> omega) _) | (refine Below.setCell ?_ (by (try simp) <;> omega) _) | (refine Below.drew ?_) | (refine below_drewN _ ?_) | (refine Below.trans ?_ hb2))
end Go.Proofs.Ythiemhkhlggenaa
