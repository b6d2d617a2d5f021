/- Contracts of layer 1's smallest functions. -/
import Derived.Test.YtlglagihekadhaaDoorProg
import Derived.Test.YtlglagihekadhaaDoorRatM
import Derived.Test.YtlglagihekadhaaDoorShelf
import Derived.WalkKit
import Derived.WalkSpells
import Derived.Below
import Derived.Lib.Hide
import Derived.IntWalk
import Derived.Deep.QuietTactic
import Derived.BigQuiet
import Derived.LoopTactic
import Derived.Outline
namespace Go.Proofs.YtlglagihekadhaaDoor
open Go.RowKit Go.Shelf

theorem ret_int {k : IntKind} {a b : Int} (h : a = b) : Ending.returned (.int k a) = .returned (.int k b) := by rw [h]

theorem wrap_u64_neg (n : Int) (h1 : -9223372036854775808 ≤ n) (h2 : n < 0) : IntKind.u64.wrap (-IntKind.u64.wrap n) = -n := by
  simp [IntKind.wrap, IntKind.bits, IntKind.signed]; omega
theorem mag_any (n : Int) (h1 : -9223372036854775808 ≤ n) (h2 : n ≤ 9223372036854775807) (w : World) :
    Calls Tryd.prog 18 #[.int .i64 n] w fun e w' => e = .returned (.int .u64 (mag n)) ∧ w = w' := by
  by_cases h : n < 0
  · have E : Hid (mag n = -n) := Lib.hid (if_pos h)
    go_enter Tryd.func18, Tryd.ntmps18
    go_wp2
    go_ret
    exact ⟨ret_int (by rw [E.out]; exact wrap_u64_neg n h1 h), rfl⟩
  · have E : Hid (mag n = n) := Lib.hid (if_neg h)
    go_enter Tryd.func18, Tryd.ntmps18
    go_wp2
    go_ret
    exact ⟨ret_int (by rw [E.out]), rfl⟩

theorem divisor_any (a b : Int) (a0 : 0 ≤ a) (a1 : a ≤ 18446744073709551615) (b0 : 0 ≤ b) (b1 : b ≤ 18446744073709551615) (w : World) :
    Calls Tryd.prog 17 #[.int .u64 a, .int .u64 b] w fun e w' => e = .returned (.int .u64 (gd a b)) ∧ ∃ n, w' = w.drewN n := by
  go_enter Tryd.func17, Tryd.ntmps17
  go_wp2
  go_loopw [0, 1] (fun t0 t1 wr => ∃ x y : Int, 0 ≤ x ∧ x ≤ 18446744073709551615 ∧ 0 ≤ y ∧ y ≤ 18446744073709551615 ∧ t0 = .int .u64 x ∧ t1 = .int .u64 y ∧ gd x y = gd a b ∧ ∃ n, wr = w.drewN n) (fun _ t1 _ => (intOf t1).toNat)
  case atStart => exact ⟨a, b, a0, a1, b0, b1, rfl, rfl, rfl, 0, rfl⟩
  case round =>
    obtain ⟨x, y, x0, x1, y0, y1, rfl, rfl, hg, n, rfl⟩ := hrel
    have G := Lib.hid hg
    clear hg
    by_cases hy : y = 0
    · subst hy
      go_wp2
      go_ret
      exact ⟨ret_int (by rw [← G.out, gd_zero x x0]), n, rfl⟩
    · have hp : 1 ≤ y := by omega
      have hb : (y != 0) = true := by simp [hy]
      have hr0 : 0 ≤ x % y := Int.emod_nonneg _ hy
      have hr1 : x % y < y := Int.emod_lt_of_pos _ (by omega)
      clear hy
      go_wp2
      go_quiet (fail)
      go_roundw
      case rel => exact ⟨_, _, _, _, _, _, _, _, ⟨y, x % y, y0, y1, hr0, by omega, rfl, rfl, (gd_step x y x0 y0).trans G.out, _, World.drewN_drewN ..⟩, rfl⟩
      case measure => simp [intOf]; omega
end Go.Proofs.YtlglagihekadhaaDoor
