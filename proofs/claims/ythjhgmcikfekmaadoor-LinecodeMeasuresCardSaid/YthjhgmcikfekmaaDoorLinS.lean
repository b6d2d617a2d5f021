/- tooGreat and bit: their contracts. -/
import Derived.Test.YthjhgmcikfekmaaDoorLinR
import Derived.Test.YthjhgmcikfekmaaDoorLinM4
namespace Go.Proofs.YthjhgmcikfekmaaDoor
open Go.RowKit

set_option maxHeartbeats 1000000 in
theorem great_any (x : Nat) (r : Bool) (hr : decide ((63 : Int) < (x : Int)) = r) (w : World) :
    Calls Tryd.prog 36 #[nU8 x] w fun e w' => e = .returned (.bool r) ∧ w = w' := by
  go_enter Tryd.func36, Tryd.ntmps36
  go_wp2_with fail
  go_ret
  exact ⟨by rw [← hr]; rfl, rfl⟩

set_option maxHeartbeats 4000000 in
theorem bit_any (a : Option Addr) (n c i : Nat) (xs : List Nat) (hn : xs.length = n) (hx : ∀ x ∈ xs, x < 256) (hbig : n ≤ 1000) (hi : i < 6 * n) (w : World) (hc : In w a xs) :
    Calls Tryd.prog 32 #[.slice a n c, .int .i64 i] w fun e w' => e = .returned (.int .i64 (bt xs i : Nat)) ∧ ∃ t, w' = w.drewN t := by
  obtain ⟨b, rfl, c1⟩ := in_some hc (show i / 6 < xs.length by omega)
  have lx := getD_lt hx (show i / 6 < xs.length by omega)
  have hb : bt xs i = xs.getD (i / 6) 0 / 2 ^ (5 - i % 6) % 2 := rfl
  have HB := box hb
  have PL := fun t => box (Calls.quiet_of_same (P := Tryd.prog) (w := w) (n := t) ((place_any i (by omega) (w.drewN t)).mono fun e w' ⟨h1, h2⟩ => ⟨h1, h2.symm⟩))
  clear hc hx hb
  have q1 : (i : Int).tdiv 6 = ((i / 6 : Nat) : Int) := by rw [Int.tdiv_eq_ediv_of_nonneg (by omega)]; push_cast; rfl
  have q2 : (i : Int) / 6 = ((i / 6 : Nat) : Int) := by omega
  have lq : i / 6 < n := by omega
  generalize xs.getD (i / 6) 0 = x at c1 lx HB
  generalize i / 6 = q at q1 q2 c1 lq
  have lr : 5 - i % 6 < 6 := by omega
  generalize 5 - i % 6 = r at PL HB lr
  have y1 : (x : Int) / 2 ^ r = ((x / 2 ^ r : Nat) : Int) := by push_cast; rfl
  have ly : x / 2 ^ r < 256 := Nat.lt_of_le_of_lt (Nat.div_le_self _ _) lx
  generalize x / 2 ^ r = y at y1 ly HB
  have y2 : bits .and .u8 (y : Int) 1 = ((y % 2 : Nat) : Int) := by
    have := u8_and_nat y 1 ly (by decide)
    rw [show y &&& 1 = y % 2 from Nat.and_two_pow_sub_one_eq_mod y 1] at this
    exact this
  rw [HB.out]
  have lz : y % 2 < 2 := Nat.mod_lt _ (by decide)
  generalize y % 2 = z at y2 lz
  have z0 : (0 : Int) ≤ (q : Int) := by omega
  have z1 : (q : Int) < (n : Int) := by omega
  have z2 : IntKind.i64.wrap (q : Int) = (q : Int) := by rw [IntKind.wrap_i64]; omega
  have z3 : (0 : Int) ≤ (r : Int) := by omega
  go_enter Tryd.func32, Tryd.ntmps32
  go_wp2_with fail
  go_quiet ((go_at_call 30; exact (PL _).out))
  go_wp2_with fail
  go_ret
  exact ⟨rfl, nq, rfl⟩
end Go.Proofs.YthjhgmcikfekmaaDoor
