/- Contracts of bits.OnesCount8, Len8, TrailingZeros8 at this translation (after the library's own templates, Derived.Lib.BitFns). -/
import Derived.Test.YthfoakomapmkeaaDoorProg
import Derived.Test.YthfoakomapmkeaaDoorCrcM
import Derived.Lib.Strings
import Derived.Lib.Slices
import Derived.Lib.Small
import Derived.Lib.Walk
import Derived.Lib.BitFns
namespace Go.Proofs.YthfoakomapmkeaaDoor.Crc

theorem ones_int (x : Int) (w : World) (h0 : 0 ≤ x) (h1 : x ≤ 255) :
    Calls Tryd.prog 58 #[.int .u8 x] w fun e w' => e = .returned (.int .i64 (Lib.onesCount x.toNat)) ∧ w' = w := by
  rw [← Lib.pop8_int x h0 h1]
  go_enter Tryd.func58, Tryd.ntmps58
  go_wp2
  go_ret
  exact ⟨rfl, rfl⟩
theorem ones_any (x : Nat) (w : World) (h1 : x < 256) :
    Calls Tryd.prog 58 #[.int .u8 (x : Int)] w fun e w' => e = .returned (.int .i64 (Lib.onesCount x : Int)) ∧ w' = w :=
  ones_int (x : Int) w (by omega) (by omega)

theorem len8_int (x : Int) (w : World) (h0 : 0 ≤ x) (h1 : x ≤ 255) :
    Calls Tryd.prog 57 #[.int .u8 x] w fun e w' => e = .returned (.int .i64 (Lib.bitLen x.toNat)) ∧ w' = w := by
  rw [← Lib.len8_int x h0 h1]
  go_enter Tryd.func57, Tryd.ntmps57
  go_wp2
  go_ret
  exact ⟨rfl, rfl⟩
theorem len8_any (x : Nat) (w : World) (h1 : x < 256) :
    Calls Tryd.prog 57 #[.int .u8 (x : Int)] w fun e w' => e = .returned (.int .i64 (Lib.bitLen x : Int)) ∧ w' = w :=
  len8_int (x : Int) w (by omega) (by omega)

theorem tz8_int (x : Int) (w : World) (h0 : 0 ≤ x) (h1 : x ≤ 255) :
    Calls Tryd.prog 56 #[.int .u8 x] w fun e w' => e = .returned (.int .i64 (Lib.trailingZeros8 x.toNat)) ∧ w' = w := by
  rw [← Lib.ntz8_int x h0 h1]
  go_enter Tryd.func56, Tryd.ntmps56
  go_wp2
  go_ret
  exact ⟨rfl, rfl⟩
theorem tz8_any (x : Nat) (w : World) (h1 : x < 256) :
    Calls Tryd.prog 56 #[.int .u8 (x : Int)] w fun e w' => e = .returned (.int .i64 (Lib.trailingZeros8 x : Int)) ∧ w' = w :=
  tz8_int (x : Int) w (by omega) (by omega)

theorem ones_le (x : Nat) (h : x < 256) : Lib.onesCount x ≤ 8 := Lib.onesCount_le8 ⟨x, h⟩
theorem blen_le (x : Nat) (h : x < 256) : Lib.bitLen x ≤ 8 := Lib.bitLen_le8 ⟨x, h⟩
theorem tz_le (x : Nat) (h : x < 256) : Lib.trailingZeros8 x ≤ 8 := Lib.trailingZeros8_le8 ⟨x, h⟩
theorem blen_pos : ∀ x < 256, x ≠ 0 → 1 ≤ Lib.bitLen x := by decide +kernel

/-- The comparison of two strings: from place i on, over the bytes' differences: the count, the first place, the last place plus one. -/
def es : Nat → List Nat → Nat → Nat → Nat → Nat × Nat × Nat
  | _, [], c, f, l => (c, f, l)
  | i, d :: ds, c, f, l => if d = 0 then es (i + 1) ds c f l else es (i + 1) ds (c + Lib.onesCount d) (if c = 0 then 8 * i + Lib.trailingZeros8 d else f) (8 * i + Lib.bitLen d)
end Go.Proofs.YthfoakomapmkeaaDoor.Crc
