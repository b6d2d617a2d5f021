/- Tools for the laws of layer 1: calls whose results are known, cells that stay, and the algebra of results. -/
import Derived.Test.YtlglagihekadhaaDoorRatH
namespace Go.Proofs.YtlglagihekadhaaDoor
open Go.RowKit Go.Shelf

theorem keepc {W w : World} {a : Addr} {v : Value} (hb : Below W.heap.size W w) (h : W.cell? a = some v) : w.cell? a = some v := (hb.cell (World.block_lt_of_cell? W a h)).trans h
theorem keepa {w : World} {a : Addr} {v : Value} (o : Obj) (h : w.cell? a = some v) : (w.alloc o).cell? a = some v := (World.cell?_alloc_lt _ _ _ (World.block_lt_of_cell? w a h)).trans h

/-- Add returns r1 / r2 and the error r3. -/
def AddTo (a b c d r1 r2 r3 : Int) : Prop := ∀ w : World, Calls Tryd.prog 12 #[.agg #[.int .i64 a, .int .i64 b], .agg #[.int .i64 c, .int .i64 d]] w fun e w' =>
  e = .returned (.tuple #[.agg #[.int .i64 r1, .int .i64 r2], .int .i64 r3]) ∧ Below w.heap.size w w'
def MulTo (a b c d r1 r2 r3 : Int) : Prop := ∀ w : World, Calls Tryd.prog 31 #[.agg #[.int .i64 a, .int .i64 b], .agg #[.int .i64 c, .int .i64 d]] w fun e w' =>
  e = .returned (.tuple #[.agg #[.int .i64 r1, .int .i64 r2], .int .i64 r3]) ∧ Below w.heap.size w w'
def DivTo (a b c d r1 r2 r3 : Int) : Prop := ∀ w : World, Calls Tryd.prog 13 #[.agg #[.int .i64 a, .int .i64 b], .agg #[.int .i64 c, .int .i64 d]] w fun e w' =>
  e = .returned (.tuple #[.agg #[.int .i64 r1, .int .i64 r2], .int .i64 r3]) ∧ Below w.heap.size w w'
def CmpTo (a b c d r : Int) : Prop := ∀ w : World, Calls Tryd.prog 10 #[.agg #[.int .i64 a, .int .i64 b], .agg #[.int .i64 c, .int .i64 d]] w fun e w' =>
  e = .returned (.int .i64 r) ∧ Below w.heap.size w w'
def ValidTo (a b : Int) (r : Bool) : Prop := ∀ w : World, Calls Tryd.prog 6 #[.agg #[.int .i64 a, .int .i64 b]] w fun e w' =>
  e = .returned (.bool r) ∧ Below w.heap.size w w'
/-- An int. -/
def I64 (n : Int) : Prop := -9223372036854775808 ≤ n ∧ n ≤ 9223372036854775807

theorem addTo {a b c d : Int} (h1 : I64 a) (h2 : I64 b) (h3 : I64 c) (h4 : I64 d) {r1 r2 r3 : Int} (h : addS a b c d = (r1, r2, r3)) : AddTo a b c d r1 r2 r3 := fun w => by
  have := add_any a b c d h1.1 h1.2 h2.1 h2.2 h3.1 h3.2 h4.1 h4.2 w
  rw [h] at this; exact this
theorem mulTo {a b c d : Int} (h1 : I64 a) (h2 : I64 b) (h3 : I64 c) (h4 : I64 d) {r1 r2 r3 : Int} (h : mulS a b c d = (r1, r2, r3)) : MulTo a b c d r1 r2 r3 := fun w => by
  have := mul_any a b c d h1.1 h1.2 h2.1 h2.2 h3.1 h3.2 h4.1 h4.2 w
  rw [h] at this; exact this
theorem divTo {a b c d : Int} (h1 : I64 a) (h2 : I64 b) (h3 : I64 c) (h4 : I64 d) {r1 r2 r3 : Int} (h : divS a b c d = (r1, r2, r3)) : DivTo a b c d r1 r2 r3 := fun w => by
  have := div_any a b c d h1.1 h1.2 h2.1 h2.2 h3.1 h3.2 h4.1 h4.2 w
  rw [h] at this; exact this
theorem cmpTo {a b c d : Int} (h1 : I64 a) (h2 : I64 b) (h3 : I64 c) (h4 : I64 d) {r : Int} (h : cmpS a b c d = r) : CmpTo a b c d r := fun w => by
  have := cmp_any a b c d h1.1 h1.2 h2.1 h2.2 h3.1 h3.2 h4.1 h4.2 w
  rw [h] at this; exact this
theorem validTo {a b : Int} (h1 : I64 a) (h2 : I64 b) {r : Bool} (h : validB a b = r) : ValidTo a b r := fun w => by
  have := valid_any a b h1.1 h1.2 h2.1 h2.2 w
  rw [h] at this; exact this

theorem outR_cases (q : Rat) : (outR q = (0, 0, 10)) ∨ (outR q = (q.num, (q.den : Int), 0) ∧ okR q.num (q.den : Int) ∧ toR q.num (q.den : Int) = q) := by
  unfold outR
  split
  · exact .inl rfl
  · rename_i h
    refine .inr ⟨rfl, .inr ⟨?_, ?_, ?_, ?_, ?_⟩, ?_⟩
    · have := q.den_pos; omega
    · omega
    · unfold mag at h; split at h <;> omega
    · unfold mag at h; split at h <;> omega
    · have := q.reduced; unfold gd; rw [Int.gcd, Int.natAbs_natCast]; exact_mod_cast this
    · unfold toR; rw [Int.toNat_natCast, Rat.mkRat_self]
/-- What a result that is no error says. -/
theorem outR_ok {q : Rat} {a b c : Int} (h : outR q = (a, b, c)) (hc : c = 0) : okR a b ∧ toR a b = q ∧ b ≠ 0 := by
  rcases outR_cases q with k | ⟨k, k1, k2⟩
  · rw [k] at h; cases h; cases hc
  · rw [k] at h; cases h; exact ⟨k1, k2, by have := q.den_pos; omega⟩
theorem outR_range {q : Rat} {a b c : Int} (h : outR q = (a, b, c)) : I64 a ∧ I64 b ∧ (c = 0 ∨ c = 10) := by
  rcases outR_cases q with k | ⟨k, k1, k2⟩
  · rw [k] at h; cases h; exact ⟨⟨by decide, by decide⟩, ⟨by decide, by decide⟩, .inr rfl⟩
  · rw [k] at h; cases h
    obtain ⟨i1, i2, i3, i4, _⟩ := okR_num k1
    exact ⟨⟨by omega, by omega⟩, ⟨by omega, by omega⟩, .inl rfl⟩
theorem addS_ok {a b c d : Int} (h1 : okR a b) (h2 : okR c d) : addS a b c d = outR (toR a b + toR c d) := by unfold addS; rw [validB_of h1, validB_of h2]; rfl
theorem mulS_ok {a b c d : Int} (h1 : okR a b) (h2 : okR c d) : mulS a b c d = outR (toR a b * toR c d) := by unfold mulS; rw [validB_of h1, validB_of h2]; rfl
theorem divS_ok {a b c d : Int} (h1 : okR a b) (h2 : okR c d) (hc : c ≠ 0) : divS a b c d = outR (toR a b / toR c d) := by unfold divS; rw [validB_of h1, validB_of h2, Bool.and_self, if_pos rfl, if_neg hc]
theorem addS_range {a b c d x y z : Int} (h : addS a b c d = (x, y, z)) : I64 x ∧ I64 y := by
  unfold addS at h
  split at h
  · exact ⟨(outR_range h).1, (outR_range h).2.1⟩
  · cases h; exact ⟨⟨by decide, by decide⟩, ⟨by decide, by decide⟩⟩
theorem mulS_range {a b c d x y z : Int} (h : mulS a b c d = (x, y, z)) : I64 x ∧ I64 y := by
  unfold mulS at h
  split at h
  · exact ⟨(outR_range h).1, (outR_range h).2.1⟩
  · cases h; exact ⟨⟨by decide, by decide⟩, ⟨by decide, by decide⟩⟩
theorem addS_zero {a b c d x y z : Int} (h : addS a b c d = (x, y, z)) (hz : z = 0) : okR a b ∧ okR c d ∧ okR x y ∧ toR x y = toR a b + toR c d ∧ y ≠ 0 := by
  unfold addS at h
  split at h
  · rename_i hv
    rw [Bool.and_eq_true] at hv
    obtain ⟨k1, k2, k3⟩ := outR_ok h hz
    exact ⟨okR_of hv.1, okR_of hv.2, k1, k2, k3⟩
  · cases h; cases hz
theorem mulS_zero {a b c d x y z : Int} (h : mulS a b c d = (x, y, z)) (hz : z = 0) : okR a b ∧ okR c d ∧ okR x y ∧ toR x y = toR a b * toR c d ∧ y ≠ 0 := by
  unfold mulS at h
  split at h
  · rename_i hv
    rw [Bool.and_eq_true] at hv
    obtain ⟨k1, k2, k3⟩ := outR_ok h hz
    exact ⟨okR_of hv.1, okR_of hv.2, k1, k2, k3⟩
  · cases h; cases hz
theorem addS_comm (a b c d : Int) : addS a b c d = addS c d a b := by unfold addS; rw [Rat.add_comm, Bool.and_comm]
theorem mulS_comm (a b c d : Int) : mulS a b c d = mulS c d a b := by unfold mulS; rw [Rat.mul_comm, Bool.and_comm]
end Go.Proofs.YtlglagihekadhaaDoor
