/- The walk of LinecodeSymbols. -/
import Derived.Test.YthfoakomapmkeaaDoorLinD
namespace Go.Proofs.YthfoakomapmkeaaDoor
open Go.RowKit

/-- What Value and Index answer, case by case. -/
theorem value_cases (s : Nat) : (∃ k : Nat, k < 16 ∧ valueV (idx s) = .tuple #[.int .i64 (k : Int), .bool false, .int .i64 0] ∧ idxI s = (k : Int)) ∨
    (∃ k : Nat, 16 ≤ k ∧ k < 20 ∧ valueV (idx s) = .tuple #[.int .i64 ((k : Int) - 16), .bool true, .int .i64 0] ∧ idxI s = (k : Int)) ∨
    (valueV (idx s) = .tuple #[.int .i64 0, .bool false, .int .i64 3] ∧ idxI s = -1) := by
  unfold idxI valueV
  by_cases h1 : idx s < 16
  · exact .inl ⟨idx s, h1, by rw [if_pos h1], by rw [if_pos (by omega)]⟩
  · by_cases h2 : idx s < 20
    · exact .inr (.inl ⟨idx s, by omega, h2, by rw [if_neg h1, if_pos h2], by rw [if_pos h2]⟩)
    · exact .inr (.inr ⟨by rw [if_neg h1, if_neg h2], by rw [if_neg h2]⟩)

end Go.Proofs.YthfoakomapmkeaaDoor
