/- Same, and the laws' first call: the chapter's examples hold. -/
import Derived.Test.YthfoakomapmkeaaDoorLinC
namespace Go.Proofs.YthfoakomapmkeaaDoor
open Go.RowKit

theorem list_eq {xs ys : List Nat} (hl : xs.length = ys.length) (h : ∀ j < xs.length, xs.getD j 0 = ys.getD j 0) : xs = ys := by
  apply List.ext_getElem hl
  intro j h1 h2
  have := h j h1
  simpa [List.getD_eq_getElem?_getD, List.getElem?_eq_getElem h1, List.getElem?_eq_getElem h2] using this
theorem in_some {w : World} {a : Option Addr} {xs : List Nat} {k : Nat} (h : In w a xs) (hk : k < xs.length) : ∃ b, a = some b ∧ w.cell? (b.add k) = some (nU8 (xs.getD k 0)) := by
  rcases h with rfl | ⟨b, rfl, hat⟩
  · simp at hk
  · exact ⟨b, rfl, hat k hk⟩
theorem drewN_below (w : World) (m : Nat) : Below w.heap.size w (w.drewN m) := below_drewN m (Below.refl _ _)

theorem drewN_two (w : World) (t n : Nat) : (w.drewN t).drewN n = w.drewN (t + n) := by simp [World.drewN, Nat.add_assoc]

end Go.Proofs.YthfoakomapmkeaaDoor
