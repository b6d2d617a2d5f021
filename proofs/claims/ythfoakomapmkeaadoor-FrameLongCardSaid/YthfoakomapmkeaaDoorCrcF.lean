/- The reference's Errors: its contract. -/
import Derived.Test.YthfoakomapmkeaaDoorCrcE
namespace Go.Proofs.YthfoakomapmkeaaDoor.Crc
open Go.RowKit

/-- A fact that no tactic looks into. -/
structure Box (p : Prop) : Prop where
  out : p
theorem box {p : Prop} (h : p) : Box p := ⟨h⟩

end Go.Proofs.YthfoakomapmkeaaDoor.Crc
