/- The laws' first call: the chapter's examples hold. -/
import Derived.Test.YthfoakomapmkeaaDoorCrcE
import Derived.Deep.RegionHeld3
import Derived.Lib.SlBytesConst
namespace Go.Proofs.YthfoakomapmkeaaDoor.Crc
open Go.RowKit

theorem keepa {w : World} {a : Addr} {v : Value} (o : Obj) (h : w.cell? a = some v) : (w.alloc o).cell? a = some v := (World.cell?_alloc_lt _ _ _ (World.block_lt_of_cell? w a h)).trans h
theorem add_off (b i : Nat) : (⟨b, 0, none⟩ : Addr).add i = ⟨b, i, none⟩ := by
  unfold Addr.add
  by_cases h : i = 0
  · subst h; simp
  · simp [h]
theorem at_mark (w : World) (xs : List Nat) (t : TypeId) (fr : Nat × Nat) (n : Nat) (hn : n = w.heap.size) : At (w.alloc (.cells (xs.map nU8).toArray t fr)) ⟨n, 0, none⟩ xs := by
  subst hn
  intro i hi
  rw [add_off, World.cell?_alloc_mark]
  simp [hi, List.getD_eq_getElem?_getD]

end Go.Proofs.YthfoakomapmkeaaDoor.Crc
