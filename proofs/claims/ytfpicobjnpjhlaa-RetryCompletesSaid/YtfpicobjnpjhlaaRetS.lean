/- Bytes in memory out of the way of a zone; eight cells of a block. -/
import Derived.Test.YtfpicobjnpjhlaaRetQ
namespace Go.Proofs.Ytfpicobjnpjhlaa
open Go.RowKit

/-- The symbols of a transmission lie in memory, in no block of E. -/
structure SymIn (E : Nat → Prop) (w : World) (a : Option Addr) (c : Nat) (xs : List Nat) : Prop where
  inn : In w a xs
  blk : xs ≠ [] → ∀ q, a = some q → ¬ E q.block
  nil : a = none → c = 0
theorem SymIn.keep {E : Nat → Prop} {w w' : World} {a : Option Addr} {c : Nat} {xs : List Nat} (h : SymIn E w a c xs) (hk : ∀ k, k < w.heap.size → ¬ E k → w'.heap[k]? = w.heap[k]?) : SymIn E w' a c xs :=
  ⟨in_same h.inn (fun hx q hq => hk _ (by subst hq; exact in_lt h.inn hx) (h.blk hx q hq)), h.blk, h.nil⟩
theorem SymIn.excl {E E' : Nat → Prop} {w : World} {a : Option Addr} {c : Nat} {xs : List Nat} (h : SymIn E w a c xs) (hE : ∀ k, k < w.heap.size → E' k → E k) : SymIn E' w a c xs :=
  ⟨h.inn, fun hx q hq he => h.blk hx q hq (hE _ (by subst hq; exact in_lt h.inn hx) he), h.nil⟩

/-- What a call may have changed: the block g, the row v, and what is new. (structure Steps) -/
structure Steps (g : Nat) (v v' : Value) (w w' : World) : Prop where
  apart : Apart g v.ownBlock w w'
  far : ∀ k, v'.ownBlock = some k → v.ownBlock = some k ∨ w.heap.size ≤ k
theorem Apart.drew {g : Nat} {r : Option Nat} {w w' : World} (x : Apart g r w w') : Apart g r w w'.drew := ⟨x.os, x.tape, x.output, x.size, x.block⟩
theorem Steps.refl (g : Nat) (v : Value) (w : World) : Steps g v v w w := ⟨Apart.refl _ _ _, fun _ h => .inl h⟩
theorem Steps.trans {g : Nat} {v v' v'' : Value} {a b c : World} (x : Steps g v v' a b) (y : Steps g v' v'' b c) : Steps g v v'' a c := by
  refine ⟨⟨y.apart.os.trans x.apart.os, y.apart.tape.trans x.apart.tape, y.apart.output.trans x.apart.output, Nat.le_trans x.apart.size y.apart.size, fun k hk h1 h2 => ?_⟩, fun k hk => ?_⟩
  · refine (y.apart.block k (Nat.lt_of_lt_of_le hk x.apart.size) h1 (fun e => ?_)).trans (x.apart.block k hk h1 h2)
    rcases x.far k e.symm with h | h
    · exact h2 h.symm
    · omega
  · rcases y.far k hk with h | h
    · exact x.far k h
    · exact .inr (Nat.le_trans x.apart.size h)
theorem Steps.ofBelow {g : Nat} {v : Value} {w w' : World} (h : Below w.heap.size w w') : Steps g v v w w' := ⟨Apart.ofBelow h, fun _ h => .inl h⟩
theorem Steps.below {g B : Nat} {v v' : Value} {w0 w w' : World} (x : Steps g v v' w w') (hb : Below B w0 w) (hB : B ≤ w.heap.size) (hg : B ≤ g) (hh : ∀ k, v.ownBlock = some k → B ≤ k) : Below B w0 w' := x.apart.below hb hB hg hh

theorem fr_put {w : World} {g : Nat} (fr : ∀ j, w.frozen? ⟨g, j, none⟩ = false) (i : Nat) (v : Value) : ∀ j, (w.setCell ⟨g, i, none⟩ v).frozen? ⟨g, j, none⟩ = false := fun j => by rw [World.frozen?_setCell]; exact fr j
/-- Eight cells of a block. -/
structure R8 (w : World) (g : Nat) (y0 y1 y2 y3 y4 y5 y6 y7 : Value) : Prop where
  q0 : w.cell? ⟨g, 0, none⟩ = some y0
  q1 : w.cell? ⟨g, 1, none⟩ = some y1
  q2 : w.cell? ⟨g, 2, none⟩ = some y2
  q3 : w.cell? ⟨g, 3, none⟩ = some y3
  q4 : w.cell? ⟨g, 4, none⟩ = some y4
  q5 : w.cell? ⟨g, 5, none⟩ = some y5
  q6 : w.cell? ⟨g, 6, none⟩ = some y6
  q7 : w.cell? ⟨g, 7, none⟩ = some y7
  z : ∀ j, w.frozen? ⟨g, j, none⟩ = false
theorem R8.lt {w : World} {g : Nat} {y0 y1 y2 y3 y4 y5 y6 y7 : Value} (h : R8 w g y0 y1 y2 y3 y4 y5 y6 y7) : g < w.heap.size := World.block_lt_of_cell? w ⟨g, 0, none⟩ h.q0
theorem R8.same {w w' : World} {g : Nat} {y0 y1 y2 y3 y4 y5 y6 y7 : Value} (h : R8 w g y0 y1 y2 y3 y4 y5 y6 y7) (e : w'.heap[g]? = w.heap[g]?) : R8 w' g y0 y1 y2 y3 y4 y5 y6 y7 :=
  ⟨(World.cell?_of_block (a := ⟨g, 0, none⟩) e).trans h.q0, (World.cell?_of_block (a := ⟨g, 1, none⟩) e).trans h.q1, (World.cell?_of_block (a := ⟨g, 2, none⟩) e).trans h.q2, (World.cell?_of_block (a := ⟨g, 3, none⟩) e).trans h.q3, (World.cell?_of_block (a := ⟨g, 4, none⟩) e).trans h.q4, (World.cell?_of_block (a := ⟨g, 5, none⟩) e).trans h.q5, (World.cell?_of_block (a := ⟨g, 6, none⟩) e).trans h.q6, (World.cell?_of_block (a := ⟨g, 7, none⟩) e).trans h.q7, fun j => (World.frozen?_of_block (a := ⟨g, j, none⟩) e).trans (h.z j)⟩
theorem R8.keep {w w' : World} {g : Nat} {y0 y1 y2 y3 y4 y5 y6 y7 : Value} (h : R8 w g y0 y1 y2 y3 y4 y5 y6 y7) (hb : Below w.heap.size w w') : R8 w' g y0 y1 y2 y3 y4 y5 y6 y7 := h.same (hb.block g h.lt)
theorem R8.new (w : World) (y0 y1 y2 y3 y4 y5 y6 y7 : Value) (t : TypeId) (g : Nat) (hg : g = w.heap.size) : R8 (w.alloc (.cells #[y0, y1, y2, y3, y4, y5, y6, y7] t)) g y0 y1 y2 y3 y4 y5 y6 y7 := by
  subst hg
  have q := World.cell?_alloc_mark w #[y0, y1, y2, y3, y4, y5, y6, y7] t (0, 0)
  refine ⟨q 0, q 1, q 2, q 3, q 4, q 5, q 6, q 7, fun j => ?_⟩
  unfold World.frozen?
  have h : (w.alloc (.cells #[y0, y1, y2, y3, y4, y5, y6, y7] t)).heap[w.heap.size]? = some (.cells #[y0, y1, y2, y3, y4, y5, y6, y7] t) := by show (w.heap.push _)[w.heap.size]? = _; simp
  rw [show (⟨w.heap.size, j, none⟩ : Addr).block = w.heap.size from rfl, h]
  simp
theorem R8.set0 {w : World} {g : Nat} {y0 y1 y2 y3 y4 y5 y6 y7 : Value} (h : R8 w g y0 y1 y2 y3 y4 y5 y6 y7) (u : Value) : R8 (w.setCell ⟨g, 0, none⟩ u) g u y1 y2 y3 y4 y5 y6 y7 :=
  ⟨cell_put h.q0 _, cell_else (by decide) h.q1 _, cell_else (by decide) h.q2 _, cell_else (by decide) h.q3 _, cell_else (by decide) h.q4 _, cell_else (by decide) h.q5 _, cell_else (by decide) h.q6 _, cell_else (by decide) h.q7 _, fr_put h.z _ _⟩
theorem R8.set1 {w : World} {g : Nat} {y0 y1 y2 y3 y4 y5 y6 y7 : Value} (h : R8 w g y0 y1 y2 y3 y4 y5 y6 y7) (u : Value) : R8 (w.setCell ⟨g, 1, none⟩ u) g y0 u y2 y3 y4 y5 y6 y7 :=
  ⟨cell_else (by decide) h.q0 _, cell_put h.q1 _, cell_else (by decide) h.q2 _, cell_else (by decide) h.q3 _, cell_else (by decide) h.q4 _, cell_else (by decide) h.q5 _, cell_else (by decide) h.q6 _, cell_else (by decide) h.q7 _, fr_put h.z _ _⟩
theorem R8.set2 {w : World} {g : Nat} {y0 y1 y2 y3 y4 y5 y6 y7 : Value} (h : R8 w g y0 y1 y2 y3 y4 y5 y6 y7) (u : Value) : R8 (w.setCell ⟨g, 2, none⟩ u) g y0 y1 u y3 y4 y5 y6 y7 :=
  ⟨cell_else (by decide) h.q0 _, cell_else (by decide) h.q1 _, cell_put h.q2 _, cell_else (by decide) h.q3 _, cell_else (by decide) h.q4 _, cell_else (by decide) h.q5 _, cell_else (by decide) h.q6 _, cell_else (by decide) h.q7 _, fr_put h.z _ _⟩
theorem R8.set3 {w : World} {g : Nat} {y0 y1 y2 y3 y4 y5 y6 y7 : Value} (h : R8 w g y0 y1 y2 y3 y4 y5 y6 y7) (u : Value) : R8 (w.setCell ⟨g, 3, none⟩ u) g y0 y1 y2 u y4 y5 y6 y7 :=
  ⟨cell_else (by decide) h.q0 _, cell_else (by decide) h.q1 _, cell_else (by decide) h.q2 _, cell_put h.q3 _, cell_else (by decide) h.q4 _, cell_else (by decide) h.q5 _, cell_else (by decide) h.q6 _, cell_else (by decide) h.q7 _, fr_put h.z _ _⟩
theorem R8.set4 {w : World} {g : Nat} {y0 y1 y2 y3 y4 y5 y6 y7 : Value} (h : R8 w g y0 y1 y2 y3 y4 y5 y6 y7) (u : Value) : R8 (w.setCell ⟨g, 4, none⟩ u) g y0 y1 y2 y3 u y5 y6 y7 :=
  ⟨cell_else (by decide) h.q0 _, cell_else (by decide) h.q1 _, cell_else (by decide) h.q2 _, cell_else (by decide) h.q3 _, cell_put h.q4 _, cell_else (by decide) h.q5 _, cell_else (by decide) h.q6 _, cell_else (by decide) h.q7 _, fr_put h.z _ _⟩
theorem R8.set5 {w : World} {g : Nat} {y0 y1 y2 y3 y4 y5 y6 y7 : Value} (h : R8 w g y0 y1 y2 y3 y4 y5 y6 y7) (u : Value) : R8 (w.setCell ⟨g, 5, none⟩ u) g y0 y1 y2 y3 y4 u y6 y7 :=
  ⟨cell_else (by decide) h.q0 _, cell_else (by decide) h.q1 _, cell_else (by decide) h.q2 _, cell_else (by decide) h.q3 _, cell_else (by decide) h.q4 _, cell_put h.q5 _, cell_else (by decide) h.q6 _, cell_else (by decide) h.q7 _, fr_put h.z _ _⟩
theorem R8.set6 {w : World} {g : Nat} {y0 y1 y2 y3 y4 y5 y6 y7 : Value} (h : R8 w g y0 y1 y2 y3 y4 y5 y6 y7) (u : Value) : R8 (w.setCell ⟨g, 6, none⟩ u) g y0 y1 y2 y3 y4 y5 u y7 :=
  ⟨cell_else (by decide) h.q0 _, cell_else (by decide) h.q1 _, cell_else (by decide) h.q2 _, cell_else (by decide) h.q3 _, cell_else (by decide) h.q4 _, cell_else (by decide) h.q5 _, cell_put h.q6 _, cell_else (by decide) h.q7 _, fr_put h.z _ _⟩
theorem R8.set7 {w : World} {g : Nat} {y0 y1 y2 y3 y4 y5 y6 y7 : Value} (h : R8 w g y0 y1 y2 y3 y4 y5 y6 y7) (u : Value) : R8 (w.setCell ⟨g, 7, none⟩ u) g y0 y1 y2 y3 y4 y5 y6 u :=
  ⟨cell_else (by decide) h.q0 _, cell_else (by decide) h.q1 _, cell_else (by decide) h.q2 _, cell_else (by decide) h.q3 _, cell_else (by decide) h.q4 _, cell_else (by decide) h.q5 _, cell_else (by decide) h.q6 _, cell_put h.q7 _, fr_put h.z _ _⟩
end Go.Proofs.Ytfpicobjnpjhlaa
