/- Bytes in memory; worlds that differ in a few blocks. -/
import Derived.Test.YtflaclocakbkgaaProg
import Derived.WalkKit
import Derived.Below
import Derived.LoopTactic
import Derived.RegionTactic
import Derived.Laws.Rows
import Derived.Laws.BitsAllLaws
import Derived.Laws.ShiftsVarLaws
import Derived.Lib.Hide
import Derived.Laws.OwnMore
import Derived.Laws.AppendOwnNone
import Derived.Laws.AppendOwn
import Derived.OwnWalk
import Derived.Deep.QuietTactic
import Derived.BigQuiet
import Derived.Lib.SliceRun
import Derived.Laws.CopyOwn
import Derived.Deep.RegionLaw
import Derived.Deep.RegionWith
import Derived.Deep.RegionHeld3
import Derived.Deep.DeepAppendRoom
import Derived.Maps.AppendAt
import Derived.Laws.BytesArg
import Derived.Laws.MakeOwn
namespace Go.Proofs.Ytflaclocakbkgaa
open Go.RowKit

/-- A value of kind u8 from a natural number. -/
abbrev nU8 (x : Nat) : Value := .int .u8 (x : Int)
/-- A fact that the walk's simplification does not look into. -/
structure Box (p : Prop) : Prop where
  out : p
theorem box {p : Prop} (h : p) : Box p := ⟨h⟩
/-- The bytes xs lie from an address on. -/
def At (w : World) (a : Addr) (xs : List Nat) : Prop := ∀ i : Nat, i < xs.length → w.cell? (a.add i) = some (nU8 (xs.getD i 0))
/-- The bytes xs lie at the slice's address; nothing is said where there is none. -/
def In (w : World) (a : Option Addr) (xs : List Nat) : Prop := xs = [] ∨ ∃ b, a = some b ∧ At w b xs
theorem In.below {w w' : World} {a : Option Addr} {xs : List Nat} (h : In w a xs) (hb : Below w.heap.size w w') : In w' a xs := by
  rcases h with h | ⟨b, rfl, h⟩
  · exact .inl h
  · exact .inr ⟨b, rfl, fun i hi => (hb.cell (World.block_lt_of_cell? w _ (h i hi))).trans (h i hi)⟩
theorem keepc {W w : World} {a : Addr} {v : Value} (hb : Below W.heap.size W w) (h : W.cell? a = some v) : w.cell? a = some v := (hb.cell (World.block_lt_of_cell? W a h)).trans h
theorem keepa {w : World} {a : Addr} {v : Value} (o : Obj) (h : w.cell? a = some v) : (w.alloc o).cell? a = some v := (World.cell?_alloc_lt _ _ _ (World.block_lt_of_cell? w a h)).trans h
theorem add_off (b i : Nat) : (⟨b, 0, none⟩ : Addr).add i = ⟨b, i, none⟩ := by
  unfold Addr.add
  by_cases h : i = 0
  · subst h; simp
  · simp [h]
theorem add_at (g o n : Nat) : (⟨g, o, none⟩ : Addr).add n = ⟨g, o + n, none⟩ := by
  unfold Addr.add
  split
  · next h => subst h; rfl
  · rfl
theorem add_block (a : Addr) (n : Nat) : (a.add n).block = a.block := by unfold Addr.add; split <;> rfl
theorem at_mark (w : World) (xs : List Nat) (t : TypeId) (fr : Nat × Nat) (n : Nat) (hn : n = w.heap.size) : At (w.alloc (.cells (xs.map nU8).toArray t fr)) ⟨n, 0, none⟩ xs := by
  subst hn
  intro i hi
  rw [add_off, World.cell?_alloc_mark]
  simp [hi, List.getD_eq_getElem?_getD]
theorem in_mark (w : World) (xs : List Nat) (t : TypeId) (fr : Nat × Nat) (n : Nat) (hn : n = w.heap.size) : In (w.alloc (.cells (xs.map nU8).toArray t fr)) (some ⟨n, 0, none⟩) xs := .inr ⟨_, rfl, at_mark w xs t fr n hn⟩
theorem getD_lt {xs : List Nat} {b k : Nat} (hx : ∀ x ∈ xs, x < b) (hk : k < xs.length) : xs.getD k 0 < b := by
  rw [List.getD_eq_getElem?_getD, List.getElem?_eq_getElem hk]; exact hx _ (List.getElem_mem hk)
theorem size_alloc {w : World} (N : Nat) (o : Obj) (h : N ≤ w.heap.size) : N ≤ (w.alloc o).heap.size := by
  show _ ≤ (w.heap.push o).size; rw [Array.size_push]; exact Nat.le_succ_of_le h
theorem size_alloc' (w : World) (o : Obj) : (w.alloc o).heap.size = w.heap.size + 1 := by show (w.heap.push _).size = _; rw [Array.size_push]
theorem heap_setCell_other (w : World) (p : Addr) (k : Nat) (v : Value) (h : k ≠ p.block) : (w.setCell p v).heap[k]? = w.heap[k]? := Below.heap_setCell w p v k h

theorem Try.infoU8 : (Try.prog.info? 5).map (fun i => (i.zero, i.size, i.bytes)) = some (some (.int .u8 0), 1, 1) := by kernel_rfl
theorem nU8_one (xs : List Nat) : ∀ v ∈ xs.map nU8, v.oneCell' = true := by
  intro v hv
  obtain ⟨x, _, rfl⟩ := List.mem_map.1 hv
  rfl
/-- A slice of the call's own, n long, that holds xs. -/
abbrev Own (B : Nat) (w : World) (v : Value) (n : Nat) (xs : List Nat) : Prop := w.ownsRow B 5 1 v n (xs.map nU8)
theorem own_in {w : World} {B g m cap : Nat} {zs : List Nat} (hzl : zs.length = m) (h : Own B w (.slice (some ⟨g, 0, none⟩) m cap) m zs) : In w (some ⟨g, 0, none⟩) zs := by
  refine .inr ⟨_, rfl, fun j hj => ?_⟩
  rw [add_off, h.cellAt j (by omega)]
  simp [List.getD_eq_getElem?_getD, List.getElem?_eq_getElem hj]
theorem own_below {w w' : World} {B base : Nat} {v : Value} {n : Nat} {xs : List Value} {w0 : World} {e : TypeId} {sz : Nat} (hown : w.ownsRow base e sz v n xs) (hB : B ≤ base) (hb : Below B w0 w) (hs : B ≤ w.heap.size) (hg : w.grownBy w' v.ownBlock) : Below B w0 w' := by
  refine hb.grown hg hs (fun k hk => ?_)
  rcases hown.2 with ⟨rfl, _⟩ | ⟨g, cap, cur, rfl, hg', _⟩
  · cases hk
  · cases hk
    exact Nat.le_trans hB hg'
theorem row_blk {B n sz : Nat} {e : TypeId} {w : World} {v : Value} {xs : List Value} (x : w.ownsRow B e sz v n xs) : ∀ g, v.ownBlock = some g → B ≤ g ∧ g < w.heap.size := by
  intro g hg
  rcases x.2 with ⟨rfl, _⟩ | ⟨g', cap, cur, rfl, hb, hh, _⟩
  · cases hg
  · cases hg
    exact ⟨hb, (Array.getElem?_eq_some_iff.1 hh).1⟩
theorem row_same {B n sz : Nat} {e : TypeId} {w w' : World} {v : Value} {xs : List Value} (x : w.ownsRow B e sz v n xs) (h : ∀ g, v.ownBlock = some g → w'.heap[g]? = w.heap[g]?) : w'.ownsRow B e sz v n xs := by
  refine ⟨x.1, ?_⟩
  rcases x.2 with h0 | ⟨g', cap, cur, rfl, hb, hh, hr⟩
  · exact .inl h0
  · exact .inr ⟨g', cap, cur, rfl, hb, (h g' rfl).trans hh, hr⟩
theorem row_below {B n sz : Nat} {e : TypeId} {w w' : World} {v : Value} {xs : List Value} (x : w.ownsRow B e sz v n xs) (h : Below w.heap.size w w') : w'.ownsRow B e sz v n xs := row_same x (fun g hg => h.block g (row_blk x g hg).2)
theorem row_low {B B' n sz : Nat} {e : TypeId} {w : World} {v : Value} {xs : List Value} (x : w.ownsRow B e sz v n xs) (h : B' ≤ B) : w.ownsRow B' e sz v n xs := by
  refine ⟨x.1, ?_⟩
  rcases x.2 with h0 | ⟨g', cap, cur, hv, hb, hr⟩
  · exact .inl h0
  · exact .inr ⟨g', cap, cur, hv, Nat.le_trans h hb, hr⟩
theorem row_form {B n sz : Nat} {e : TypeId} {w : World} {v : Value} {xs : List Value} (x : w.ownsRow B e sz v n xs) : (v = .slice none 0 0 ∧ n = 0 ∧ xs = []) ∨ ∃ g cap, v = .slice (some ⟨g, 0, none⟩) n cap ∧ B ≤ g ∧ g < w.heap.size ∧ n ≤ cap ∧ cap ≤ maxLen ∧ ∀ j u, xs[j]? = some u → w.cell? ⟨g, j, none⟩ = some u := by
  have hx := x
  rcases x.2 with ⟨rfl, h0⟩ | ⟨g', cap, cur, rfl, hb, hh, hr⟩
  · refine .inl ⟨rfl, h0, List.eq_nil_of_length_eq_zero (by rw [x.1, h0, Nat.zero_mul])⟩
  · refine .inr ⟨g', cap, rfl, hb, (Array.getElem?_eq_some_iff.1 hh).1, hr.1, hr.2.1, fun j u hu => ?_⟩
    rw [hx.cellAt j (by rw [← hx.1]; exact (List.getElem?_eq_some_iff.1 hu).1)]
    exact hu

theorem in_lt {w : World} {q : Addr} {xs : List Nat} (h : In w (some q) xs) (hx : xs ≠ []) : q.block < w.heap.size := by
  rcases h with h | ⟨b, e, h⟩
  · exact absurd h hx
  · cases e
    have := World.block_lt_of_cell? w _ (h 0 (List.length_pos_iff.2 hx))
    rwa [add_block] at this
theorem in_same {w w' : World} {a : Option Addr} {xs : List Nat} (h : In w a xs) (hk : xs ≠ [] → ∀ q, a = some q → w'.heap[q.block]? = w.heap[q.block]?) : In w' a xs := by
  rcases h with h | ⟨b, rfl, h⟩
  · exact .inl h
  · by_cases hx : xs = []
    · exact .inl hx
    · refine .inr ⟨b, rfl, fun i hi => ?_⟩
      rw [World.cell?_of_block (a := b.add i) (w := w) (by rw [add_block]; exact hk hx b rfl)]
      exact h i hi
theorem in_some {w : World} {a : Option Addr} {xs : List Nat} (h : In w a xs) {k : Nat} (hk : k < xs.length) : ∃ b, a = some b ∧ w.cell? (b.add k) = some (nU8 (xs.getD k 0)) := by
  rcases h with h | ⟨b, rfl, h⟩
  · subst h; simp at hk
  · exact ⟨b, rfl, h k hk⟩
theorem cell_put {w : World} {g i : Nat} {u : Value} (h : w.cell? ⟨g, i, none⟩ = some u) (v : Value) : (w.setCell ⟨g, i, none⟩ v).cell? ⟨g, i, none⟩ = some v := World.cell?_setCell_same _ _ _ h
theorem cell_else {w : World} {g i j : Nat} {u : Value} (hij : i ≠ j) (h : w.cell? ⟨g, j, none⟩ = some u) (v : Value) : (w.setCell ⟨g, i, none⟩ v).cell? ⟨g, j, none⟩ = some u := by
  rw [World.cell?_setCell_other _ _ _ _ (fun e => hij (by injection e))]; exact h
theorem heap_else {w : World} {g i h : Nat} (hgh : g ≠ h) (v : Value) : (w.setCell ⟨g, i, none⟩ v).heap[h]? = w.heap[h]? := heap_setCell_other w _ h v (fun e => hgh e.symm)

/-- All but one block and a row is as it was. -/
structure Apart (g : Nat) (r : Option Nat) (w w' : World) : Prop where
  os : w'.os = w.os
  tape : w'.tape = w.tape
  output : w'.output = w.output
  size : w.heap.size ≤ w'.heap.size
  block : ∀ k, k < w.heap.size → k ≠ g → some k ≠ r → w'.heap[k]? = w.heap[k]?
theorem Apart.refl (g : Nat) (r : Option Nat) (w : World) : Apart g r w w := ⟨rfl, rfl, rfl, Nat.le_refl _, fun _ _ _ _ => rfl⟩
theorem Apart.ofBelow {g : Nat} {r : Option Nat} {w w' : World} (hb : Below w.heap.size w w') : Apart g r w w' := ⟨hb.os, hb.tape, hb.output, hb.size, fun k hk _ _ => hb.block k hk⟩
theorem Apart.ofGrown {g : Nat} {r : Option Nat} {w w' : World} (hb : w.grownBy w' r) : Apart g r w w' := ⟨hb.os, hb.tape, hb.output, hb.size, fun k hk _ h2 => hb.block k hk h2⟩
theorem Apart.trans {g : Nat} {r : Option Nat} {a b c : World} (x : Apart g r a b) (y : Apart g r b c) : Apart g r a c :=
  ⟨y.os.trans x.os, y.tape.trans x.tape, y.output.trans x.output, Nat.le_trans x.size y.size, fun k hk h1 h2 => (y.block k (Nat.lt_of_lt_of_le hk x.size) h1 h2).trans (x.block k hk h1 h2)⟩
theorem Apart.setCell {g : Nat} {r : Option Nat} {w w' : World} (x : Apart g r w w') (j : Nat) (v : Value) : Apart g r w (w'.setCell ⟨g, j, none⟩ v) := by
  have e := (Below.refl g w').setCell (p := ⟨g, j, none⟩) (Nat.le_refl _) v
  refine ⟨e.os.trans x.os, e.tape.trans x.tape, e.output.trans x.output, Nat.le_trans x.size e.size, fun k hk h1 h2 => ?_⟩
  rw [← x.block k hk h1 h2]
  exact Below.heap_setCell w' ⟨g, j, none⟩ v k h1
theorem Apart.below {g B : Nat} {r : Option Nat} {w0 w w' : World} (x : Apart g r w w') (hb : Below B w0 w) (hB : B ≤ w.heap.size) (hg : B ≤ g) (hh : ∀ k, r = some k → B ≤ k) : Below B w0 w' :=
  ⟨x.os.trans hb.os, x.tape.trans hb.tape, x.output.trans hb.output, Nat.le_trans hb.size x.size, fun k hk => (x.block k (by omega) (by omega) (fun e => by have := hh k e.symm; omega)).trans (hb.block k hk)⟩

end Go.Proofs.Ytflaclocakbkgaa
