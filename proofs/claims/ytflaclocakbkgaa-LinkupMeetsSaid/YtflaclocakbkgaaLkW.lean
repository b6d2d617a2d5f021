/- Acts in memory; what holds of a side. -/
import Derived.Test.YtflaclocakbkgaaLkV
import Derived.Test.YtflaclocakbkgaaLkLK
namespace Go.Proofs.Ytflaclocakbkgaa
open Go.RowKit

/-- 3 cells of a block. -/
structure R3 (w : World) (g : Nat) (y0 y1 y2 : Value) : Prop where
  q0 : w.cell? ⟨g, 0, none⟩ = some y0
  q1 : w.cell? ⟨g, 1, none⟩ = some y1
  q2 : w.cell? ⟨g, 2, none⟩ = some y2
  z : ∀ j, w.frozen? ⟨g, j, none⟩ = false
theorem R3.lt {w : World} {g : Nat} {y0 y1 y2 : Value} (h : R3 w g y0 y1 y2) : g < w.heap.size := World.block_lt_of_cell? w ⟨g, 0, none⟩ h.q0
theorem R3.same {w w' : World} {g : Nat} {y0 y1 y2 : Value} (h : R3 w g y0 y1 y2) (e : w'.heap[g]? = w.heap[g]?) : R3 w' g y0 y1 y2 :=
  ⟨(World.cell?_of_block (a := ⟨g, 0, none⟩) e).trans h.q0, (World.cell?_of_block (a := ⟨g, 1, none⟩) e).trans h.q1, (World.cell?_of_block (a := ⟨g, 2, none⟩) e).trans h.q2, fun j => (World.frozen?_of_block (a := ⟨g, j, none⟩) e).trans (h.z j)⟩
theorem R3.keep {w w' : World} {g : Nat} {y0 y1 y2 : Value} (h : R3 w g y0 y1 y2) (hb : Below w.heap.size w w') : R3 w' g y0 y1 y2 := h.same (hb.block g h.lt)
theorem R3.new (w : World) (y0 y1 y2 : Value) (t : TypeId) (g : Nat) (hg : g = w.heap.size) : R3 (w.alloc (.cells #[y0, y1, y2] t)) g y0 y1 y2 := by
  subst hg
  have q := World.cell?_alloc_mark w #[y0, y1, y2] t (0, 0)
  exact ⟨q 0, q 1, q 2, unfrozen w _ t⟩
theorem R3.set0 {w : World} {g : Nat} {y0 y1 y2 : Value} (h : R3 w g y0 y1 y2) (u : Value) : R3 (w.setCell ⟨g, 0, none⟩ u) g u y1 y2 :=
  ⟨cell_put h.q0 _, cell_else (by decide) h.q1 _, cell_else (by decide) h.q2 _, fun j => by rw [World.frozen?_setCell]; exact h.z j⟩
theorem R3.set1 {w : World} {g : Nat} {y0 y1 y2 : Value} (h : R3 w g y0 y1 y2) (u : Value) : R3 (w.setCell ⟨g, 1, none⟩ u) g y0 u y2 :=
  ⟨cell_else (by decide) h.q0 _, cell_put h.q1 _, cell_else (by decide) h.q2 _, fun j => by rw [World.frozen?_setCell]; exact h.z j⟩
theorem R3.set2 {w : World} {g : Nat} {y0 y1 y2 : Value} (h : R3 w g y0 y1 y2) (u : Value) : R3 (w.setCell ⟨g, 2, none⟩ u) g y0 y1 u :=
  ⟨cell_else (by decide) h.q0 _, cell_else (by decide) h.q1 _, cell_put h.q2 _, fun j => by rw [World.frozen?_setCell]; exact h.z j⟩
def put3 (w : World) (g : Nat) (u0 u1 u2 : Value) : World := (World.setCell (World.setCell (World.setCell w ⟨g, 0, none⟩ u0) ⟨g, 1, none⟩ u1) ⟨g, 2, none⟩ u2)
theorem R3.put {w : World} {g : Nat} {y0 y1 y2 : Value} (h : R3 w g y0 y1 y2) (u0 u1 u2 : Value) : R3 (put3 w g u0 u1 u2) g u0 u1 u2 := (R3.set2 (R3.set1 (R3.set0 h u0) u1) u2)
theorem put3_below {B : Nat} {w0 w : World} {g : Nat} (hb : Below B w0 w) (hg : B ≤ g) (u0 u1 u2 : Value) : Below B w0 (put3 w g u0 u1 u2) := (Below.setCell (p := ⟨g, 2, none⟩) (Below.setCell (p := ⟨g, 1, none⟩) (Below.setCell (p := ⟨g, 0, none⟩) hb hg u0) hg u1) hg u2)

/-- What always holds of a side. -/
structure Sv.Q (s : Sv) : Prop where
  ok : s.Ok
  ps : s.peer = 0 ∨ s.peer = s.seen
  st : s.peer = 0 ↔ s.state = 0
theorem Sv.Q.tick {s : Sv} (h : s.Q) : s.tickS.Q ∧ s.tickS.seen = s.seen ∧ s.tickS.mine = s.mine ∧ s.tickS.dead = s.dead := by
  have hs := h.st
  refine ⟨⟨h.ok.tick, ?_, ?_⟩, ?_, ?_, ?_⟩ <;> unfold Sv.tickS Sv.setS <;> split
  · exact h.ps
  · split
    · exact .inl rfl
    · exact h.ps
  · exact h.st
  · split
    · exact ⟨fun _ => rfl, fun _ => rfl⟩
    · exact h.st
  · rfl
  · split <;> rfl
  · rfl
  · split <;> rfl
  · rfl
  · split <;> rfl
theorem Sv.Q.recv {s : Sv} (h : s.Q) (m y : Int) : (s.recvS m y).Q ∧ (s.recvS m y).mine = s.mine ∧ (s.recvS m y).dead = s.dead := by
  have hm : s.recvS m y = s ∨ (1 ≤ m ∧ ∃ st, 1 ≤ st ∧ s.recvS m y = Sv.setS ⟨s.mine, s.dead, s.peer, m.toNat, s.state, s.silent, s.changes⟩ st m.toNat) := by
    unfold Sv.recvS
    split
    · exact .inl rfl
    · refine .inr ⟨by omega, _, ?_, rfl⟩
      split <;> omega
  refine ⟨⟨h.ok.recv m y, ?_, ?_⟩, ?_, ?_⟩ <;> rcases hm with e | ⟨hm, st, hst, e⟩ <;> rw [e]
  · exact h.ps
  · exact .inr rfl
  · exact h.st
  · exact ⟨fun h => by have h : m.toNat = 0 := h; omega, fun h => by have h : st = 0 := h; omega⟩
  · rfl
  · rfl
theorem Sv.Q.new {i d : Nat} (h : 1 ≤ i ∧ i < MAXN ∧ 1 ≤ d ∧ d ≤ 1000) : Sv.Q ⟨i, d, 0, 0, 0, 0, 0⟩ := ⟨⟨h.1, h.2.1, h.2.2.1, h.2.2.2, Nat.le_refl _, by unfold MAXN; show 0 < 1099511627776; omega, Nat.zero_le _, Nat.zero_le _⟩, .inl rfl, ⟨fun _ => rfl, fun _ => rfl⟩⟩
theorem recv_seen {s : Sv} {m : Int} (y : Int) (h1 : 1 ≤ m) (h2 : m < 1099511627776) (h3 : (s.seen : Int) ≤ m) : (s.recvS m y).seen = m.toNat ∧ (s.recvS m y).peer = m.toNat := by
  unfold Sv.recvS
  rw [if_neg (by omega)]
  exact ⟨rfl, rfl⟩
end Go.Proofs.Ytflaclocakbkgaa
