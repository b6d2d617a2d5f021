/- A giver in memory; its methods. -/
import Derived.Test.YtoolphpideicoaaCreA
namespace Go.Proofs.Ytoolphpideicoaa
open Go.RowKit

/-- A class of a giver: its room, what was received, what was freed. -/
structure Gc where
  r : Nat
  v : Nat
  f : Nat
abbrev LIM : Nat := 1099511627776
def Gc.lim (c : Gc) : Nat := min (c.r + c.f) LIM
structure Gc.Ok (c : Gc) : Prop where
  r1 : 1 ≤ c.r
  r2 : c.r ≤ 64
  fv : c.f ≤ c.v
  vr : c.v ≤ c.r + c.f
  vl : c.v ≤ LIM
/-- What the methods do to a class, and answer. -/
def Gc.recvC (c : Gc) : Gc := if c.lim ≤ c.v then c else ⟨c.r, c.v + 1, c.f⟩
def Gc.recvE (c : Gc) : Int := if c.lim ≤ c.v then 5 else 0
def Gc.freeC (c : Gc) : Gc := if c.v = c.f then c else ⟨c.r, c.v, c.f + 1⟩
def Gc.freeE (c : Gc) : Int := if c.v = c.f then 7 else 0
def Gc.audC (c : Gc) (s : Int) : Gc := if s < c.v ∨ (c.lim : Int) < s then c else ⟨c.r, s.toNat, c.f + (s.toNat - c.v)⟩
def Gc.audN (c : Gc) (s : Int) : Int := if s < c.v ∨ (c.lim : Int) < s then 0 else s - c.v
def Gc.audE (c : Gc) (s : Int) : Int := if s < c.v ∨ (c.lim : Int) < s then 2 else 0
theorem Gc.Ok.recv {c : Gc} (h : c.Ok) : c.recvC.Ok := by
  unfold Gc.recvC
  split
  · exact h
  · next hl =>
    obtain ⟨a, b, d, e, f⟩ := h
    unfold Gc.lim LIM at hl
    exact ⟨a, b, by show c.f ≤ c.v + 1; omega, by show c.v + 1 ≤ c.r + c.f; omega, by show c.v + 1 ≤ LIM; unfold LIM; omega⟩
theorem Gc.Ok.free {c : Gc} (h : c.Ok) : c.freeC.Ok := by
  unfold Gc.freeC
  split
  · exact h
  · obtain ⟨a, b, d, e, f⟩ := h
    exact ⟨a, b, by show c.f + 1 ≤ c.v; omega, by show c.v ≤ c.r + (c.f + 1); omega, f⟩
theorem Gc.Ok.aud {c : Gc} (h : c.Ok) (s : Int) : (c.audC s).Ok := by
  unfold Gc.audC
  split
  · exact h
  · next hs =>
    obtain ⟨a, b, d, e, f⟩ := h
    unfold Gc.lim LIM at hs
    exact ⟨a, b, by show c.f + (s.toNat - c.v) ≤ s.toNat; omega, by show s.toNat ≤ c.r + (c.f + (s.toNat - c.v)); omega, by show s.toNat ≤ LIM; unfold LIM; omega⟩

/-- A class in memory. -/
structure C3 (w : World) (h o : Nat) (c : Gc) : Prop where
  q0 : w.cell? ⟨h, o, none⟩ = some (.int .i64 c.r)
  q1 : w.cell? ⟨h, o + 1, none⟩ = some (.int .i64 c.v)
  q2 : w.cell? ⟨h, o + 2, none⟩ = some (.int .i64 c.f)
  z : ∀ j, w.frozen? ⟨h, j, none⟩ = false
theorem C3.same {w w' : World} {h o : Nat} {c : Gc} (x : C3 w h o c) (e : w'.heap[h]? = w.heap[h]?) : C3 w' h o c :=
  ⟨(World.cell?_of_block (a := ⟨h, o, none⟩) e).trans x.q0, (World.cell?_of_block (a := ⟨h, o + 1, none⟩) e).trans x.q1, (World.cell?_of_block (a := ⟨h, o + 2, none⟩) e).trans x.q2, fun j => (World.frozen?_of_block (a := ⟨h, j, none⟩) e).trans (x.z j)⟩
/-- Of what was there, at most the cells o to o + n of the block h have changed. -/
structure Touch (h o n : Nat) (w w' : World) : Prop where
  apart : Apart h none w w'
  cell : ∀ j, j < o ∨ o + n ≤ j → w'.cell? ⟨h, j, none⟩ = w.cell? ⟨h, j, none⟩
  z : ∀ j, w'.frozen? ⟨h, j, none⟩ = w.frozen? ⟨h, j, none⟩
theorem Touch.ofBelow {h o n : Nat} {w w' : World} (hh : h < w.heap.size) (hb : Below w.heap.size w w') : Touch h o n w w' :=
  ⟨Apart.ofBelow hb, fun j _ => World.cell?_of_block (a := ⟨h, j, none⟩) (hb.block h hh), fun j => World.frozen?_of_block (a := ⟨h, j, none⟩) (hb.block h hh)⟩
theorem Touch.refl (h o n : Nat) (w : World) : Touch h o n w w := ⟨Apart.refl _ _ _, fun _ _ => rfl, fun _ => rfl⟩
theorem Touch.trans {h o n : Nat} {a b c : World} (x : Touch h o n a b) (y : Touch h o n b c) : Touch h o n a c :=
  ⟨x.apart.trans y.apart, fun j hj => (y.cell j hj).trans (x.cell j hj), fun j => (y.z j).trans (x.z j)⟩
theorem Touch.set {h o n : Nat} {w : World} (i : Nat) (hi : o ≤ i ∧ i < o + n) (v : Value) : Touch h o n w (w.setCell ⟨h, i, none⟩ v) :=
  ⟨(Apart.refl _ _ _).setCell i v, fun j hj => World.cell?_setCell_other _ _ _ _ (fun e => by injection e; omega), fun j => World.frozen?_setCell ..⟩
theorem Touch.heap {h o n : Nat} {w w' w'' : World} (x : Touch h o n w w') (e1 : w''.os = w'.os) (e2 : w''.tape = w'.tape) (e3 : w''.output = w'.output) (e : w''.heap = w'.heap) : Touch h o n w w'' :=
  ⟨⟨e1.trans x.apart.os, e2.trans x.apart.tape, e3.trans x.apart.output, by rw [e]; exact x.apart.size, fun k hk a b => by rw [e]; exact x.apart.block k hk a b⟩, fun j hj => (World.cell?_of_block (a := ⟨h, j, none⟩) (by rw [e])).trans (x.cell j hj), fun j => (World.frozen?_of_block (a := ⟨h, j, none⟩) (by rw [e])).trans (x.z j)⟩
/-- A giver in memory. -/
structure GvAt (w : World) (g h : Nat) (l : List Gc) : Prop where
  q : w.cell? ⟨g, 0, none⟩ = some (.slice (some ⟨h, 0, none⟩) l.length l.length)
  ne : g ≠ h
  c3 : ∀ i (hi : i < l.length), C3 w h (i * 3) l[i]
  lt : h < w.heap.size
theorem GvAt.glt {w : World} {g h : Nat} {l : List Gc} (x : GvAt w g h l) : g < w.heap.size := World.block_lt_of_cell? w ⟨g, 0, none⟩ x.q
theorem GvAt.same {w w' : World} {g h : Nat} {l : List Gc} (x : GvAt w g h l) (hs : w.heap.size ≤ w'.heap.size) (e1 : w'.heap[g]? = w.heap[g]?) (e2 : w'.heap[h]? = w.heap[h]?) : GvAt w' g h l :=
  ⟨(World.cell?_of_block (a := ⟨g, 0, none⟩) e1).trans x.q, x.ne, fun i hi => (x.c3 i hi).same e2, Nat.lt_of_lt_of_le x.lt hs⟩
theorem GvAt.keep {w w' : World} {g h : Nat} {l : List Gc} (x : GvAt w g h l) (hb : Below w.heap.size w w') : GvAt w' g h l := x.same hb.size (hb.block g x.glt) (hb.block h x.lt)
theorem GvAt.apart {w w' : World} {g h k : Nat} {l : List Gc} (x : GvAt w g h l) (a : Apart k none w w') (h1 : g ≠ k) (h2 : h ≠ k) : GvAt w' g h l := x.same a.size (a.block g x.glt h1 (by simp)) (a.block h x.lt h2 (by simp))
theorem GvAt.touch {w w' : World} {g h : Nat} {l : List Gc} (x : GvAt w g h l) {k : Nat} {c : Gc} (t : Touch h (k * 3) 3 w w') (x' : C3 w' h (k * 3) c) : GvAt w' g h (l.set k c) := by
  refine ⟨?_, x.ne, fun i hi => ?_, Nat.lt_of_lt_of_le x.lt t.apart.size⟩
  · rw [World.cell?_of_block (a := ⟨g, 0, none⟩) (t.apart.block g x.glt x.ne (by simp)), List.length_set]; exact x.q
  · have hi' : i < l.length := by simpa using hi
    by_cases h : i = k
    · subst h; rw [List.getElem_set_self]; exact x'
    · rw [List.getElem_set_ne (fun e => h e.symm)]
      have y := x.c3 i hi'
      exact ⟨(t.cell _ (by omega)).trans y.q0, (t.cell _ (by omega)).trans y.q1, (t.cell _ (by omega)).trans y.q2, fun j => (t.z j).trans (y.z j)⟩

set_option maxHeartbeats 1000000 in
theorem limit_one (h o : Nat) (c : Gc) (w : World) (x : C3 w h o c) (ok : c.Ok) :
    Calls Try.prog 33 #[.pointer (some ⟨h, o, none⟩)] w fun e w' => e = .returned (.int .i64 (c.lim : Int)) ∧ ∃ n, w' = w.drewN n := by
  obtain ⟨q0, q1, q2, z⟩ := x
  obtain ⟨a1, a2, a3, a4, a5⟩ := ok
  have hm : ((c.lim : Nat) : Int) = min ((c.r : Int) + (c.f : Int)) 1099511627776 := by unfold Gc.lim LIM; omega
  rw [hm]
  unfold LIM at a5
  clear hm
  go_enter Try.func33, Try.ntmps33
  go_wp2_with fail
  go_quiet (fail)
  go_wp2_with fail
  all_goals
    go_ret
    refine ⟨?_, _, rfl⟩
    show Ending.returned (Value.int .i64 _) = Ending.returned (Value.int .i64 _)
    congr 2
    omega
set_option maxHeartbeats 1000000 in
theorem held_one (h o : Nat) (c : Gc) (w : World) (x : C3 w h o c) (ok : c.Ok) :
    Calls Try.prog 35 #[.pointer (some ⟨h, o, none⟩)] w fun e w' => e = .returned (.int .i64 ((c.v : Int) - (c.f : Int))) ∧ ∃ n, w' = w.drewN n := by
  obtain ⟨q0, q1, q2, z⟩ := x
  obtain ⟨a1, a2, a3, a4, a5⟩ := ok
  unfold LIM at a5
  go_enter Try.func35, Try.ntmps35
  go_wp2_with fail
  go_quiet (fail)
  go_wp2_with fail
  go_ret
  exact ⟨rfl, _, rfl⟩
end Go.Proofs.Ytoolphpideicoaa
