/- Maps of the call's own, keyed by int, with elements of two ints. -/
import Derived.Test.YtflaclocakbkgaaLkA
import Derived.MapKept
namespace Go.Proofs.Ytflaclocakbkgaa
open Go.RowKit Go.MapKept

/-- A map in memory: its entries in the order of their birth. -/
def MapIs (w : World) (b : Nat) (es : List (Int × Int × Int)) : Prop := ∃ arr clock, w.heap[b]? = some (.map arr clock) ∧ arr.toList.map (fun e => (e.key, e.val)) = es.map (fun x => (Value.int .i64 x.1, Value.agg #[.int .i64 x.2.1, .int .i64 x.2.2]))
theorem MapIs.same {w w' : World} {b : Nat} {es : List (Int × Int × Int)} (h : MapIs w b es) (e : w'.heap[b]? = w.heap[b]?) : MapIs w' b es := by
  obtain ⟨arr, c, h1, h2⟩ := h
  exact ⟨arr, c, e.trans h1, h2⟩
theorem MapIs.lt {w : World} {b : Nat} {es : List (Int × Int × Int)} (h : MapIs w b es) : b < w.heap.size := by
  obtain ⟨arr, c, h1, _⟩ := h
  exact (Array.getElem?_eq_some_iff.1 h1).1
theorem MapIs.keep {w w' : World} {b : Nat} {es : List (Int × Int × Int)} (h : MapIs w b es) (hb : Below w.heap.size w w') : MapIs w' b es := h.same (hb.block b h.lt)
theorem MapIs.new (w : World) : MapIs (w.alloc (.map #[] 0)) w.heap.size [] := ⟨#[], 0, (heap_alloc w _).1, rfl⟩
theorem map_below (w : World) : Below w.heap.size w (w.alloc (.map #[] 0)) := (Below.refl _ _).alloc (Nat.le_refl _) _
section
variable {P : Program} {w : World} {T K E : TypeId} {b : Nat} {es : List (Int × Int × Int)}
theorem keys_int {arr : Array MapEntry} (h : arr.toList.map (fun e => (e.key, e.val)) = es.map (fun x => (Value.int .i64 x.1, Value.agg #[.int .i64 x.2.1, .int .i64 x.2.2]))) : ∀ x ∈ arr.toList, ∃ y ∈ es, x.key = .int .i64 y.1 ∧ x.val = .agg #[.int .i64 y.2.1, .int .i64 y.2.2] := by
  intro x hx
  have hm : (x.key, x.val) ∈ arr.toList.map (fun e => (e.key, e.val)) := List.mem_map.2 ⟨x, hx, rfl⟩
  rw [h] at hm
  obtain ⟨y, hy, e⟩ := List.mem_map.1 hm
  injection e with e1 e2
  exact ⟨y, hy, e1.symm, e2.symm⟩
/-- A store of a new key. -/
theorem map_set (hm : P.underlying T = some (.map K E)) (hd : P.underlying K = some (.int .i64)) (x : MapIs w b es) (k m y : Int) (hk : ∀ e ∈ es, e.1 ≠ k) :
    ∃ w', (Instr.mapUpdate T (.map (some b)) (.int .i64 k) (.agg #[.int .i64 m, .int .i64 y])).run P w = .ok () w' ∧ MapIs w' b (es ++ [(k, m, y)]) ∧ Apart b none w w' := by
  obtain ⟨arr, clock, hb, he⟩ := x
  have hks : ∀ z ∈ arr.toList, IsKey (.int .i64) z.key := fun z hz => by
    obtain ⟨q, _, h1, _⟩ := keys_int he z hz
    rw [h1]; trivial
  have hkk : IsKey (.int .i64) (Value.int .i64 k) := by trivial
  rcases findNow_spec hkk arr.toList 0 hks with ⟨h1, _⟩ | ⟨j, e, _, h2, h3⟩
  · refine ⟨{ w with heap := w.heap.setIfInBounds b (.map (arr.push ⟨.int .i64 k, .agg #[.int .i64 m, .int .i64 y], clock⟩) (clock + 1)) }, ?_, ⟨_, _, (heap_set hb).1, by simp [he]⟩, ⟨rfl, rfl, rfl, by simp, fun r' _ hne _ => (heap_set hb).2 r' hne⟩⟩
    simp [Instr.mapUpdate, run_underlying hm, Go.MapKept.run_getObj_map hb, Go.MapKept.run_checkKey hd hkk, Go.MapKept.run_findKey hd h1, Go.MapKept.run_setObj_map _ hb, Result.andThen]
  · exfalso
    obtain ⟨q, hq, h4, _⟩ := keys_int he e (List.mem_of_getElem? h2)
    rw [h3] at h4
    injection h4 with _ h4
    exact hk q hq h4.symm
/-- A look-up. -/
theorem map_get (hm : P.underlying T = some (.map K E)) (hd : P.underlying K = some (.int .i64)) (x : MapIs w b es) (k m y : Int) (hk : (k, m, y) ∈ es) (hu : ∀ e ∈ es, e.1 = k → e = (k, m, y)) :
    (Instr.lookup T (.map (some b)) (.int .i64 k) true).run P w = .ok (.tuple #[.agg #[.int .i64 m, .int .i64 y], .bool true]) w := by
  obtain ⟨arr, clock, hb, he⟩ := x
  have hks : ∀ z ∈ arr.toList, IsKey (.int .i64) z.key := fun z hz => by
    obtain ⟨q, _, h1, _⟩ := keys_int he z hz
    rw [h1]; trivial
  have hkk : IsKey (.int .i64) (Value.int .i64 k) := by trivial
  rcases findNow_spec hkk arr.toList 0 hks with ⟨_, h2⟩ | ⟨j, e, h1, h2, h3⟩
  · exfalso
    have hx : (Value.int .i64 k, Value.agg #[.int .i64 m, .int .i64 y]) ∈ es.map (fun x => (Value.int .i64 x.1, Value.agg #[.int .i64 x.2.1, .int .i64 x.2.2])) := List.mem_map.2 ⟨_, hk, rfl⟩
    rw [← he] at hx
    obtain ⟨z, hz, e⟩ := List.mem_map.1 hx
    injection e with e1 _
    exact h2 z hz e1
  · obtain ⟨q, hq, h4, h5⟩ := keys_int he e (List.mem_of_getElem? h2)
    rw [h3] at h4
    injection h4 with _ h4
    have hqq := hu q hq h4.symm
    subst hqq
    simp [Instr.lookup, run_underlying hm, Go.MapKept.run_getObj_map hb, Go.MapKept.run_checkKey hd hkk, Go.MapKept.run_findKey hd h1, h5, Result.andThen]
theorem map_none (hm : P.underlying T = some (.map K E)) (hd : P.underlying K = some (.int .i64)) {z : Value} (hz : (zeroValue E).run P w = .ok z w) (x : MapIs w b es) (k : Int) (hk : ∀ e ∈ es, e.1 ≠ k) :
    (Instr.lookup T (.map (some b)) (.int .i64 k) true).run P w = .ok (.tuple #[z, .bool false]) w := by
  obtain ⟨arr, clock, hb, he⟩ := x
  have hks : ∀ z ∈ arr.toList, IsKey (.int .i64) z.key := fun z hz => by
    obtain ⟨q, _, h1, _⟩ := keys_int he z hz
    rw [h1]; trivial
  have hkk : IsKey (.int .i64) (Value.int .i64 k) := by trivial
  rcases findNow_spec hkk arr.toList 0 hks with ⟨h1, _⟩ | ⟨j, e, _, h2, h3⟩
  · simp [Instr.lookup, run_underlying hm, Go.MapKept.run_getObj_map hb, Go.MapKept.run_checkKey hd hkk, Go.MapKept.run_findKey hd h1, hz, Result.andThen]
  · exfalso
    obtain ⟨q, hq, h4, _⟩ := keys_int he e (List.mem_of_getElem? h2)
    rw [h3] at h4
    injection h4 with _ h4
    exact hk q hq h4.symm
end
end Go.Proofs.Ytflaclocakbkgaa
