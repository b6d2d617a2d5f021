/- The reference's Push: its contracts where no packet ends. -/
import Derived.Test.YthfoakomapmkeaaDoorMrC
import Derived.Laws.IdiomCopy
namespace Go.Proofs.YthfoakomapmkeaaDoor
open Go.RowKit

/-- A scanner as a value. -/
abbrev scV (i : Bool) (a : Option Addr) (l cap : Nat) (bad : Nat) : Value := .agg #[.bool i, .slice a l cap, .int .i64 bad]
/-- Its cells. -/
abbrev scC (i : Bool) (a : Option Addr) (l cap : Nat) (bad : Nat) : Array Value := #[.bool i, .slice a l cap, .int .i64 bad]

theorem frozen_new (w : World) (cs : Array Value) (t : TypeId) (j : Nat) : (w.alloc (.cells cs t)).frozen? ⟨w.heap.size, j, none⟩ = false := by
  unfold World.frozen?
  have h : (w.alloc (.cells cs t)).heap[w.heap.size]? = some (.cells cs t) := by show (w.heap.push _)[w.heap.size]? = _; simp
  rw [show (⟨w.heap.size, j, none⟩ : Addr).block = w.heap.size from rfl, h]
  simp
/-- The world behind Push's three first cells: what lies in them. -/
structure PAt (w : World) (i : Bool) (a : Option Addr) (l cap bad : Nat) (w3 : World) : Prop where
  s0 : w3.cell? ⟨w.heap.size, 0, none⟩ = some (.bool i)
  s1 : w3.cell? ⟨w.heap.size, 1, none⟩ = some (.slice a l cap)
  s2 : w3.cell? ⟨w.heap.size, 2, none⟩ = some (.int .i64 bad)
  r0 : w3.cell? ⟨w.heap.size + 1, 0, none⟩ = some (.bool false)
  r1 : w3.cell? ⟨w.heap.size + 1, 1, none⟩ = some (.slice none 0 0)
  r2 : w3.cell? ⟨w.heap.size + 1, 2, none⟩ = some (.int .i64 0)
  q0 : w3.cell? ⟨w.heap.size + 1 + 1, 0, none⟩ = some (nU8 0)
  q1 : w3.cell? ⟨w.heap.size + 1 + 1, 1, none⟩ = some (.int .i64 0)
  q2 : w3.cell? ⟨w.heap.size + 1 + 1, 2, none⟩ = some (.int .i64 0)
  q3 : w3.cell? ⟨w.heap.size + 1 + 1, 3, none⟩ = some (.int .i64 0)
  q4 : w3.cell? ⟨w.heap.size + 1 + 1, 4, none⟩ = some (.slice none 0 0)
  below : Below w.heap.size w w3
  zs : ∀ j, w3.frozen? ⟨w.heap.size, j, none⟩ = false
  zr : ∀ j, w3.frozen? ⟨w.heap.size + 1, j, none⟩ = false
  zq : ∀ j, w3.frozen? ⟨w.heap.size + 1 + 1, j, none⟩ = false
  size : w.heap.size + 3 ≤ w3.heap.size

theorem PAt.keep {w w3 w4 : World} {i : Bool} {a : Option Addr} {l cap bad : Nat} (h : PAt w i a l cap bad w3) (hb : Below w3.heap.size w3 w4) : PAt w i a l cap bad w4 :=
  ⟨keepc hb h.s0, keepc hb h.s1, keepc hb h.s2, keepc hb h.r0, keepc hb h.r1, keepc hb h.r2, keepc hb h.q0, keepc hb h.q1, keepc hb h.q2, keepc hb h.q3, keepc hb h.q4, h.below.trans (hb.mono h.below.size),
   fun j => by rw [hb.frozen (p := ⟨w.heap.size, j, none⟩) (by show w.heap.size < _; have := h.size; omega)]; exact h.zs j,
   fun j => by rw [hb.frozen (p := ⟨w.heap.size + 1, j, none⟩) (by show w.heap.size + 1 < _; have := h.size; omega)]; exact h.zr j,
   fun j => by rw [hb.frozen (p := ⟨w.heap.size + 1 + 1, j, none⟩) (by show w.heap.size + 1 + 1 < _; have := h.size; omega)]; exact h.zq j,
   Nat.le_trans h.size hb.size⟩

set_option maxRecDepth 100000 in
theorem pat_start (w : World) (i : Bool) (a : Option Addr) (l cap bad : Nat) :
    PAt w i a l cap bad (((w.alloc (.cells (scC i a l cap bad) 43)).alloc (.cells (scC false none 0 0 0) 43)).alloc (.cells (pkC 0 0 0 0 none 0 0) 24)) := by
  have f0 := World.cell?_alloc_mark w (scC i a l cap bad) 43 (0, 0) 0
  have f1 := World.cell?_alloc_mark w (scC i a l cap bad) 43 (0, 0) 1
  have f2 := World.cell?_alloc_mark w (scC i a l cap bad) 43 (0, 0) 2
  have kb : Below w.heap.size w (w.alloc (.cells (scC i a l cap bad) 43)) := (Below.refl _ _).alloc (Nat.le_refl _) _
  have ks : (w.alloc (.cells (scC i a l cap bad) 43)).heap.size = w.heap.size + 1 := by show (w.heap.push _).size = _; rw [Array.size_push]
  have zs := fun j => frozen_new w (scC i a l cap bad) 43 j
  generalize w.alloc (.cells (scC i a l cap bad) 43) = w1 at f0 f1 f2 kb ks zs ⊢
  have g0 := World.cell?_alloc_mark w1 (scC false none 0 0 0) 43 (0, 0) 0
  have g1 := World.cell?_alloc_mark w1 (scC false none 0 0 0) 43 (0, 0) 1
  have g2 := World.cell?_alloc_mark w1 (scC false none 0 0 0) 43 (0, 0) 2
  have kb1 : Below w1.heap.size w1 (w1.alloc (.cells (scC false none 0 0 0) 43)) := (Below.refl _ _).alloc (Nat.le_refl _) _
  have ks1 : (w1.alloc (.cells (scC false none 0 0 0) 43)).heap.size = w1.heap.size + 1 := by show (w1.heap.push _).size = _; rw [Array.size_push]
  have zr := fun j => frozen_new w1 (scC false none 0 0 0) 43 j
  generalize w1.alloc (.cells (scC false none 0 0 0) 43) = w2 at g0 g1 g2 kb1 ks1 zr ⊢
  have p0 := World.cell?_alloc_mark w2 (pkC 0 0 0 0 none 0 0) 24 (0, 0) 0
  have p1 := World.cell?_alloc_mark w2 (pkC 0 0 0 0 none 0 0) 24 (0, 0) 1
  have p2 := World.cell?_alloc_mark w2 (pkC 0 0 0 0 none 0 0) 24 (0, 0) 2
  have p3 := World.cell?_alloc_mark w2 (pkC 0 0 0 0 none 0 0) 24 (0, 0) 3
  have p4 := World.cell?_alloc_mark w2 (pkC 0 0 0 0 none 0 0) 24 (0, 0) 4
  have kb2 : Below w2.heap.size w2 (w2.alloc (.cells (pkC 0 0 0 0 none 0 0) 24)) := (Below.refl _ _).alloc (Nat.le_refl _) _
  have zq := fun j => frozen_new w2 (pkC 0 0 0 0 none 0 0) 24 j
  have ks2 : (w2.alloc (.cells (pkC 0 0 0 0 none 0 0) 24)).heap.size = w2.heap.size + 1 := by show (w2.heap.push _).size = _; rw [Array.size_push]
  generalize w2.alloc (.cells (pkC 0 0 0 0 none 0 0) 24) = w3 at p0 p1 p2 p3 p4 kb2 ks2 zq ⊢
  have kb12 := kb1.trans (kb2.mono kb1.size)
  rw [ks1, ks] at p0 p1 p2 p3 p4
  rw [ks] at g0 g1 g2
  simp only [ks1, ks] at zq zr ks2
  exact ⟨keepc kb12 f0, keepc kb12 f1, keepc kb12 f2, keepc kb2 g0, keepc kb2 g1, keepc kb2 g2, p0, p1, p2, p3, p4, kb.trans (kb12.mono kb.size),
   fun j => by rw [kb12.frozen (p := ⟨w.heap.size, j, none⟩) (by show w.heap.size < _; omega)]; exact zs j,
   fun j => by rw [kb2.frozen (p := ⟨w.heap.size + 1, j, none⟩) (by show w.heap.size + 1 < _; omega)]; exact zr j,
   zq, by omega⟩

/-- Push's results, laid in their cells. -/
abbrev put8 (w : World) (r q : Nat) (x0 x1 x2 y0 y1 y2 y3 y4 : Value) : World :=
  (((((((w.setCell ⟨r, 0, none⟩ x0).setCell ⟨r, 1, none⟩ x1).setCell ⟨r, 2, none⟩ x2).setCell ⟨q, 0, none⟩ y0).setCell ⟨q, 1, none⟩ y1).setCell ⟨q, 2, none⟩ y2).setCell ⟨q, 3, none⟩ y3).setCell ⟨q, 4, none⟩ y4

structure PRes (w w4 : World) (r q : Nat) (x0 x1 x2 y0 y1 y2 y3 y4 : Value) : Prop where
  r0 : w4.cell? ⟨r, 0, none⟩ = some x0
  r1 : w4.cell? ⟨r, 1, none⟩ = some x1
  r2 : w4.cell? ⟨r, 2, none⟩ = some x2
  q0 : w4.cell? ⟨q, 0, none⟩ = some y0
  q1 : w4.cell? ⟨q, 1, none⟩ = some y1
  q2 : w4.cell? ⟨q, 2, none⟩ = some y2
  q3 : w4.cell? ⟨q, 3, none⟩ = some y3
  q4 : w4.cell? ⟨q, 4, none⟩ = some y4
  below : Below w.heap.size w w4

theorem put8_res {w w2 : World} {r q : Nat} (hr : w.heap.size ≤ r) (hq : w.heap.size ≤ q) (hrq : r ≠ q) (x0 x1 x2 y0 y1 y2 y3 y4 : Value) {u0 u1 u2 v0 v1 v2 v3 v4 : Value}
    (a0 : w2.cell? ⟨r, 0, none⟩ = some u0) (a1 : w2.cell? ⟨r, 1, none⟩ = some u1) (a2 : w2.cell? ⟨r, 2, none⟩ = some u2)
    (b0 : w2.cell? ⟨q, 0, none⟩ = some v0) (b1 : w2.cell? ⟨q, 1, none⟩ = some v1) (b2 : w2.cell? ⟨q, 2, none⟩ = some v2) (b3 : w2.cell? ⟨q, 3, none⟩ = some v3) (b4 : w2.cell? ⟨q, 4, none⟩ = some v4)
    (hb : Below w.heap.size w w2) : PRes w (put8 w2 r q x0 x1 x2 y0 y1 y2 y3 y4) r q x0 x1 x2 y0 y1 y2 y3 y4 := by
  have e : put8 w2 r q x0 x1 x2 y0 y1 y2 y3 y4 = (w2.setCells r 0 [x0, x1, x2]).setCells q 0 [y0, y1, y2, y3, y4] := rfl
  have hbb : Below w.heap.size w (put8 w2 r q x0 x1 x2 y0 y1 y2 y3 y4) :=
    (((((((hb.setCell hr _).setCell hr _).setCell hr _).setCell hq _).setCell hq _).setCell hq _).setCell hq _).setCell hq _
  have hR := World.cell?_setCells_in r [x0, x1, x2] 0 w2 (by
    intro j hj
    rcases (by simp at hj; omega : j = 0 ∨ j = 1 ∨ j = 2) with rfl | rfl | rfl
    · rw [show 0 + 0 = 0 from rfl, a0]; rfl
    · rw [show 0 + 1 = 1 from rfl, a1]; rfl
    · rw [show 0 + 2 = 2 from rfl, a2]; rfl)
  have hO : ∀ j, (w2.setCells r 0 [x0, x1, x2]).cell? ⟨q, j, none⟩ = w2.cell? ⟨q, j, none⟩ := fun j => World.cell?_setCells_out r _ 0 w2 _ (fun h => absurd h.symm hrq)
  have hQ := World.cell?_setCells_in q [y0, y1, y2, y3, y4] 0 (w2.setCells r 0 [x0, x1, x2]) (by
    intro j hj
    rw [hO]
    rcases (by simp at hj; omega : j = 0 ∨ j = 1 ∨ j = 2 ∨ j = 3 ∨ j = 4) with rfl | rfl | rfl | rfl | rfl
    · rw [show 0 + 0 = 0 from rfl, b0]; rfl
    · rw [show 0 + 1 = 1 from rfl, b1]; rfl
    · rw [show 0 + 2 = 2 from rfl, b2]; rfl
    · rw [show 0 + 3 = 3 from rfl, b3]; rfl
    · rw [show 0 + 4 = 4 from rfl, b4]; rfl)
  have hS : ∀ j, ((w2.setCells r 0 [x0, x1, x2]).setCells q 0 [y0, y1, y2, y3, y4]).cell? ⟨r, j, none⟩ = (w2.setCells r 0 [x0, x1, x2]).cell? ⟨r, j, none⟩ := fun j => World.cell?_setCells_out q _ 0 _ _ (fun h => absurd h hrq)
  rw [e] at hbb ⊢
  exact ⟨(hS 0).trans (hR 0 (by simp)), (hS 1).trans (hR 1 (by simp)), (hS 2).trans (hR 2 (by simp)), hQ 0 (by simp), hQ 1 (by simp), hQ 2 (by simp), hQ 3 (by simp), hQ 4 (by simp), hbb⟩

set_option maxRecDepth 100000 in
set_option maxHeartbeats 8000000 in
/-- A start symbol. -/
theorem rpush_start (i : Bool) (a : Option Addr) (l cap bad : Nat) (hbad : bad < 100000) (w : World) :
    Calls Tryd.prog 27 #[scV i a l cap bad, nU8 49] w fun e w' => e = .returned (.tuple #[scV true none 0 0 (if i then bad + 1 else bad), pk0, .bool false]) ∧ Below w.heap.size w w' := by
  cases i
  · go_enter Tryd.func27, Tryd.ntmps27
    go_wp2_with fail
    have PA := pat_start w false a l cap bad
    refine (index_any 49 (by omega) _).mono ?_
    rintro e w2 ⟨rfl, hb2⟩
    obtain ⟨s0, s1, s2, r0, r1, r2, q0, q1, q2, q3, q4, kb, zs, zr, zq, kz⟩ := PA.keep hb2
    clear PA hb2
    go_wp2_with fail
    have E := put8_res (w := w) (w2 := w2) (r := w.heap.size + 1) (q := w.heap.size + 1 + 1) (by omega) (by omega) (by omega) (.bool true) (.slice none 0 0) (.int .i64 ((bad : Int))) (nU8 0) (.int .i64 0) (.int .i64 0) (.int .i64 0) (.slice none 0 0) r0 r1 r2 q0 q1 q2 q3 q4 kb
    clear r0 r1 r2 q0 q1 q2 q3 q4 kb s0 s1 s2 zs zr zq kz
    change bodyPost _ _ _ _ _ (put8 w2 (w.heap.size + 1) (w.heap.size + 1 + 1) (.bool true) (.slice none 0 0) (.int .i64 ((bad : Int))) (nU8 0) (.int .i64 0) (.int .i64 0) (.int .i64 0) (.slice none 0 0))
    generalize put8 w2 (w.heap.size + 1) (w.heap.size + 1 + 1) (.bool true) (.slice none 0 0) (.int .i64 ((bad : Int))) (nU8 0) (.int .i64 0) (.int .i64 0) (.int .i64 0) (.slice none 0 0) = w4 at E ⊢
    obtain ⟨r0, r1, r2, q0, q1, q2, q3, q4, kb⟩ := E
    refine bodyPost_ret (v := .tuple #[scV true none 0 0 (bad), pk0, .bool false]) (by simp [results, Tryd.results27, go_sem, r0, r1, r2, q0, q1, q2, q3, q4]) rfl ⟨rfl, kb⟩
  · go_enter Tryd.func27, Tryd.ntmps27
    go_wp2_with fail
    have PA := pat_start w true a l cap bad
    refine (index_any 49 (by omega) _).mono ?_
    rintro e w2 ⟨rfl, hb2⟩
    obtain ⟨s0, s1, s2, r0, r1, r2, q0, q1, q2, q3, q4, kb, zs, zr, zq, kz⟩ := PA.keep hb2
    clear PA hb2
    go_wp2_with fail
    have o := fun (g j : Nat) (h : w.heap.size < g) => World.cell?_setCell_far w2 ⟨w.heap.size, 2, none⟩ ⟨g, j, none⟩ (.int .i64 ((bad : Int) + 1)) (by show w.heap.size ≠ g; omega)
    rw [← o _ _ (by omega)] at r0 r1 r2 q0 q1 q2 q3 q4
    replace kb := kb.setCell (p := ⟨w.heap.size, 2, none⟩) (Nat.le_refl _) (.int .i64 ((bad : Int) + 1))
    clear o
    have E := put8_res (w := w) (w2 := (w2.setCell ⟨w.heap.size, 2, none⟩ (.int .i64 ((bad : Int) + 1)))) (r := w.heap.size + 1) (q := w.heap.size + 1 + 1) (by omega) (by omega) (by omega) (.bool true) (.slice none 0 0) (.int .i64 ((bad : Int) + 1)) (nU8 0) (.int .i64 0) (.int .i64 0) (.int .i64 0) (.slice none 0 0) r0 r1 r2 q0 q1 q2 q3 q4 kb
    clear r0 r1 r2 q0 q1 q2 q3 q4 kb s0 s1 s2 zs zr zq kz
    change bodyPost _ _ _ _ _ (put8 (w2.setCell ⟨w.heap.size, 2, none⟩ (.int .i64 ((bad : Int) + 1))) (w.heap.size + 1) (w.heap.size + 1 + 1) (.bool true) (.slice none 0 0) (.int .i64 ((bad : Int) + 1)) (nU8 0) (.int .i64 0) (.int .i64 0) (.int .i64 0) (.slice none 0 0))
    generalize put8 (w2.setCell ⟨w.heap.size, 2, none⟩ (.int .i64 ((bad : Int) + 1))) (w.heap.size + 1) (w.heap.size + 1 + 1) (.bool true) (.slice none 0 0) (.int .i64 ((bad : Int) + 1)) (nU8 0) (.int .i64 0) (.int .i64 0) (.int .i64 0) (.slice none 0 0) = w4 at E ⊢
    obtain ⟨r0, r1, r2, q0, q1, q2, q3, q4, kb⟩ := E
    refine bodyPost_ret (v := .tuple #[scV true none 0 0 (bad + 1), pk0, .bool false]) (by simp [results, Tryd.results27, go_sem, r0, r1, r2, q0, q1, q2, q3, q4]) rfl ⟨rfl, kb⟩

set_option maxRecDepth 100000 in
set_option maxHeartbeats 8000000 in
/-- Outside, no start symbol. -/
theorem rpush_out (a : Option Addr) (l cap bad s : Nat) (hs : s < 256) (h49 : s ≠ 49) (w : World) :
    Calls Tryd.prog 27 #[scV false a l cap bad, nU8 s] w fun e w' => e = .returned (.tuple #[scV false a l cap bad, pk0, .bool false]) ∧ Below w.heap.size w w' := by
  have d1 : ((s : Int) == 49) = false := by simp; omega
  go_enter Tryd.func27, Tryd.ntmps27
  go_wp2_with fail
  have PA := pat_start w false a l cap bad
  refine (index_any s hs _).mono ?_
  rintro e w2 ⟨rfl, hb2⟩
  obtain ⟨s0, s1, s2, r0, r1, r2, q0, q1, q2, q3, q4, kb, zs, zr, zq, kz⟩ := PA.keep hb2
  clear PA hb2
  go_wp2_with fail
  have E := put8_res (w := w) (w2 := w2) (r := w.heap.size + 1) (q := w.heap.size + 1 + 1) (by omega) (by omega) (by omega) (.bool false) (.slice a l cap) (.int .i64 bad) (nU8 0) (.int .i64 0) (.int .i64 0) (.int .i64 0) (.slice none 0 0) r0 r1 r2 q0 q1 q2 q3 q4 kb
  clear r0 r1 r2 q0 q1 q2 q3 q4 kb s0 s1 s2 zs zr zq kz
  change bodyPost _ _ _ _ _ (put8 w2 (w.heap.size + 1) (w.heap.size + 1 + 1) (.bool false) (.slice a l cap) (.int .i64 bad) (nU8 0) (.int .i64 0) (.int .i64 0) (.int .i64 0) (.slice none 0 0))
  generalize put8 w2 (w.heap.size + 1) (w.heap.size + 1 + 1) (.bool false) (.slice a l cap) (.int .i64 bad) (nU8 0) (.int .i64 0) (.int .i64 0) (.int .i64 0) (.slice none 0 0) = w4 at E ⊢
  obtain ⟨r0, r1, r2, q0, q1, q2, q3, q4, kb⟩ := E
  refine bodyPost_ret (v := .tuple #[scV false a l cap bad, pk0, .bool false]) (by simp [results, Tryd.results27, go_sem, r0, r1, r2, q0, q1, q2, q3, q4]) rfl ⟨rfl, kb⟩
end Go.Proofs.YthfoakomapmkeaaDoor
