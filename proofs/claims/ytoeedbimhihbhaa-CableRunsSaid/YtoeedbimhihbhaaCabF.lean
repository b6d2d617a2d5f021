/- A cable in memory; nextFault. -/
import Derived.Test.YtoeedbimhihbhaaCabE
namespace Go.Proofs.Ytoeedbimhihbhaa
open Go.RowKit

/-- A transmission in flight: its symbols' address and capacity, the symbols, the tick in which it arrives. -/
structure Fl where
  a : Option Addr
  c : Nat
  xs : List Nat
  t : Nat
def flCells (l : List Fl) : List Value := l.flatMap fun f => [.slice f.a f.xs.length f.c, .int .i64 f.t]
theorem flCells_length (l : List Fl) : (flCells l).length = l.length * 2 := by
  unfold flCells
  induction l with
  | nil => rfl
  | cons f r ih => rw [List.flatMap_cons, List.length_append, ih]; show 2 + r.length * 2 = (r.length + 1) * 2; omega
theorem flCells_append (l m : List Fl) : flCells (l ++ m) = flCells l ++ flCells m := by unfold flCells; rw [List.flatMap_append]
theorem flCells_get : ∀ (l : List Fl) (i : Nat) (h : i < l.length), (flCells l)[i * 2]? = some (.slice l[i].a l[i].xs.length l[i].c) ∧ (flCells l)[i * 2 + 1]? = some (.int .i64 l[i].t)
  | f :: r, 0, _ => ⟨rfl, rfl⟩
  | f :: r, i + 1, h => by
    obtain ⟨h0, h1⟩ := flCells_get r i (by simpa using h)
    have e : ∀ j, (flCells (f :: r))[2 + j]? = (flCells r)[j]? := fun j => by
      show ([_, _] ++ flCells r)[2 + j]? = _
      rw [List.getElem?_append_right (by simp)]
      simp
    refine ⟨?_, ?_⟩
    · rw [show (i + 1) * 2 = 2 + i * 2 by omega, e]; exact h0
    · rw [show (i + 1) * 2 + 1 = 2 + (i * 2 + 1) by omega, e]; exact h1
theorem flCells_drop : ∀ (l : List Fl) (k : Nat), (flCells l).drop (k * 2) = flCells (l.drop k)
  | l, 0 => by simp
  | [], k + 1 => by simp [flCells]
  | f :: r, k + 1 => by
    rw [List.drop_succ_cons, ← flCells_drop r k, show (k + 1) * 2 = k * 2 + 2 by omega, ← List.drop_drop]
    show List.drop 2 (List.drop (k * 2) ([_, _] ++ flCells r)) = _
    rw [List.drop_drop, Nat.add_comm, ← List.drop_drop]
    rfl
theorem flCells_one (l : List Fl) : ∀ u ∈ flCells l, u.oneCell' = true := by
  intro u hu
  unfold flCells at hu
  obtain ⟨f, _, hu⟩ := List.mem_flatMap.1 hu
  simp at hu
  rcases hu with rfl | rfl <;> rfl

/-- The symbols of a transmission lie in memory, in no block of E. -/
structure SymIn (E : Nat → Prop) (w : World) (a : Option Addr) (c : Nat) (xs : List Nat) : Prop where
  inn : In w a xs
  blk : xs ≠ [] → ∀ q, a = some q → ¬ E q.block
  nil : a = none → c = 0
theorem SymIn.keep {E : Nat → Prop} {w w' : World} {a : Option Addr} {c : Nat} {xs : List Nat} (h : SymIn E w a c xs) (hk : ∀ k, k < w.heap.size → ¬ E k → w'.heap[k]? = w.heap[k]?) : SymIn E w' a c xs :=
  ⟨in_same h.inn (fun hx q hq => hk _ (by subst hq; exact in_lt h.inn hx) (h.blk hx q hq)), h.blk, h.nil⟩
theorem SymIn.excl {E E' : Nat → Prop} {w : World} {a : Option Addr} {c : Nat} {xs : List Nat} (h : SymIn E w a c xs) (hE : ∀ k, k < w.heap.size → E' k → E k) : SymIn E' w a c xs :=
  ⟨h.inn, fun hx q hq he => h.blk hx q hq (hE _ (by subst hq; exact in_lt h.inn hx) he), h.nil⟩

/-- A cable's state. -/
structure Cab where
  d : Nat
  fa : Option Addr
  fc : Nat
  fs : List Ft
  up : Bool
  time : Nat
  sent : Nat
  fl : List Fl
  lost : Nat
/-- A cable in memory: its block is g, what is in flight is the slice v; nothing of it lies in a block of Z. -/
structure CabAt (B : Nat) (Z : Nat → Prop) (w : World) (g : Nat) (v : Value) (s : Cab) : Prop where
  c0 : w.cell? ⟨g, 0, none⟩ = some (.int .i64 s.d)
  c1 : w.cell? ⟨g, 1, none⟩ = some (.slice s.fa s.fs.length s.fc)
  c2 : w.cell? ⟨g, 2, none⟩ = some (.bool s.up)
  c3 : w.cell? ⟨g, 3, none⟩ = some (.int .i64 s.time)
  c4 : w.cell? ⟨g, 4, none⟩ = some (.int .i64 s.sent)
  c5 : w.cell? ⟨g, 5, none⟩ = some v
  c6 : w.cell? ⟨g, 6, none⟩ = some (.int .i64 s.lost)
  fr : ∀ j, w.frozen? ⟨g, j, none⟩ = false
  row : w.ownsRow B 70 2 v s.fl.length (flCells s.fl)
  ne : v.ownBlock ≠ some g
  syms : ∀ f ∈ s.fl, SymIn (fun k => Z k ∨ k = g ∨ v.ownBlock = some k) w f.a f.c f.xs
  fts : FtsIn w s.fa s.fs
  ftn : s.fs ≠ [] → ∀ q, s.fa = some q → ¬ (Z q.block ∨ q.block = g ∨ v.ownBlock = some q.block)
  hB : B ≤ g
  gz : ¬ Z g
  vz : ∀ k, v.ownBlock = some k → ¬ Z k
  asc : Asc s.fs
  args : ∀ f ∈ s.fs, 0 ≤ f.arg
  fsl : s.fs.length ≤ 1000
  fll : s.fl.length ≤ 64
theorem CabAt.lt {B : Nat} {Z : Nat → Prop} {w : World} {g : Nat} {v : Value} {s : Cab} (x : CabAt B Z w g v s) : g < w.heap.size := World.block_lt_of_cell? w ⟨g, 0, none⟩ x.c0
theorem FtsIn.lt {w : World} {q : Addr} {fs : List Ft} (h : FtsIn w (some q) fs) (hx : fs ≠ []) : q.block < w.heap.size := by
  rcases h with h | ⟨b, o, e, h⟩
  · exact absurd h hx
  · cases e; exact h.lt hx
/-- Where all blocks but those of Z are as they were the cable is, too. -/
theorem CabAt.same {B : Nat} {Z : Nat → Prop} {w w' : World} {g : Nat} {v : Value} {s : Cab} (x : CabAt B Z w g v s) (hk : ∀ k, k < w.heap.size → ¬ Z k → w'.heap[k]? = w.heap[k]?) : CabAt B Z w' g v s := by
  have e := hk g x.lt x.gz
  have q : ∀ j, w'.cell? ⟨g, j, none⟩ = w.cell? ⟨g, j, none⟩ := fun j => World.cell?_of_block (a := ⟨g, j, none⟩) e
  exact ⟨(q 0).trans x.c0, (q 1).trans x.c1, (q 2).trans x.c2, (q 3).trans x.c3, (q 4).trans x.c4, (q 5).trans x.c5, (q 6).trans x.c6,
    fun j => (World.frozen?_of_block (a := ⟨g, j, none⟩) e).trans (x.fr j), row_same x.row (fun k hv => hk k (row_blk x.row k hv).2 (x.vz k hv)), x.ne,
    fun f hf => (x.syms f hf).keep (fun k h1 h2 => hk k h1 (fun h => h2 (.inl h))),
    x.fts.same (fun hx p hp => hk _ (by have := x.fts; rw [hp] at this; exact this.lt hx) (fun h => x.ftn hx p hp (.inl h))), x.ftn, x.hB, x.gz, x.vz, x.asc, x.args, x.fsl, x.fll⟩
theorem CabAt.keep {B : Nat} {Z : Nat → Prop} {w w' : World} {g : Nat} {v : Value} {s : Cab} (x : CabAt B Z w g v s) (hb : Below w.heap.size w w') : CabAt B Z w' g v s := x.same (fun k hk _ => hb.block k hk)
theorem CabAt.zone {B : Nat} {Z Z' : Nat → Prop} {w : World} {g : Nat} {v : Value} {s : Cab} (x : CabAt B Z w g v s) (hZ : ∀ k, k < w.heap.size → Z' k → Z k) : CabAt B Z' w g v s :=
  ⟨x.c0, x.c1, x.c2, x.c3, x.c4, x.c5, x.c6, x.fr, x.row, x.ne,
    fun f hf => (x.syms f hf).excl (fun k hk h => h.elim (fun h => .inl (hZ k hk h)) .inr), x.fts,
    fun hx q hq h => x.ftn hx q hq (h.elim (fun h => .inl (hZ _ (by have := x.fts; rw [hq] at this; exact this.lt hx) h)) .inr), x.hB,
    fun h => x.gz (hZ _ x.lt h), fun k hv h => x.vz k hv (hZ k (row_blk x.row k hv).2 h), x.asc, x.args, x.fsl, x.fll⟩

/-- The fault that concerns an index; its kind is 0 where there is none. -/
def theF (fs : List Ft) (x : Int) : Ft := (fs.find? fun f => f.at_ == x).getD ⟨0, 0, 0⟩
theorem theF_at {fs : List Ft} (ha : Asc fs) {p : Nat} (h : p < fs.length) {x : Int} (hx : fs[p].at_ = x) : theF fs x = fs[p] := by
  unfold theF
  rw [List.find?_eq_some_iff_getElem.2 ⟨by simp [hx], p, h, rfl, fun j hj => by
    have := ha j p (by omega) h hj
    simp only [Bool.not_eq_true', beq_eq_false_iff_ne, ne_eq]
    omega⟩]
  rfl
theorem theF_none {fs : List Ft} {x : Int} (h : ∀ f ∈ fs, f.at_ ≠ x) : theF fs x = ⟨0, 0, 0⟩ := by
  unfold theF
  rw [List.find?_eq_none.2 (fun f hf => by simp [h f hf])]
  rfl

theorem ft_cells (w : World) (f : Ft) (m : Nat) (hm : m = w.heap.size) : (w.alloc (.cells #[.int .i64 f.at_, .int .i64 f.kind, .int .i64 f.arg] 53)).cell? ⟨m, 0, none⟩ = some (.int .i64 f.at_) ∧ (w.alloc (.cells #[.int .i64 f.at_, .int .i64 f.kind, .int .i64 f.arg] 53)).cell? ⟨m, 1, none⟩ = some (.int .i64 f.kind) ∧ (w.alloc (.cells #[.int .i64 f.at_, .int .i64 f.kind, .int .i64 f.arg] 53)).cell? ⟨m, 2, none⟩ = some (.int .i64 f.arg) ∧ ∀ j, (w.alloc (.cells #[.int .i64 f.at_, .int .i64 f.kind, .int .i64 f.arg] 53)).frozen? ⟨m, j, none⟩ = false := by
  subst hm
  refine ⟨World.cell?_alloc_mark w _ _ (0, 0) 0, World.cell?_alloc_mark w _ _ (0, 0) 1, World.cell?_alloc_mark w _ _ (0, 0) 2, fun j => ?_⟩
  unfold World.frozen?
  have h : (w.alloc (.cells #[.int .i64 f.at_, .int .i64 f.kind, .int .i64 f.arg] 53)).heap[w.heap.size]? = some (.cells #[.int .i64 f.at_, .int .i64 f.kind, .int .i64 f.arg] 53) := by show (w.heap.push _)[w.heap.size]? = _; simp
  rw [show (⟨w.heap.size, j, none⟩ : Addr).block = w.heap.size from rfl, h]
  simp

set_option maxRecDepth 100000 in
set_option maxHeartbeats 8000000 in
theorem nextFault_any (B : Nat) (Z : Nat → Prop) (g : Nat) (v : Value) (s : Cab) (w : World) (x : CabAt B Z w g v s) :
    Calls Try.prog 30 #[.pointer (some ⟨g, 0, none⟩)] w fun e w' => e = .returned (ftV (theF s.fs s.sent)) ∧ Below w.heap.size w w' := by
  obtain ⟨m, hm⟩ : ∃ m, w.heap.size = m := ⟨_, rfl⟩
  have kA := (Below.refl w.heap.size w).alloc (Nat.le_refl _) (.cells #[.int .i64 0, .int .i64 0, .int .i64 0] 53)
  have ks := size_alloc' w (.cells #[.int .i64 0, .int .i64 0, .int .i64 0] 53)
  have FC := box (ft_cells w ⟨0, 0, 0⟩ m hm.symm)
  have XA := box (x.keep kA)
  simp only at FC
  rw [hm] at ks
  go_enter Try.func30, Try.ntmps30
  go_wp2_with fail
  generalize w.alloc (.cells #[.int .i64 0, .int .i64 0, .int .i64 0] 53) = w1 at kA ks FC XA ⊢
  have HM := box hm
  obtain ⟨c0, c1, c2, c3, c4, c5, c6, fr, _, _, _, _, _, _, _, _, _, _, _, _⟩ := XA.out
  have BS := fun (w' : World) (hb : Below w1.heap.size w1 w') => box (bsearch_any s.fa s.fs.length s.fc s.fs rfl XA.out.fsl XA.out.asc s.sent w' (XA.out.fts.below hb))
  clear x
  go_region_with (go_at_call 33; refine (BS _ (Below.refl _ _).drew).out.mono ?_; rintro e w3 ⟨p, b, rfl, hb, hy, hn⟩)
  all_goals
    have kb3 : Below w1.heap.size w1 w3 := ((Below.refl _ _).drew).trans hb
    have X3 := box (XA.out.keep kb3)
    have KB := box (kA.trans (kb3.mono kA.size))
    obtain ⟨f0, f1, f2, ff⟩ := FC.out
    have z0 := keepc kb3 f0
    have z1 := keepc kb3 f1
    have z2 := keepc kb3 f2
    have zf : ∀ j, w3.frozen? ⟨m, j, none⟩ = false := fun j => (kb3.frozen (p := ⟨m, j, none⟩) (show m < w1.heap.size by omega)).trans (ff j)
    clear c0 c1 c2 c3 c4 c5 c6 fr f0 f1 f2 ff FC XA kb3 hb BS kA
    cases b
    · have HY := box (theF_none (hn rfl))
      clear hy hn
      go_wp2_with fail
      refine bodyPost_ret (v := .agg #[.int .i64 0, .int .i64 0, .int .i64 0]) (by simp [results, Try.results30, go_sem, z0, z1, z2]) rfl ⟨by rw [HY.out], ?_⟩
      exact ((KB.out.setCell (p := ⟨m, 0, none⟩) (by rw [hm]; exact Nat.le_refl _) _).setCell (p := ⟨m, 1, none⟩) (by rw [hm]; exact Nat.le_refl _) _).setCell (p := ⟨m, 2, none⟩) (by rw [hm]; exact Nat.le_refl _) _
    · obtain ⟨hp, he⟩ := hy rfl
      have HY := box (theF_at X3.out.asc hp he)
      obtain ⟨bb, o, hfa, x0, x1, x2⟩ := X3.out.fts.at hp
      clear hn
      obtain ⟨d0, d1, d2, d3, d4, d5, d6, fr, _, _, _, _, _, _, _, _, _, _, _, _⟩ := X3.out
      rw [hfa] at d1
      obtain ⟨f, hf⟩ : ∃ f, s.fs[p] = f := ⟨_, rfl⟩
      rw [hf] at x0 x1 x2 HY
      clear hf he hy
      obtain ⟨l, hl⟩ : ∃ l, s.fs.length = l := ⟨_, rfl⟩
      rw [hl] at d1 hp
      go_wp2_with fail
      refine bodyPost_ret (v := ftV f) (by simp [results, Try.results30, go_sem, z0, z1, z2]) rfl ⟨by rw [HY.out], ?_⟩
      exact ((KB.out.setCell (p := ⟨m, 0, none⟩) (by rw [hm]; exact Nat.le_refl _) _).setCell (p := ⟨m, 1, none⟩) (by rw [hm]; exact Nat.le_refl _) _).setCell (p := ⟨m, 2, none⟩) (by rw [hm]; exact Nat.le_refl _) _
end Go.Proofs.Ytoeedbimhihbhaa
