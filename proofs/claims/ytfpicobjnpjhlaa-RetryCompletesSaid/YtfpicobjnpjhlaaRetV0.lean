/- Seven cells of a block. -/
import Derived.Test.YtfpicobjnpjhlaaRetU
namespace Go.Proofs.Ytfpicobjnpjhlaa
open Go.RowKit

/-- Seven cells of a block. -/
structure R7 (w : World) (g : Nat) (y0 y1 y2 y3 y4 y5 y6 : Value) : Prop where
  q0 : w.cell? ⟨g, 0, none⟩ = some y0
  q1 : w.cell? ⟨g, 1, none⟩ = some y1
  q2 : w.cell? ⟨g, 2, none⟩ = some y2
  q3 : w.cell? ⟨g, 3, none⟩ = some y3
  q4 : w.cell? ⟨g, 4, none⟩ = some y4
  q5 : w.cell? ⟨g, 5, none⟩ = some y5
  q6 : w.cell? ⟨g, 6, none⟩ = some y6
  z : ∀ j, w.frozen? ⟨g, j, none⟩ = false
theorem R7.lt {w : World} {g : Nat} {y0 y1 y2 y3 y4 y5 y6 : Value} (h : R7 w g y0 y1 y2 y3 y4 y5 y6) : g < w.heap.size := World.block_lt_of_cell? w ⟨g, 0, none⟩ h.q0
theorem R7.same {w w' : World} {g : Nat} {y0 y1 y2 y3 y4 y5 y6 : Value} (h : R7 w g y0 y1 y2 y3 y4 y5 y6) (e : w'.heap[g]? = w.heap[g]?) : R7 w' g y0 y1 y2 y3 y4 y5 y6 :=
  ⟨(World.cell?_of_block (a := ⟨g, 0, none⟩) e).trans h.q0, (World.cell?_of_block (a := ⟨g, 1, none⟩) e).trans h.q1, (World.cell?_of_block (a := ⟨g, 2, none⟩) e).trans h.q2, (World.cell?_of_block (a := ⟨g, 3, none⟩) e).trans h.q3, (World.cell?_of_block (a := ⟨g, 4, none⟩) e).trans h.q4, (World.cell?_of_block (a := ⟨g, 5, none⟩) e).trans h.q5, (World.cell?_of_block (a := ⟨g, 6, none⟩) e).trans h.q6, fun j => (World.frozen?_of_block (a := ⟨g, j, none⟩) e).trans (h.z j)⟩
theorem R7.keep {w w' : World} {g : Nat} {y0 y1 y2 y3 y4 y5 y6 : Value} (h : R7 w g y0 y1 y2 y3 y4 y5 y6) (hb : Below w.heap.size w w') : R7 w' g y0 y1 y2 y3 y4 y5 y6 := h.same (hb.block g h.lt)
theorem R7.new (w : World) (y0 y1 y2 y3 y4 y5 y6 : Value) (t : TypeId) (g : Nat) (hg : g = w.heap.size) : R7 (w.alloc (.cells #[y0, y1, y2, y3, y4, y5, y6] t)) g y0 y1 y2 y3 y4 y5 y6 := by
  subst hg
  have q := World.cell?_alloc_mark w #[y0, y1, y2, y3, y4, y5, y6] t (0, 0)
  refine ⟨q 0, q 1, q 2, q 3, q 4, q 5, q 6, fun j => ?_⟩
  unfold World.frozen?
  have h : (w.alloc (.cells #[y0, y1, y2, y3, y4, y5, y6] t)).heap[w.heap.size]? = some (.cells #[y0, y1, y2, y3, y4, y5, y6] t) := by show (w.heap.push _)[w.heap.size]? = _; simp
  rw [show (⟨w.heap.size, j, none⟩ : Addr).block = w.heap.size from rfl, h]
  simp
theorem R7.set0 {w : World} {g : Nat} {y0 y1 y2 y3 y4 y5 y6 : Value} (h : R7 w g y0 y1 y2 y3 y4 y5 y6) (u : Value) : R7 (w.setCell ⟨g, 0, none⟩ u) g u y1 y2 y3 y4 y5 y6 :=
  ⟨cell_put h.q0 _, cell_else (by decide) h.q1 _, cell_else (by decide) h.q2 _, cell_else (by decide) h.q3 _, cell_else (by decide) h.q4 _, cell_else (by decide) h.q5 _, cell_else (by decide) h.q6 _, fr_put h.z _ _⟩
theorem R7.set1 {w : World} {g : Nat} {y0 y1 y2 y3 y4 y5 y6 : Value} (h : R7 w g y0 y1 y2 y3 y4 y5 y6) (u : Value) : R7 (w.setCell ⟨g, 1, none⟩ u) g y0 u y2 y3 y4 y5 y6 :=
  ⟨cell_else (by decide) h.q0 _, cell_put h.q1 _, cell_else (by decide) h.q2 _, cell_else (by decide) h.q3 _, cell_else (by decide) h.q4 _, cell_else (by decide) h.q5 _, cell_else (by decide) h.q6 _, fr_put h.z _ _⟩
theorem R7.set2 {w : World} {g : Nat} {y0 y1 y2 y3 y4 y5 y6 : Value} (h : R7 w g y0 y1 y2 y3 y4 y5 y6) (u : Value) : R7 (w.setCell ⟨g, 2, none⟩ u) g y0 y1 u y3 y4 y5 y6 :=
  ⟨cell_else (by decide) h.q0 _, cell_else (by decide) h.q1 _, cell_put h.q2 _, cell_else (by decide) h.q3 _, cell_else (by decide) h.q4 _, cell_else (by decide) h.q5 _, cell_else (by decide) h.q6 _, fr_put h.z _ _⟩
theorem R7.set3 {w : World} {g : Nat} {y0 y1 y2 y3 y4 y5 y6 : Value} (h : R7 w g y0 y1 y2 y3 y4 y5 y6) (u : Value) : R7 (w.setCell ⟨g, 3, none⟩ u) g y0 y1 y2 u y4 y5 y6 :=
  ⟨cell_else (by decide) h.q0 _, cell_else (by decide) h.q1 _, cell_else (by decide) h.q2 _, cell_put h.q3 _, cell_else (by decide) h.q4 _, cell_else (by decide) h.q5 _, cell_else (by decide) h.q6 _, fr_put h.z _ _⟩
theorem R7.set4 {w : World} {g : Nat} {y0 y1 y2 y3 y4 y5 y6 : Value} (h : R7 w g y0 y1 y2 y3 y4 y5 y6) (u : Value) : R7 (w.setCell ⟨g, 4, none⟩ u) g y0 y1 y2 y3 u y5 y6 :=
  ⟨cell_else (by decide) h.q0 _, cell_else (by decide) h.q1 _, cell_else (by decide) h.q2 _, cell_else (by decide) h.q3 _, cell_put h.q4 _, cell_else (by decide) h.q5 _, cell_else (by decide) h.q6 _, fr_put h.z _ _⟩
theorem R7.set5 {w : World} {g : Nat} {y0 y1 y2 y3 y4 y5 y6 : Value} (h : R7 w g y0 y1 y2 y3 y4 y5 y6) (u : Value) : R7 (w.setCell ⟨g, 5, none⟩ u) g y0 y1 y2 y3 y4 u y6 :=
  ⟨cell_else (by decide) h.q0 _, cell_else (by decide) h.q1 _, cell_else (by decide) h.q2 _, cell_else (by decide) h.q3 _, cell_else (by decide) h.q4 _, cell_put h.q5 _, cell_else (by decide) h.q6 _, fr_put h.z _ _⟩
theorem R7.set6 {w : World} {g : Nat} {y0 y1 y2 y3 y4 y5 y6 : Value} (h : R7 w g y0 y1 y2 y3 y4 y5 y6) (u : Value) : R7 (w.setCell ⟨g, 6, none⟩ u) g y0 y1 y2 y3 y4 y5 u :=
  ⟨cell_else (by decide) h.q0 _, cell_else (by decide) h.q1 _, cell_else (by decide) h.q2 _, cell_else (by decide) h.q3 _, cell_else (by decide) h.q4 _, cell_else (by decide) h.q5 _, cell_put h.q6 _, fr_put h.z _ _⟩
theorem oth_set {g k : Nat} (hk : k ≠ g) (w : World) (i : Nat) (u : Value) : (w.setCell ⟨g, i, none⟩ u).heap[k]? = w.heap[k]? := heap_else (fun e => hk e.symm) u

/-- The program's sender in memory: its block g, its row v, nothing of it in a block of E. -/
structure PsAt (B : Nat) (E : Nat → Prop) (w : World) (g : Nat) (v : Value) (s : Rs) : Prop where
  m : R7 w g (.int .i64 s.W) (.int .i64 s.τ) v (.int .i64 s.nx) (.int .i64 s.hi) (.int .i64 s.si) (.int .i64 s.ac)
  row : QRow B w v (s.ks.map kpV)
  far : v.ownBlock ≠ some g
  bg : B ≤ g
  out : ¬ E g ∧ ∀ k, v.ownBlock = some k → ¬ E k
  syms : ∀ x ∈ s.ks, SymIn (fun k => E k ∨ k = g ∨ v.ownBlock = some k) w x.a x.c x.xs
theorem PsAt.keep {B : Nat} {E : Nat → Prop} {w w' : World} {g : Nat} {v : Value} {s : Rs} (x : PsAt B E w g v s) (hb : Below w.heap.size w w') : PsAt B E w' g v s :=
  ⟨x.m.keep hb, x.row.same hb.size (fun k h => hb.block k (x.row.blk k h).2), x.far, x.bg, x.out, fun y hy => (x.syms y hy).keep (fun k hk _ => hb.block k hk)⟩
/-- The sender's numbers change, and nothing else. -/
theorem PsAt.mod {B : Nat} {E : Nat → Prop} {w w' : World} {g : Nat} {v : Value} {s s' : Rs} (x : PsAt B E w g v s) (hs : w.heap.size ≤ w'.heap.size) (hk : ∀ k, k ≠ g → w'.heap[k]? = w.heap[k]?) (e : s'.ks = s.ks)
    (m : R7 w' g (.int .i64 s'.W) (.int .i64 s'.τ) v (.int .i64 s'.nx) (.int .i64 s'.hi) (.int .i64 s'.si) (.int .i64 s'.ac)) : PsAt B E w' g v s' :=
  ⟨m, by rw [e]; exact x.row.same hs (fun k h => hk k (fun e => x.far (by rw [← e]; exact h))), x.far, x.bg, x.out, fun y hy => (x.syms y (e ▸ hy)).keep (fun k _ h => hk k (fun e => h (.inr (.inl e))))⟩
theorem PsAt.zone {B : Nat} {E E' : Nat → Prop} {w : World} {g : Nat} {v : Value} {s : Rs} (x : PsAt B E w g v s) (h : ∀ k, k < w.heap.size → E' k → E k) : PsAt B E' w g v s :=
  ⟨x.m, x.row, x.far, x.bg, ⟨fun e => x.out.1 (h g x.m.lt e), fun k hk e => x.out.2 k hk (h k (x.row.blk k hk).2 e)⟩, fun y hy => (x.syms y hy).excl (fun k hk e => e.imp (h k hk) id)⟩
theorem RsAt.zone {B : Nat} {E E' : Nat → Prop} {w : World} {g : Nat} {v : Value} {s : Rs} (x : RsAt B E w g v s) (h : ∀ k, k < w.heap.size → E' k → E k) : RsAt B E' w g v s :=
  ⟨x.m, x.row, x.far, x.bg, ⟨fun e => x.out.1 (h g x.m.lt e), fun k hk e => x.out.2 k hk (h k (x.row.blk k hk).2 e)⟩, fun y hy => (x.syms y hy).excl (fun k hk e => e.imp (h k hk) id)⟩
theorem PsAt.steps {B : Nat} {E : Nat → Prop} {w0 w w' : World} {g : Nat} {v v' : Value} {s : Rs} (x : PsAt B E w g v s) (st : Steps g v v' w w') (hb : Below B w0 w) : Below B w0 w' :=
  st.below hb (Nat.le_trans x.bg (Nat.le_of_lt x.m.lt)) x.bg (fun k hk => (x.row.blk k hk).1)
theorem RsAt.steps {B : Nat} {E : Nat → Prop} {w0 w w' : World} {g : Nat} {v v' : Value} {s : Rs} (x : RsAt B E w g v s) (st : Steps g v v' w w') (hb : Below B w0 w) : Below B w0 w' :=
  st.below hb (Nat.le_trans x.bg (Nat.le_of_lt x.m.lt)) x.bg (fun k hk => (x.row.blk k hk).1)

/-- What a tick sends: the index, the number, the bytes; what it leaves. -/
def tickI (s : Rs) : Option Nat := if s.nx < s.ks.length then some s.nx else if s.ks.length = 0 then none else if s.si + 1 < s.τ then none else some 0
def tickN (s : Rs) : Nat := match tickI s with | some i => (s.ac + i) % 256 | none => 0
def tickX (s : Rs) : List Nat := match tickI s with | some i => ((s.ks[i]?).map Kp.xs).getD [] | none => []
def tickS (s : Rs) : Rs := match tickI s with
  | some i => ⟨s.W, s.τ, s.ks, s.ta, s.ac, i + 1, max s.hi (i + 1), 0⟩
  | none => ⟨s.W, s.τ, s.ks, s.ta, s.ac, s.nx, s.hi, if s.ks.length = 0 then s.si else s.si + 1⟩
/-- The sender's numbers fit. -/
structure Rs.Ok (s : Rs) : Prop where
  nx : s.nx ≤ s.hi
  hi : s.hi ≤ s.ks.length
  W : s.ks.length ≤ s.W
  w1 : 1 ≤ s.W
  w2 : s.W ≤ 128
  t1 : 1 ≤ s.τ
  t2 : s.τ ≤ 1000
  si : s.si < s.τ
  xs : ∀ k ∈ s.ks, k.xs.length ≤ 64
theorem cntR_cases (s : Rs) (n : Int) : cntR s.ac s.hi n = -1 ∨ (∃ k : Nat, cntR s.ac s.hi n = (k : Int) ∧ k ≤ s.hi) := by
  have h := cntR_le s.ac s.hi n
  by_cases h0 : cntR s.ac s.hi n < 0
  · left
    unfold cntR at h0 ⊢
    split
    · rfl
    · split
      · rfl
      · next h1 h2 => rw [if_neg h1, if_neg h2] at h0; omega
  · exact .inr ⟨(cntR s.ac s.hi n).toNat, by omega, by omega⟩
theorem Rs.Ok.ack {s : Rs} (h : s.Ok) (n : Int) : (ackS s n).Ok := by
  unfold ackS
  split
  · exact h
  · have hc := cntR_le s.ac s.hi n
    have hk : ackK s n ≤ s.hi := by unfold ackK; omega
    have := h.nx; have := h.hi; have := h.W; have := h.t1
    exact ⟨by show s.nx - ackK s n ≤ s.hi - ackK s n; omega, by show s.hi - ackK s n ≤ (s.ks.drop _).length; rw [List.length_drop]; omega, by show (s.ks.drop _).length ≤ s.W; rw [List.length_drop]; omega, h.w1, h.w2, h.t1, h.t2, by show 0 < s.τ; omega, fun k hk => h.xs k (List.mem_of_mem_drop hk)⟩
theorem ackS_W (s : Rs) (n : Int) : (ackS s n).W = s.W ∧ (ackS s n).τ = s.τ := by unfold ackS; split <;> exact ⟨rfl, rfl⟩
theorem nakS_W (s : Rs) (n : Int) : (nakS s n).W = s.W ∧ (nakS s n).τ = s.τ := by unfold nakS; split <;> exact ⟨rfl, rfl⟩
theorem Rs.Ok.nak {s : Rs} (h : s.Ok) (n : Int) : (nakS s n).Ok := by
  unfold nakS
  split
  · exact h
  · have a := h.ack n
    have := h.t1
    have e := ackS_W s n
    exact ⟨Nat.zero_le _, a.hi, by rw [← e.1]; exact a.W, h.w1, h.w2, h.t1, h.t2, by show 0 < s.τ; omega, a.xs⟩
theorem tickI_lt {s : Rs} {i : Nat} (h : tickI s = some i) : i < s.ks.length := by
  unfold tickI at h
  split at h
  · cases h; assumption
  · split at h
    · cases h
    · split at h
      · cases h
      · cases h; omega
theorem tickI_le {s : Rs} {i : Nat} (h : tickI s = some i) : i ≤ s.nx := by
  unfold tickI at h
  split at h
  · cases h; exact Nat.le_refl _
  · split at h
    · cases h
    · split at h
      · cases h
      · cases h; exact Nat.zero_le _
theorem tickS_W (s : Rs) : (tickS s).W = s.W ∧ (tickS s).τ = s.τ ∧ (tickS s).ks = s.ks ∧ (tickS s).ac = s.ac ∧ (tickS s).ta = s.ta := by unfold tickS; split <;> exact ⟨rfl, rfl, rfl, rfl, rfl⟩
theorem Rs.Ok.tick {s : Rs} (h : s.Ok) : (tickS s).Ok := by
  have := h.nx; have := h.hi; have := h.W; have := h.t1; have := h.si
  unfold tickS
  split
  · next i hi =>
    have h1 := tickI_lt hi
    exact ⟨by show i + 1 ≤ max _ _; omega, by show max s.hi (i + 1) ≤ s.ks.length; omega, h.W, h.w1, h.w2, h.t1, h.t2, by show 0 < s.τ; omega, h.xs⟩
  · next hi =>
    refine ⟨h.nx, h.hi, h.W, h.w1, h.w2, h.t1, h.t2, ?_, h.xs⟩
    show (if s.ks.length = 0 then s.si else s.si + 1) < s.τ
    unfold tickI at hi
    split
    · exact h.si
    · split at hi
      · cases hi
      · rename_i h3 h4
        split at hi
        · assumption
        · cases hi
end Go.Proofs.Ytfpicobjnpjhlaa
