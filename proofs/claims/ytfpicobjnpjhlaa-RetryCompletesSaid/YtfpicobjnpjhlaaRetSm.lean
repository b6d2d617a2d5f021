/- The program's sender and the reference's go together. -/
import Derived.Test.YtfpicobjnpjhlaaRetMb
namespace Go.Proofs.Ytfpicobjnpjhlaa
open Go.RowKit

/-- What a sender is, wherever its packets lie. -/
def absS (s : Rs) : Rs := ⟨s.W, s.τ, s.ks.map (fun k => ⟨none, k.xs, 0⟩), 0, s.ac, s.nx, s.hi, s.si⟩
def Sim (p r : Rs) : Prop := absS p = absS r
theorem abs_tickI (s : Rs) : tickI (absS s) = tickI s := by unfold tickI absS; simp
theorem abs_tickN (s : Rs) : tickN (absS s) = tickN s := by unfold tickN; rw [abs_tickI]; rfl
theorem abs_tickX (s : Rs) : tickX (absS s) = tickX s := by
  unfold tickX
  rw [abs_tickI]
  cases tickI s with
  | none => rfl
  | some i =>
    show ((((s.ks.map (fun k => (⟨none, k.xs, 0⟩ : Kp)))[i]?).map Kp.xs).getD []) = (((s.ks[i]?).map Kp.xs).getD [])
    rw [List.getElem?_map]
    cases s.ks[i]? <;> rfl
theorem abs_tickS (s : Rs) : absS (tickS (absS s)) = absS (tickS s) := by
  have e := abs_tickI s
  unfold tickS
  rw [e]
  cases tickI s with
  | none =>
    simp only [absS, List.length_map, List.map_map]
    rfl
  | some i =>
    simp only [absS, List.map_map]
    rfl
theorem abs_offC (s : Rs) (xs : List Nat) : offC (absS s) xs = offC s xs := by unfold offC absS; simp
theorem abs_offS (s : Rs) (k k' : Kp) (h : k.xs = k'.xs) : absS (offS (absS s) k) = absS (offS s k') := by
  have e : offC (absS s) k.xs = offC s k'.xs := by rw [abs_offC, h]
  unfold offS
  rw [e]
  split
  · simp only [absS, List.map_append, List.map_map, List.map_cons, List.map_nil, h]; rfl
  · simp only [absS, List.map_map]; rfl
theorem abs_ackS (s : Rs) (n : Int) : absS (ackS (absS s) n) = absS (ackS s n) := by
  unfold ackS
  show absS (if cntR s.ac s.hi n ≤ 0 then absS s else ⟨s.W, s.τ, (absS s).ks.drop (ackK s n), 0, s.ac + ackK s n, s.nx - ackK s n, s.hi - ackK s n, 0⟩) = _
  split
  · simp only [absS, List.map_map]; rfl
  · simp only [absS, List.map_drop, List.map_map]; rfl
theorem abs_nakS (s : Rs) (n : Int) : absS (nakS (absS s) n) = absS (nakS s n) := by
  have e := abs_ackS s n
  unfold nakS
  show absS (if cntR s.ac s.hi n < 0 then absS s else ⟨s.W, s.τ, (ackS (absS s) n).ks, (ackS (absS s) n).ta, (ackS (absS s) n).ac, 0, (ackS (absS s) n).hi, 0⟩) = _
  split
  · simp only [absS, List.map_map]; rfl
  · simp only [absS, Rs.mk.injEq] at e ⊢
    exact ⟨trivial, trivial, e.2.2.1, trivial, e.2.2.2.2.1, trivial, e.2.2.2.2.2.2.1, trivial⟩
theorem Sim.tickI {p r : Rs} (h : Sim p r) : tickI p = tickI r := by rw [← abs_tickI p, ← abs_tickI r, show absS p = absS r from h]
theorem Sim.tickN {p r : Rs} (h : Sim p r) : tickN p = tickN r := by rw [← abs_tickN p, ← abs_tickN r, show absS p = absS r from h]
theorem Sim.tickX {p r : Rs} (h : Sim p r) : tickX p = tickX r := by rw [← abs_tickX p, ← abs_tickX r, show absS p = absS r from h]
theorem Sim.tick {p r : Rs} (h : Sim p r) : Sim (tickS p) (tickS r) := by unfold Sim; rw [← abs_tickS p, ← abs_tickS r, show absS p = absS r from h]
theorem Sim.offC {p r : Rs} (h : Sim p r) (xs : List Nat) : offC p xs = offC r xs := by rw [← abs_offC p, ← abs_offC r, show absS p = absS r from h]
theorem Sim.off {p r : Rs} (h : Sim p r) (k k' : Kp) (e : k.xs = k'.xs) : Sim (offS p k) (offS r k') := by unfold Sim; rw [← abs_offS p k k rfl, ← abs_offS r k k' e, show absS p = absS r from h]
theorem Sim.ack {p r : Rs} (h : Sim p r) (n : Int) : Sim (ackS p n) (ackS r n) := by unfold Sim; rw [← abs_ackS p, ← abs_ackS r, show absS p = absS r from h]
theorem Sim.nak {p r : Rs} (h : Sim p r) (n : Int) : Sim (nakS p n) (nakS r n) := by unfold Sim; rw [← abs_nakS p, ← abs_nakS r, show absS p = absS r from h]
theorem Sim.eqs {p r : Rs} (h : Sim p r) : p.W = r.W ∧ p.τ = r.τ ∧ p.ks.length = r.ks.length ∧ p.ac = r.ac ∧ p.nx = r.nx ∧ p.hi = r.hi ∧ p.si = r.si := by
  have h : absS p = absS r := h
  simp only [absS, Rs.mk.injEq] at h
  have hl := congrArg List.length h.2.2.1
  simp at hl
  exact ⟨h.1, h.2.1, hl, h.2.2.2.2.1, h.2.2.2.2.2.1, h.2.2.2.2.2.2.1, h.2.2.2.2.2.2.2⟩
theorem Sim.ackK {p r : Rs} (h : Sim p r) (n : Int) : ackK p n = ackK r n := by
  have e := h.eqs
  show (cntR p.ac p.hi n).toNat = (cntR r.ac r.hi n).toNat
  rw [e.2.2.2.1, e.2.2.2.2.2.1]
theorem Rs.Ok.sim {p r : Rs} (h : Sim p r) (ok : r.Ok) : p.Ok := by
  obtain ⟨e1, e2, e3, e4, e5, e6, e7⟩ := h.eqs
  obtain ⟨o1, o2, o3, o4, o5, o6, o7, o8, o9⟩ := ok
  refine ⟨by omega, by omega, by omega, by omega, by omega, by omega, by omega, by omega, fun k hk => ?_⟩
  have h : absS p = absS r := h
  simp only [absS, Rs.mk.injEq] at h
  have hm : (⟨none, k.xs, 0⟩ : Kp) ∈ p.ks.map (fun k => (⟨none, k.xs, 0⟩ : Kp)) := List.mem_map.2 ⟨k, hk, rfl⟩
  rw [h.2.2.1] at hm
  obtain ⟨k', hk', e⟩ := List.mem_map.1 hm
  have : k'.xs = k.xs := by injection e
  rw [← this]
  exact o9 k' hk'

theorem SymIn.sameAt {E : Nat → Prop} {w w' : World} {a : Option Addr} {c : Nat} {xs : List Nat} (h : SymIn E w a c xs) (hk : xs ≠ [] → ∀ q, a = some q → w'.heap[q.block]? = w.heap[q.block]?) : SymIn E w' a c xs := ⟨in_same h.inn hk, h.blk, h.nil⟩
/-- A sender that another one's call has not touched. -/
theorem PsAt.moved {B : Nat} {E E' : Nat → Prop} {w w' : World} {g h : Nat} {v u u' : Value} {s : Rs} (x : PsAt B E w g v s) (st : Steps h u u' w w') (hE : ∀ k, k = h ∨ u.ownBlock = some k → E k) (hE' : ∀ k, k < w.heap.size → E' k → E k) : PsAt B E' w' g v s := by
  have blk : ∀ k, k < w.heap.size → ¬ E k → w'.heap[k]? = w.heap[k]? := fun k hk hn => st.apart.block k hk (fun e => hn (hE k (.inl e))) (fun e => hn (hE k (.inr e.symm)))
  refine ⟨x.m.same (blk g x.m.lt x.out.1), x.row.same st.apart.size (fun k hk => blk k (x.row.blk k hk).2 (x.out.2 k hk)), x.far, x.bg, ⟨fun e => x.out.1 (hE' g x.m.lt e), fun k hk e => x.out.2 k hk (hE' k (x.row.blk k hk).2 e)⟩, fun y hy => ?_⟩
  have sy := x.syms y hy
  exact (sy.excl (E' := fun k => E' k ∨ k = g ∨ v.ownBlock = some k) (fun k hk e => e.imp (hE' k hk) id)).sameAt (fun hx q hq => blk q.block (by have hi := sy.inn; rw [hq] at hi; exact in_lt hi hx) (fun e => sy.blk hx q hq (.inl e)))
theorem RsAt.moved {B : Nat} {E E' : Nat → Prop} {w w' : World} {g h : Nat} {v u u' : Value} {s : Rs} (x : RsAt B E w g v s) (st : Steps h u u' w w') (hE : ∀ k, k = h ∨ u.ownBlock = some k → E k) (hE' : ∀ k, k < w.heap.size → E' k → E k) : RsAt B E' w' g v s := by
  have blk : ∀ k, k < w.heap.size → ¬ E k → w'.heap[k]? = w.heap[k]? := fun k hk hn => st.apart.block k hk (fun e => hn (hE k (.inl e))) (fun e => hn (hE k (.inr e.symm)))
  refine ⟨x.m.same (blk g x.m.lt x.out.1), x.row.same st.apart.size (fun k hk => blk k (x.row.blk k hk).2 (x.out.2 k hk)), x.far, x.bg, ⟨fun e => x.out.1 (hE' g x.m.lt e), fun k hk e => x.out.2 k hk (hE' k (x.row.blk k hk).2 e)⟩, fun y hy => ?_⟩
  have sy := x.syms y hy
  exact (sy.excl (E' := fun k => E' k ∨ k = g ∨ v.ownBlock = some k) (fun k hk e => e.imp (hE' k hk) id)).sameAt (fun hx q hq => blk q.block (by have hi := sy.inn; rw [hq] at hi; exact in_lt hi hx) (fun e => sy.blk hx q hq (.inl e)))

/-- Both senders in memory, of which the one touches nothing of the other. -/
structure Both (B gp gr : Nat) (w : World) (k : Nat) (vp vr : Value) (p r : Rs) : Prop where
  x : PsAt B (fun q => q < B ∨ q = gr ∨ vr.ownBlock = some q) w gp vp p
  y : RsAt B (fun q => q < B ∨ q = gp ∨ vp.ownBlock = some q) w gr vr r
  sim : Sim p r
  ok : r.Ok
  ta : r.ta = r.ac + r.ks.length
  b : r.ta ≤ k
theorem Both.keep {B gp gr : Nat} {w w' : World} {k : Nat} {vp vr : Value} {p r : Rs} (h : Both B gp gr w k vp vr p r) (hb : Below w.heap.size w w') : Both B gp gr w' k vp vr p r := ⟨h.x.keep hb, h.y.keep hb, h.sim, h.ok, h.ta, h.b⟩
/-- Behind the program's call: the reference's sender as it was. -/
theorem Both.prog {B gp gr : Nat} {w w' : World} {k : Nat} {vp vp' vr : Value} {p r : Rs} (h : Both B gp gr w k vp vr p r) (st : Steps gp vp vp' w w') : RsAt B (fun q => q < B ∨ q = gp ∨ vp'.ownBlock = some q) w' gr vr r :=
  h.y.moved st (fun q hq => .inr hq) (fun q hq e => e.imp id (fun e => e.imp id (fun e => (st.far q e).elim id (fun h => by omega))))
/-- Behind the reference's call: the program's sender as it was. -/
theorem Both.back {B gp gr : Nat} {w w' : World} {vp vr vr' : Value} {p : Rs} (x : PsAt B (fun q => q < B ∨ q = gr ∨ vr.ownBlock = some q) w gp vp p) (st : Steps gr vr vr' w w') : PsAt B (fun q => q < B ∨ q = gr ∨ vr'.ownBlock = some q) w' gp vp p :=
  x.moved st (fun q hq => .inr hq) (fun q hq e => e.imp id (fun e => e.imp id (fun e => (st.far q e).elim id (fun h => by omega))))
end Go.Proofs.Ytfpicobjnpjhlaa
