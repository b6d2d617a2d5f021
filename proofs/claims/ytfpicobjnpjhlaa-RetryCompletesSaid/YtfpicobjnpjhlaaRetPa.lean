/- The pieces of a conversation in memory: who may change which block; the sender as the mathematics tells it. -/
import Derived.Test.YtfpicobjnpjhlaaRetSm
import Derived.Test.YtfpicobjnpjhlaaRetM3
namespace Go.Proofs.Ytfpicobjnpjhlaa
open Go.RowKit

/-- A step of the component c: of the blocks that were there only those with its mark change; O says a block's mark. -/
structure Stp (B c : Nat) (O O' : Nat → Nat) (w w' : World) : Prop where
  os : w'.os = w.os
  tape : w'.tape = w.tape
  output : w'.output = w.output
  size : w.heap.size ≤ w'.heap.size
  block : ∀ k, k < w.heap.size → O k ≠ c → w'.heap[k]? = w.heap[k]?
  same : ∀ k, k < w.heap.size → O' k = O k
  tags : ∀ k, O' k ≠ 0 → B ≤ k ∧ k < w'.heap.size
def Tags (B : Nat) (O : Nat → Nat) (w : World) : Prop := ∀ k, O k ≠ 0 → B ≤ k ∧ k < w.heap.size
theorem Stp.fresh {B : Nat} (c : Nat) {O : Nat → Nat} {w w' : World} (ht : Tags B O w) (h : Below w.heap.size w w') : Stp B c O O w w' :=
  ⟨h.os, h.tape, h.output, h.size, fun k hk _ => h.block k hk, fun _ _ => rfl, fun k hk => ⟨(ht k hk).1, Nat.lt_of_lt_of_le (ht k hk).2 h.size⟩⟩
theorem Stp.below {B c : Nat} {O O' : Nat → Nat} {w0 w w' : World} (x : Stp B c O O' w w') (hc : c ≠ 0) (ht : Tags B O w) (hb : Below B w0 w) (hB : B ≤ w.heap.size) : Below B w0 w' :=
  ⟨x.os.trans hb.os, x.tape.trans hb.tape, x.output.trans hb.output, Nat.le_trans hb.size x.size, fun k hk => (x.block k (by omega) (fun e => by have := ht k (by rw [e]; exact hc); omega)).trans (hb.block k hk)⟩
/-- The row of a component lies in r now. -/
def upd (O : Nat → Nat) (r : Option Nat) (c : Nat) : Nat → Nat := fun k => if r = some k then c else O k
theorem upd_at (O : Nat → Nat) (r : Option Nat) (c k : Nat) (h : r = some k) : upd O r c k = c := by unfold upd; rw [if_pos h]
theorem upd_ne (O : Nat → Nat) (r : Option Nat) (c k : Nat) (h : r ≠ some k) : upd O r c k = O k := by unfold upd; rw [if_neg h]
/-- A step that an owner's row makes. -/
theorem Stp.row {B c : Nat} {O : Nat → Nat} {w w' : World} {r r' : Option Nat} (ht : Tags B O w) (os : w'.os = w.os) (tape : w'.tape = w.tape) (output : w'.output = w.output) (size : w.heap.size ≤ w'.heap.size)
    (hb : ∀ k, k < w.heap.size → O k ≠ c → w'.heap[k]? = w.heap[k]?) (hr : ∀ k, r = some k → O k = c) (hf : ∀ k, r' = some k → r = some k ∨ w.heap.size ≤ k) (hB : ∀ k, r' = some k → B ≤ k ∧ k < w'.heap.size) : Stp B c O (upd O r' c) w w' := by
  refine ⟨os, tape, output, size, hb, fun k hk => ?_, fun k hk => ?_⟩
  · by_cases h : r' = some k
    · rw [upd_at _ _ _ _ h]
      rcases hf k h with h2 | h2
      · exact (hr k h2).symm
      · omega
    · exact upd_ne _ _ _ _ h
  · by_cases h : r' = some k
    · exact hB k h
    · rw [upd_ne _ _ _ _ h] at hk
      exact ⟨(ht k hk).1, Nat.lt_of_lt_of_le (ht k hk).2 size⟩

/-- The sender with its mark. -/
structure SndAt (B : Nat) (O : Nat → Nat) (w : World) (g : Nat) (v : Value) (s : Rs) : Prop where
  x : PsAt B (fun q => 2 ≤ O q) w g v s
  og : O g = 1
  ov : ∀ k, v.ownBlock = some k → O k = 1
theorem SndAt.frame {B c : Nat} {O O' : Nat → Nat} {w w' : World} {g : Nat} {v : Value} {s : Rs} (h : SndAt B O w g v s) (st : Stp B c O O' w w') (hc : 2 ≤ c) : SndAt B O' w' g v s := by
  have lv : ∀ k, v.ownBlock = some k → k < w.heap.size := fun k hk => (h.x.row.blk k hk).2
  refine ⟨⟨h.x.m.same (st.block g h.x.m.lt (by rw [h.og]; omega)), h.x.row.same st.size (fun k hk => st.block k (lv k hk) (by rw [h.ov k hk]; omega)), h.x.far, h.x.bg, ⟨?_, fun k hk => ?_⟩, fun y hy => ?_⟩, (st.same g h.x.m.lt).trans h.og, fun k hk => (st.same k (lv k hk)).trans (h.ov k hk)⟩
  · show ¬ 2 ≤ O' g
    rw [st.same g h.x.m.lt, h.og]; omega
  · show ¬ 2 ≤ O' k
    rw [st.same k (lv k hk), h.ov k hk]; omega
  · have sy := h.x.syms y hy
    have hl : y.xs ≠ [] → ∀ q, y.a = some q → q.block < w.heap.size := fun hx q hq => by have hi := sy.inn; rw [hq] at hi; exact in_lt hi hx
    refine ⟨in_same sy.inn (fun hx q hq => st.block _ (hl hx q hq) (fun e => sy.blk hx q hq (.inl (by show 2 ≤ O q.block; omega)))), fun hx q hq he => ?_, sy.nil⟩
    refine sy.blk hx q hq ?_
    rcases he with he | he
    · left
      have he : 2 ≤ O' q.block := he
      show 2 ≤ O q.block
      rw [← st.same _ (hl hx q hq)]; exact he
    · exact .inr he
/-- A call of the sender's own. -/
theorem SndAt.step {B : Nat} {O : Nat → Nat} {w w' : World} {g : Nat} {v v' : Value} {s s' : Rs} (h : SndAt B O w g v s) (ht : Tags B O w) (x' : PsAt B (fun q => 2 ≤ O q) w' g v' s') (st : Steps g v v' w w') : Stp B 1 O (upd O v'.ownBlock 1) w w' ∧ SndAt B (upd O v'.ownBlock 1) w' g v' s' := by
  have hg := h.x.m.lt
  refine ⟨Stp.row (r := v.ownBlock) ht st.apart.os st.apart.tape st.apart.output st.apart.size (fun k hk ho => st.apart.block k hk (fun e => ho (by rw [e]; exact h.og)) (fun e => ho (h.ov k e.symm))) h.ov (fun k hk => st.far k hk) (fun k hk => x'.row.blk k hk), ⟨x'.zone (fun k hk he => ?_), ?_, fun k hk => upd_at _ _ _ _ hk⟩⟩
  · have he : 2 ≤ upd O v'.ownBlock 1 k := he
    by_cases hk : v'.ownBlock = some k
    · rw [upd_at _ _ _ _ hk] at he; omega
    · rwa [upd_ne _ _ _ _ hk] at he
  · rw [upd_ne _ _ _ _ x'.far]; exact h.og

/-- An item on the way: a number and a string. -/
abbrev It := Nat × ByteArray
/-- A slice of items in blocks that nobody changes. -/
def EntIn (O : Nat → Nat) (w : World) (v : Value) (l : List It) : Prop := ∃ (a : Option Addr) (c : Nat), v = .slice a l.length c ∧ (a = none → c = 0) ∧
  (l = [] ∨ ∃ b i, a = some ⟨b, i, none⟩ ∧ O b = 0 ∧ b < w.heap.size ∧ ∀ j (h : j < l.length), w.cell? ⟨b, i + j * 2, none⟩ = some (.int .i64 (l[j].1 : Int)) ∧ w.cell? ⟨b, i + j * 2 + 1, none⟩ = some (.string l[j].2))
theorem EntIn.frame {B c : Nat} {O O' : Nat → Nat} {w w' : World} {v : Value} {l : List It} (h : EntIn O w v l) (st : Stp B c O O' w w') (hc : c ≠ 0) : EntIn O' w' v l := by
  obtain ⟨a, k, e, hn, h⟩ := h
  refine ⟨a, k, e, hn, h.imp id ?_⟩
  rintro ⟨b, i, e2, ho, hl, hcell⟩
  have eb := st.block b hl (by rw [ho]; omega)
  refine ⟨b, i, e2, (st.same b hl).trans ho, Nat.lt_of_lt_of_le hl st.size, fun j hj => ⟨?_, ?_⟩⟩
  · rw [World.cell?_of_block (a := ⟨b, i + j * 2, none⟩) eb]; exact (hcell j hj).1
  · rw [World.cell?_of_block (a := ⟨b, i + j * 2 + 1, none⟩) eb]; exact (hcell j hj).2
/-- A wire in memory. -/
structure WireAt (B c : Nat) (O : Nat → Nat) (w : World) (gw : Nat) (v : Value) (L : List (List It)) : Prop where
  q : w.cell? ⟨gw, 0, none⟩ = some v
  z : w.frozen? ⟨gw, 0, none⟩ = false
  og : O gw = c
  ov : ∀ k, v.ownBlock = some k → O k = c
  far : v.ownBlock ≠ some gw
  row : ∃ es : List Value, QRow B w v es ∧ es.length = L.length ∧ ∀ i (h : i < es.length) (h' : i < L.length), EntIn O w es[i] L[i]
theorem WireAt.lt {B c : Nat} {O : Nat → Nat} {w : World} {gw : Nat} {v : Value} {L : List (List It)} (h : WireAt B c O w gw v L) : gw < w.heap.size := World.block_lt_of_cell? w ⟨gw, 0, none⟩ h.q
theorem WireAt.frame {B c e : Nat} {O O' : Nat → Nat} {w w' : World} {gw : Nat} {v : Value} {L : List (List It)} (h : WireAt B c O w gw v L) (st : Stp B e O O' w w') (he : e ≠ c) (h0 : e ≠ 0) : WireAt B c O' w' gw v L := by
  have eb := st.block gw h.lt (by rw [h.og]; exact fun e => he e.symm)
  obtain ⟨es, h1, h2, h3⟩ := h.row
  have lv : ∀ k, v.ownBlock = some k → k < w.heap.size := fun k hk => (h1.blk k hk).2
  exact ⟨by rw [World.cell?_of_block (a := ⟨gw, 0, none⟩) eb]; exact h.q, by rw [World.frozen?_of_block (a := ⟨gw, 0, none⟩) eb]; exact h.z, (st.same gw h.lt).trans h.og, fun k hk => (st.same k (lv k hk)).trans (h.ov k hk), h.far,
    es, h1.same st.size (fun k hk => st.block k (lv k hk) (by rw [h.ov k hk]; exact fun e => he e.symm)), h2, fun i hi hi' => (h3 i hi hi').frame st h0⟩
/-- The receiver. -/
structure RcAt (O : Nat → Nat) (w : World) (gr R : Nat) : Prop where
  x : RcvAt w gr R
  og : O gr = 2
theorem RcAt.frame {B c : Nat} {O O' : Nat → Nat} {w w' : World} {gr R : Nat} (h : RcAt O w gr R) (st : Stp B c O O' w w') (hc : c ≠ 2) : RcAt O' w' gr R := by
  have hl : gr < w.heap.size := World.block_lt_of_cell? w ⟨gr, 0, none⟩ h.x.q
  have eb := st.block gr hl (by rw [h.og]; exact fun e => hc e.symm)
  exact ⟨⟨by rw [World.cell?_of_block (a := ⟨gr, 0, none⟩) eb]; exact h.x.q, by rw [World.frozen?_of_block (a := ⟨gr, 0, none⟩) eb]; exact h.x.z⟩, (st.same gr hl).trans h.og⟩
/-- The data of the i-th packet. -/
def dat (i : Nat) : List Nat := [97 + i % 26, 48 + i / 26 % 10]
def strs (n : Nat) : List Value := (List.range n).map (fun i => .string (strOf (dat i)))
/-- A row of the packets' strings. -/
structure StrAt (B c : Nat) (O : Nat → Nat) (w : World) (v : Value) (n : Nat) : Prop where
  row : w.ownsRow B 9 1 v n (strs n)
  ov : ∀ k, v.ownBlock = some k → O k = c
theorem StrAt.frame {B c e : Nat} {O O' : Nat → Nat} {w w' : World} {v : Value} {n : Nat} (h : StrAt B c O w v n) (st : Stp B e O O' w w') (he : e ≠ c) : StrAt B c O' w' v n :=
  ⟨row_same h.row (fun k hk => st.block k (row_blk h.row k hk).2 (by rw [h.ov k hk]; exact fun e => he e.symm)), fun k hk => (st.same k (row_blk h.row k hk).2).trans (h.ov k hk)⟩
/-- Cells that nobody changes. -/
structure FixAt (O : Nat → Nat) (w : World) (xb : Nat) (cs : List Value) : Prop where
  og : O xb = 0
  lt : xb < w.heap.size
  at_ : ∀ i (h : i < cs.length), w.cell? ⟨xb, i, none⟩ = some cs[i]
theorem FixAt.frame {B c : Nat} {O O' : Nat → Nat} {w w' : World} {xb : Nat} {cs : List Value} (h : FixAt O w xb cs) (st : Stp B c O O' w w') (hc : c ≠ 0) : FixAt O' w' xb cs := by
  have eb := st.block xb h.lt (by rw [h.og]; exact fun e => hc e.symm)
  exact ⟨(st.same xb h.lt).trans h.og, Nat.lt_of_lt_of_le h.lt st.size, fun i hi => by rw [World.cell?_of_block (a := ⟨xb, i, none⟩) eb]; exact h.at_ i hi⟩

/-- All of a conversation in memory. -/
structure Env (B : Nat) (w0 : World) (g gr gt gb xb : Nat) (cs : List Value) (O : Nat → Nat) (w : World) (v : Value) (s : Rs) (R : Nat) (vt : Value) (LT : List (List It)) (vb : Value) (LB : List (List It)) (vo : Value) (no : Nat) (va : Value) (na : Nat) : Prop where
  snd : SndAt B O w g v s
  rcv : RcAt O w gr R
  thr : WireAt B 3 O w gt vt LT
  bck : WireAt B 4 O w gb vb LB
  off : StrAt B 5 O w vo no
  acc : StrAt B 6 O w va na
  fix : FixAt O w xb cs
  tags : Tags B O w
  bel : Below B w0 w
  hB : B ≤ w.heap.size
section
variable {B : Nat} {w0 : World} {g gr gt gb xb : Nat} {cs : List Value} {O O' : Nat → Nat} {w w' : World} {v v' : Value} {s s' : Rs} {R R' : Nat} {vt vt' : Value} {LT LT' : List (List It)} {vb vb' : Value} {LB LB' : List (List It)} {vo vo' : Value} {no no' : Nat} {va va' : Value} {na na' : Nat}
theorem Env.fresh (h : Env B w0 g gr gt gb xb cs O w v s R vt LT vb LB vo no va na) (hb : Below w.heap.size w w') : Env B w0 g gr gt gb xb cs O w' v s R vt LT vb LB vo no va na :=
  have st := Stp.fresh 99 h.tags hb
  ⟨h.snd.frame st (by decide), h.rcv.frame st (by decide), h.thr.frame st (by decide) (by decide), h.bck.frame st (by decide) (by decide), h.off.frame st (by decide), h.acc.frame st (by decide), h.fix.frame st (by decide), st.tags, st.below (by decide) h.tags h.bel h.hB, Nat.le_trans h.hB st.size⟩
theorem Env.sender (h : Env B w0 g gr gt gb xb cs O w v s R vt LT vb LB vo no va na) (x' : PsAt B (fun q => 2 ≤ O q) w' g v' s') (st : Steps g v v' w w') : Env B w0 g gr gt gb xb cs (upd O v'.ownBlock 1) w' v' s' R vt LT vb LB vo no va na := by
  obtain ⟨st, hs⟩ := h.snd.step h.tags x' st
  exact ⟨hs, h.rcv.frame st (by decide), h.thr.frame st (by decide) (by decide), h.bck.frame st (by decide) (by decide), h.off.frame st (by decide), h.acc.frame st (by decide), h.fix.frame st (by decide), st.tags, st.below (by decide) h.tags h.bel h.hB, Nat.le_trans h.hB st.size⟩
theorem Env.receiver (h : Env B w0 g gr gt gb xb cs O w v s R vt LT vb LB vo no va na) (x' : RcvAt w' gr R') (ap : Apart gr none w w') : Env B w0 g gr gt gb xb cs O w' v s R' vt LT vb LB vo no va na :=
  have st : Stp B 2 O O w w' := ⟨ap.os, ap.tape, ap.output, ap.size, fun k hk ho => ap.block k hk (fun e => ho (by rw [e]; exact h.rcv.og)) (fun e => by cases e), fun _ _ => rfl, fun k hk => ⟨(h.tags k hk).1, Nat.lt_of_lt_of_le (h.tags k hk).2 ap.size⟩⟩
  ⟨h.snd.frame st (by decide), ⟨x', h.rcv.og⟩, h.thr.frame st (by decide) (by decide), h.bck.frame st (by decide) (by decide), h.off.frame st (by decide), h.acc.frame st (by decide), h.fix.frame st (by decide), st.tags, st.below (by decide) h.tags h.bel h.hB, Nat.le_trans h.hB st.size⟩
theorem Env.wireT (h : Env B w0 g gr gt gb xb cs O w v s R vt LT vb LB vo no va na) (st : Stp B 3 O O' w w') (x' : WireAt B 3 O' w' gt vt' LT') : Env B w0 g gr gt gb xb cs O' w' v s R vt' LT' vb LB vo no va na :=
  ⟨h.snd.frame st (by decide), h.rcv.frame st (by decide), x', h.bck.frame st (by decide) (by decide), h.off.frame st (by decide), h.acc.frame st (by decide), h.fix.frame st (by decide), st.tags, st.below (by decide) h.tags h.bel h.hB, Nat.le_trans h.hB st.size⟩
theorem Env.wireB (h : Env B w0 g gr gt gb xb cs O w v s R vt LT vb LB vo no va na) (st : Stp B 4 O O' w w') (x' : WireAt B 4 O' w' gb vb' LB') : Env B w0 g gr gt gb xb cs O' w' v s R vt LT vb' LB' vo no va na :=
  ⟨h.snd.frame st (by decide), h.rcv.frame st (by decide), h.thr.frame st (by decide) (by decide), x', h.off.frame st (by decide), h.acc.frame st (by decide), h.fix.frame st (by decide), st.tags, st.below (by decide) h.tags h.bel h.hB, Nat.le_trans h.hB st.size⟩
/-- A row of strings has grown by the next packet's. -/
theorem StrAt.grow {c : Nat} {n : Nat} {u u' : Value} (ht : Tags B O w) (hu : StrAt B c O w u n) (gb2 : w.grownBy w' u.ownBlock) (row : w'.ownsRow B 9 1 u' (n + 1) (strs (n + 1))) (hf : u'.ownBlock = u.ownBlock ∨ u'.ownBlock = some w.heap.size) : Stp B c O (upd O u'.ownBlock c) w w' ∧ StrAt B c (upd O u'.ownBlock c) w' u' (n + 1) :=
  ⟨Stp.row (r := u.ownBlock) ht gb2.os gb2.tape gb2.output gb2.size (fun k hk ho => gb2.block k hk (fun e => ho (hu.ov k e.symm))) hu.ov (fun k hk => hf.elim (fun h => .inl (h ▸ hk)) (fun h => .inr (by rw [h] at hk; have := Option.some.inj hk; omega))) (fun k hk => row_blk row k hk), ⟨row, fun k hk => upd_at _ _ _ _ hk⟩⟩
theorem Env.offered (h : Env B w0 g gr gt gb xb cs O w v s R vt LT vb LB vo no va na) (gb2 : w.grownBy w' vo.ownBlock) (row : w'.ownsRow B 9 1 vo' (no + 1) (strs (no + 1))) (hf : vo'.ownBlock = vo.ownBlock ∨ vo'.ownBlock = some w.heap.size) : Env B w0 g gr gt gb xb cs (upd O vo'.ownBlock 5) w' v s R vt LT vb LB vo' (no + 1) va na := by
  obtain ⟨st, hs⟩ := h.off.grow h.tags gb2 row hf
  exact ⟨h.snd.frame st (by decide), h.rcv.frame st (by decide), h.thr.frame st (by decide) (by decide), h.bck.frame st (by decide) (by decide), hs, h.acc.frame st (by decide), h.fix.frame st (by decide), st.tags, st.below (by decide) h.tags h.bel h.hB, Nat.le_trans h.hB st.size⟩
theorem Env.accepted (h : Env B w0 g gr gt gb xb cs O w v s R vt LT vb LB vo no va na) (gb2 : w.grownBy w' va.ownBlock) (row : w'.ownsRow B 9 1 va' (na + 1) (strs (na + 1))) (hf : va'.ownBlock = va.ownBlock ∨ va'.ownBlock = some w.heap.size) : Env B w0 g gr gt gb xb cs (upd O va'.ownBlock 6) w' v s R vt LT vb LB vo no va' (na + 1) := by
  obtain ⟨st, hs⟩ := h.acc.grow h.tags gb2 row hf
  exact ⟨h.snd.frame st (by decide), h.rcv.frame st (by decide), h.thr.frame st (by decide) (by decide), h.bck.frame st (by decide) (by decide), h.off.frame st (by decide), hs, h.fix.frame st (by decide), st.tags, st.below (by decide) h.tags h.bel h.hB, Nat.le_trans h.hB st.size⟩
end

/-- The sender is as the mathematics tells it. -/
structure Snd (W τ : Nat) (st : Talk.St) (s : Rs) : Prop where
  eW : s.W = W
  eτ : s.τ = τ
  len : s.ks.length = st.T - st.A
  xs : ∀ (k : Nat) (h : k < s.ks.length), (s.ks[k]'h).xs = dat (st.A + k)
  ac : s.ac = st.A
  nx : s.nx = st.N - st.A
  hi : s.hi = st.H - st.A
  si : s.si = st.S
theorem dat_len (i : Nat) : (dat i).length = 2 := rfl
theorem Snd.xs64 {W τ : Nat} {st : Talk.St} {s : Rs} (h : Snd W τ st s) : ∀ k ∈ s.ks, k.xs.length ≤ 64 := by
  intro k hk
  obtain ⟨i, hi, rfl⟩ := List.getElem_of_mem hk
  rw [h.xs i hi, dat_len]; decide
theorem Snd.off {W τ : Nat} {st : Talk.St} {s : Rs} (h : Snd W τ st s) (hTA : st.A ≤ st.T) (k : Kp) (hk : k.xs = dat st.T) : Snd W τ (Talk.offer W st) (offS s k) ∧ (offC s k.xs = 0 ↔ st.T - st.A < W) := by
  obtain ⟨e1, e2, e3, e4, e5, e6, e7, e8⟩ := h
  have hc : offC s k.xs = if st.T - st.A < W then 0 else 5 := by
    unfold offC
    rw [if_neg (by rw [hk, dat_len]; decide), e3, e1]
    by_cases hw : st.T - st.A < W
    · rw [if_pos hw, if_neg (by omega)]
    · rw [if_neg hw, if_pos (by omega)]
  unfold Talk.offer offS
  rw [hc]
  by_cases hw : st.T - st.A < W
  · rw [if_pos hw, if_pos hw, if_pos rfl]
    refine ⟨⟨e1, e2, ?_, fun q hq => ?_, e5, e6, e7, e8⟩, by simp [hw]⟩
    · show (s.ks ++ [k]).length = st.T + 1 - st.A; simp; omega
    · show ((s.ks ++ [k])[q]'hq).xs = dat (st.A + q)
      by_cases hq2 : q < s.ks.length
      · rw [List.getElem_append_left hq2]; exact e4 q hq2
      · have : q = s.ks.length := by have h : q < (s.ks ++ [k]).length := hq; simp at h; omega
        subst this
        rw [List.getElem_append_right (Nat.le_refl _)]
        simp only [Nat.sub_self, List.getElem_cons_zero]
        rw [hk, e3, show st.A + (st.T - st.A) = st.T by omega]
  · rw [if_neg hw, if_neg hw, if_neg (by decide)]
    exact ⟨⟨e1, e2, e3, e4, e5, e6, e7, e8⟩, by simp [hw]⟩
theorem Snd.ok {W τ : Nat} {st : Talk.St} {s : Rs} {pt : List (Nat × Nat)} {pb : List (Nat × Bool)} (h : Snd W τ st s) (hI : Talk.Inv W st pt pb) (h1 : 1 ≤ W) (h2 : W ≤ 128) (h3 : 1 ≤ τ) (h4 : τ ≤ 1000) (hS : st.S < τ) : s.Ok := by
  obtain ⟨e1, e2, e3, e4, e5, e6, e7, e8⟩ := h
  have a1 := hI.ar; have a2 := hI.rh; have a3 := hI.ht; have a4 := hI.tw; have a5 := hI.an; have a6 := hI.nh
  exact ⟨by omega, by omega, by omega, by omega, by omega, by omega, by omega, by omega, Snd.xs64 ⟨e1, e2, e3, e4, e5, e6, e7, e8⟩⟩
/-- The tick of the sender is that of the mathematics. -/
theorem Snd.tick {W τ : Nat} {st : Talk.St} {s : Rs} {pt : List (Nat × Nat)} {pb : List (Nat × Bool)} (h : Snd W τ st s) (hI : Talk.Inv W st pt pb) :
    Snd W τ (Talk.tick τ st).1 (tickS s) ∧ (tickI s).isSome = (Talk.tick τ st).2.isSome ∧ ∀ i, (Talk.tick τ st).2 = some i → tickN s = i % 256 ∧ tickX s = dat i := by
  obtain ⟨e1, e2, e3, e4, e5, e6, e7, e8⟩ := h
  have a1 := hI.ar; have a2 := hI.rh; have a3 := hI.ht; have a5 := hI.an; have a6 := hI.nh
  have send : ∀ (i : Nat), st.A ≤ i → i < st.T → tickI s = some (i - st.A) → Snd W τ { st with N := i + 1, H := max st.H (i + 1), S := 0 } (tickS s) ∧ tickN s = i % 256 ∧ tickX s = dat i := by
    intro i h0 h1 hI2
    have hl : i - st.A < s.ks.length := by omega
    refine ⟨?_, ?_, ?_⟩
    · unfold tickS
      rw [hI2]
      exact ⟨e1, e2, e3, e4, e5, by show i - st.A + 1 = i + 1 - st.A; omega, by show max s.hi (i - st.A + 1) = max st.H (i + 1) - st.A; omega, rfl⟩
    · unfold tickN
      rw [hI2]
      show (s.ac + (i - st.A)) % 256 = i % 256
      rw [e5, show st.A + (i - st.A) = i by omega]
    · unfold tickX
      rw [hI2]
      simp only []
      rw [List.getElem?_eq_getElem hl]
      show (s.ks[i - st.A]'hl).xs = dat i
      rw [e4, show st.A + (i - st.A) = i by omega]
  unfold Talk.tick
  by_cases h1 : st.N < st.T
  · have hI2 : tickI s = some (st.N - st.A) := by unfold tickI; rw [if_pos (by omega), e6]
    rw [if_pos h1]
    obtain ⟨s1, s2, s3⟩ := send st.N a5 h1 hI2
    exact ⟨s1, by simp [hI2], fun i hi => by cases hi; exact ⟨s2, s3⟩⟩
  · rw [if_neg h1]
    by_cases h2 : st.T = st.A
    · have hI2 : tickI s = none := by unfold tickI; rw [if_neg (by omega), if_pos (by omega)]
      rw [if_pos h2]
      refine ⟨?_, by simp [hI2], fun i hi => by cases hi⟩
      unfold tickS
      rw [hI2]
      exact ⟨e1, e2, e3, e4, e5, e6, e7, by show (if s.ks.length = 0 then s.si else s.si + 1) = st.S; rw [if_pos (by omega), e8]⟩
    · rw [if_neg h2]
      by_cases h3 : st.S + 1 < τ
      · have hI2 : tickI s = none := by unfold tickI; rw [if_neg (by omega), if_neg (by omega), if_pos (by omega)]
        rw [if_pos h3]
        refine ⟨?_, by simp [hI2], fun i hi => by cases hi⟩
        unfold tickS
        rw [hI2]
        exact ⟨e1, e2, e3, e4, e5, e6, e7, by show (if s.ks.length = 0 then s.si else s.si + 1) = st.S + 1; rw [if_neg (by omega), e8]⟩
      · have hI2 : tickI s = some 0 := by unfold tickI; rw [if_neg (by omega), if_neg (by omega), if_neg (by omega)]
        rw [if_neg h3]
        have hI3 : tickI s = some (st.A - st.A) := by rw [Nat.sub_self]; exact hI2
        obtain ⟨s1, s2, s3⟩ := send st.A (Nat.le_refl _) (by omega) hI3
        exact ⟨s1, by simp [hI2], fun i hi => by cases hi; exact ⟨s2, s3⟩⟩
/-- .. an acknowledgment. -/
theorem Snd.ack {W τ : Nat} {st : Talk.St} {s : Rs} {y : Nat × Bool} {pt : List (Nat × Nat)} {pb : List (Nat × Bool)} (h : Snd W τ st s) (hI : Talk.Inv W st pt (y :: pb)) (hW : W ≤ 128) :
    Snd W τ (Talk.ack st y) (if y.2 then nakS s ((y.1 % 256 : Nat) : Int) else ackS s ((y.1 % 256 : Nat) : Int)) := by
  obtain ⟨e1, e2, e3, e4, e5, e6, e7, e8⟩ := h
  have a1 := hI.ar; have a2 := hI.rh; have a3 := hI.ht; have a5 := hI.an; have a6 := hI.nh; have a7 := hI.tw
  obtain ⟨c1, c2, c3⟩ := hI.count hW
  have hc : cntR s.ac s.hi ((y.1 % 256 : Nat) : Int) = ((y.1 - st.A : Nat) : Int) := by
    unfold cntR
    rw [if_neg (by omega), e5, e7, if_neg (by omega)]
    omega
  have hK : ackK s ((y.1 % 256 : Nat) : Int) = y.1 - st.A := by unfold ackK; rw [hc]; rfl
  have hA : Snd W τ { st with A := y.1, N := max st.N y.1, S := if y.1 ≠ st.A then 0 else st.S } (ackS s ((y.1 % 256 : Nat) : Int)) := by
    unfold ackS
    rw [hc]
    by_cases h0 : y.1 = st.A
    · have hle : ((y.1 - st.A : Nat) : Int) ≤ 0 := by omega
      rw [if_pos hle]
      exact ⟨e1, e2, by show s.ks.length = st.T - y.1; omega, fun k hk => by show _ = dat (y.1 + k); rw [h0]; exact e4 k hk, by show s.ac = y.1; omega, by show s.nx = max st.N y.1 - y.1; omega, by show s.hi = st.H - y.1; omega, by show s.si = if y.1 ≠ st.A then 0 else st.S; rw [if_neg (by omega), e8]⟩
    · have hle : ¬ ((y.1 - st.A : Nat) : Int) ≤ 0 := by omega
      rw [if_neg hle, hK]
      refine ⟨e1, e2, by show (s.ks.drop _).length = st.T - y.1; rw [List.length_drop]; omega, fun k hk => ?_, by show s.ac + (y.1 - st.A) = y.1; omega, by show s.nx - (y.1 - st.A) = max st.N y.1 - y.1; omega, by show s.hi - (y.1 - st.A) = st.H - y.1; omega, by show 0 = if y.1 ≠ st.A then 0 else st.S; rw [if_pos h0]⟩
      have hk' : k < (s.ks.drop (y.1 - st.A)).length := hk
      show ((s.ks.drop (y.1 - st.A))[k]'hk').xs = dat (y.1 + k)
      rw [List.getElem_drop, e4, show st.A + (y.1 - st.A + k) = y.1 + k by omega]
  unfold Talk.ack
  cases hy : y.2
  · simp only [Bool.false_eq_true, if_false, false_or]
    exact hA
  · simp only [if_true, true_or]
    have e : nakS s ((y.1 % 256 : Nat) : Int) = ⟨s.W, s.τ, (ackS s ((y.1 % 256 : Nat) : Int)).ks, (ackS s ((y.1 % 256 : Nat) : Int)).ta, (ackS s ((y.1 % 256 : Nat) : Int)).ac, 0, (ackS s ((y.1 % 256 : Nat) : Int)).hi, 0⟩ := by unfold nakS; rw [if_neg (by rw [hc]; omega)]
    rw [e]
    exact ⟨e1, e2, hA.len, hA.xs, hA.ac, by show 0 = y.1 - y.1; omega, hA.hi, rfl⟩
end Go.Proofs.Ytfpicobjnpjhlaa
