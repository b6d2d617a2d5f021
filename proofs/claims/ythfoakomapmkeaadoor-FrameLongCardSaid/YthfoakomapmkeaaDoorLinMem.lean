/- Bytes in memory: what lies at an address, slices of the call's own, appending to them. -/
import Derived.Test.YthfoakomapmkeaaDoorLinA
import Derived.Laws.OwnMore
import Derived.Laws.AppendOwnNone
import Derived.Laws.AppendOwn
import Derived.OwnWalk
import Derived.Deep.QuietTactic
import Derived.BigQuiet
import Derived.Lib.SliceRun
namespace Go.Proofs.YthfoakomapmkeaaDoor
open Go.RowKit

/-- The bytes xs lie from an address on. -/
def At (w : World) (a : Addr) (xs : List Nat) : Prop := ∀ i : Nat, i < xs.length → w.cell? (a.add i) = some (nU8 (xs.getD i 0))
/-- The bytes xs lie at the slice's address; nothing is said where there is none. -/
def In (w : World) (a : Option Addr) (xs : List Nat) : Prop := xs = [] ∨ ∃ b, a = some b ∧ At w b xs
theorem In.below {w w' : World} {a : Option Addr} {xs : List Nat} (h : In w a xs) (hb : Below w.heap.size w w') : In w' a xs := by
  rcases h with h | ⟨b, rfl, h⟩
  · exact .inl h
  · exact .inr ⟨b, rfl, fun i hi => (hb.cell (World.block_lt_of_cell? w _ (h i hi))).trans (h i hi)⟩
theorem HasTab.below {w w' : World} (h : HasTab w) (hb : Below w.heap.size w w') : HasTab w' := by
  obtain ⟨fr, t, hg⟩ := h
  exact ⟨fr, t, (hb.block 0 (Array.getElem?_eq_some_iff.1 hg).1).trans hg⟩
theorem below_drewN {W w : World} {N : Nat} (k : Nat) (h : Below N W w) : Below N W (w.drewN k) := h.trans ⟨rfl, rfl, rfl, Nat.le_refl _, fun _ _ => rfl⟩
theorem keepc {W w : World} {a : Addr} {v : Value} (hb : Below W.heap.size W w) (h : W.cell? a = some v) : w.cell? a = some v := (hb.cell (World.block_lt_of_cell? W a h)).trans h
theorem keepa {w : World} {a : Addr} {v : Value} (o : Obj) (h : w.cell? a = some v) : (w.alloc o).cell? a = some v := (World.cell?_alloc_lt _ _ _ (World.block_lt_of_cell? w a h)).trans h
theorem add_off (b i : Nat) : (⟨b, 0, none⟩ : Addr).add i = ⟨b, i, none⟩ := by
  unfold Addr.add
  by_cases h : i = 0
  · subst h; simp
  · simp [h]
theorem at_mark (w : World) (xs : List Nat) (t : TypeId) (fr : Nat × Nat) (n : Nat) (hn : n = w.heap.size) : At (w.alloc (.cells (xs.map nU8).toArray t fr)) ⟨n, 0, none⟩ xs := by
  subst hn
  intro i hi
  rw [add_off, World.cell?_alloc_mark]
  simp [hi, List.getD_eq_getElem?_getD]
theorem in_mark (w : World) (xs : List Nat) (t : TypeId) (fr : Nat × Nat) (n : Nat) (hn : n = w.heap.size) : In (w.alloc (.cells (xs.map nU8).toArray t fr)) (some ⟨n, 0, none⟩) xs := .inr ⟨_, rfl, at_mark w xs t fr n hn⟩
theorem getD_lt {xs : List Nat} {b k : Nat} (hx : ∀ x ∈ xs, x < b) (hk : k < xs.length) : xs.getD k 0 < b := by
  rw [List.getD_eq_getElem?_getD, List.getElem?_eq_getElem hk]; exact hx _ (List.getElem_mem hk)
theorem drop_getD {xs : List Nat} {k : Nat} (hk : k < xs.length) : xs.drop k = xs.getD k 0 :: xs.drop (k + 1) := by
  rw [List.drop_eq_getElem_cons hk, List.getD_eq_getElem?_getD, List.getElem?_eq_getElem hk]; rfl
theorem size_alloc {w : World} (N : Nat) (o : Obj) (h : N ≤ w.heap.size) : N ≤ (w.alloc o).heap.size := by
  show _ ≤ (w.heap.push o).size; rw [Array.size_push]; exact Nat.le_succ_of_le h

theorem Tryd.infoU8 : (Tryd.prog.info? 5).map (fun i => (i.zero, i.size, i.bytes)) = some (some (.int .u8 0), 1, 1) := by kernel_rfl
theorem Tryd.infoInt : (Tryd.prog.info? 3).map (fun i => (i.zero, i.size, i.bytes)) = some (some (.int .i64 0), 1, 8) := by kernel_rfl
theorem nU8_one (xs : List Nat) : ∀ v ∈ xs.map nU8, v.oneCell' = true := by
  intro v hv
  obtain ⟨x, _, rfl⟩ := List.mem_map.1 hv
  rfl
/-- A slice of the call's own, n long, that holds xs. -/
abbrev Own (B : Nat) (w : World) (v : Value) (n : Nat) (xs : List Nat) : Prop := w.ownsRow B 5 1 v n (xs.map nU8)
theorem own_in {w : World} {B g m cap : Nat} {zs : List Nat} (hzl : zs.length = m) (h : Own B w (.slice (some ⟨g, 0, none⟩) m cap) m zs) : In w (some ⟨g, 0, none⟩) zs := by
  refine .inr ⟨_, rfl, fun j hj => ?_⟩
  rw [add_off, h.cellAt j (by omega)]
  simp [List.getD_eq_getElem?_getD, List.getElem?_eq_getElem hj]
theorem own_form {B n : Nat} {w : World} {v : Value} {xs : List Nat} (hn : xs.length = n) (h : Own B w v n xs) : ∃ (a : Option Addr) (c : Nat), v = .slice a n c ∧ In w a xs ∧ (a = none → c = 0) ∧ n ≤ c := by
  have hc := h
  obtain ⟨_, hcase⟩ := h
  rcases hcase with ⟨rfl, h0⟩ | ⟨g, cap, cur, rfl, hg, hh, hnc, hcap, hsz, htake⟩
  · subst h0
    exact ⟨none, 0, rfl, .inl (List.length_eq_zero_iff.1 hn), fun _ => rfl, Nat.le_refl _⟩
  · exact ⟨some ⟨g, 0, none⟩, cap, rfl, own_in hn hc, (fun h => by cases h), hnc⟩
theorem own_below {w w' : World} {B base : Nat} {v : Value} {n : Nat} {xs : List Value} {w0 : World} {e : TypeId} (hown : w.ownsRow base e 1 v n xs) (hB : B ≤ base) (hb : Below B w0 w) (hs : B ≤ w.heap.size) (hg : w.grownBy w' v.ownBlock) : Below B w0 w' := by
  refine hb.grown hg hs (fun k hk => ?_)
  rcases hown.2 with ⟨rfl, _⟩ | ⟨g, cap, cur, rfl, hg', _⟩
  · cases hk
  · cases hk
    exact Nat.le_trans hB hg'

theorem wpList_append_in {w : World} {ops : Array Oper} {rest : List Oper} {o : Oper} {a : Act} {Q : Exit → Act → World → Prop} (hgd : o.guard = none) (s x : Operand)
    (ho : o.op = .call { callee := .builtin .append, args := #[s, x], argTypes := #[22, 22] })
    (base : Nat) (i : TypeInfo) (hi : Tryd.prog.info? 5 = some i) (hz : i.zero = some (.int .u8 0)) (hsize : i.size = 1) (hby : i.bytes = 1)
    (v : Value) (n : Nat) (xs : List Value) (hs : a.eval s = v) (hown : w.ownsRow base 5 1 v n xs)
    (p : Option Addr) (m c : Nat) (news : List Nat) (hx : a.eval x = .slice p m c) (hl : news.length = m) (hin : In w p news) (hnil : p = none → c = 0)
    (h63 : n + m ≤ 10000) (B : Nat) (w0 : World) (hB : B ≤ base) (hb : Below B w0 w) (hbase : base ≤ w.heap.size)
    (h : ∀ v' w', Box (w'.ownsRow base 5 1 v' (n + m) (xs ++ news.map nU8)) → Below B w0 w' → base ≤ w'.heap.size → wpList Tryd.prog ops Q rest (a.put o.dst v') w') : wpList Tryd.prog ops Q (o :: rest) a w := by
  rcases p with _ | ad
  · obtain rfl := hnil rfl
    obtain rfl : news = [] := by
      rcases hin with h | ⟨b, h, _⟩
      · exact h
      · cases h
    obtain rfl : m = 0 := by simpa using hl.symm
    refine wpList_append_own_none hgd s x 22 ho base 5 i 1 Tryd.underlying22 hi v n xs hs hown hx ?_
    exact h v w (box (by simpa using hown)) hb hbase
  · have hcell : ∀ j u, (news.map nU8)[j]? = some u → w.cell? (ad.add j) = some u := by
      intro j u hj
      rcases hin with rfl | ⟨b, hb', hat⟩
      · simp at hj
      · cases hb'
        simp at hj
        obtain ⟨y, hy, rfl⟩ := hj
        have hjl : j < news.length := (List.getElem?_eq_some_iff.1 hy).1
        rw [hat j hjl]
        simp [List.getD_eq_getElem?_getD, hy]
    refine wpList_append_own w hgd s x 22 ho base 5 i (.int .u8 0) 1 1 Tryd.underlying22 hi hz hsize hby rfl (by decide) v n xs hs hown ad m c (news.map nU8) hx (by simp [hl]) hcell (nU8_one _) (by unfold maxLen; omega) (by omega) hbase ?_
    intro v' w' h1 h2 _
    exact h v' w' (box h1) (own_below hown hB hb (Nat.le_trans hB hbase) h2) (Nat.le_trans hbase h2.size)

/-- One append of fresh elements, as the walk meets it: the slice of the new elements has just been built. -/
theorem wpList_append_new {w : World} {ops : Array Oper} {rest : List Oper} {o : Oper} {a : Act} {Q : Exit → Act → World → Prop} (hgd : o.guard = none) (s x : Operand)
    (ho : o.op = .call { callee := .builtin .append, args := #[s, x], argTypes := #[22, 22] })
    (base : Nat) (v : Value) (n : Nat) (xs : List Nat) (hs : a.eval s = v) (hown : Own base w v n xs) (news : List Nat) (m : Nat) (hl : news.length = m) (fr : Nat × Nat)
    (hx : a.eval x = .slice (some ⟨w.heap.size, 0, none⟩) m m) (h63 : n + m ≤ 10000) (w0 : World) (hb : Below base w0 w) (hbase : base ≤ w.heap.size)
    (h : ∀ v' w', Box (Own base w' v' (n + m) (xs ++ news)) → Below base w0 w' → base ≤ w'.heap.size → wpList Tryd.prog ops Q rest (a.put o.dst v') w') :
    wpList Tryd.prog ops Q (o :: rest) a (w.alloc (.cells (news.map nU8).toArray 5 fr)) := by
  obtain ⟨i0, hi, hz0, hz1, hz2⟩ := info_parts Tryd.infoU8
  refine wpList_append_in hgd s x ho base i0 hi hz0 hz1 hz2 v n (xs.map nU8) hs (hown.alloc _) (some ⟨w.heap.size, 0, none⟩) m m news hx hl (in_mark _ _ _ _ _ rfl) (fun h => by cases h) h63 base w0 (Nat.le_refl _) (hb.alloc hbase _) (size_alloc _ _ hbase) ?_
  intro v' w' ho hb hs
  refine h v' w' (box ?_) hb hs
  have := ho.out
  rw [← List.map_append] at this
  exact this
end Go.Proofs.YthfoakomapmkeaaDoor
