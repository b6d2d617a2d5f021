/- The reference's Decode: its contract. -/
import Derived.Test.YthfoakomapmkeaaDoorFrE
import Derived.Deep.RegionHeld3
import Derived.BigRegion
namespace Go.Proofs.YthfoakomapmkeaaDoor
open Go.RowKit

/-- An append of bytes that lie in memory, as a step of a region that draws. -/
theorem step_append_at {ops : Array Oper} {o : Oper} {a : Act} {w : World} {K : Act → World → Prop} {Q : Exit → Act → World → Prop} {E : Prop} (hg : o.guard = none) (s x : Operand)
    (hop : o.op = .call { callee := .builtin .append, args := #[s, x], argTypes := #[22, 22] })
    (base : Nat) (v : Value) (n : Nat) (xs : List Nat) (hs : a.eval s = v) (hown : Own base w v n xs) (ad : Addr) (m c : Nat) (news : List Nat) (hl : news.length = m)
    (hx : a.eval x = .slice (some ad) m c) (hat : At w ad news) (h63 : n + m ≤ 10000) (w0 : World) (hb : Below base w0 w) (hbase : base ≤ w.heap.size)
    (hK : ∀ v' w', Box (Own base w' v' (n + m) (xs ++ news)) → Below base w0 w' → base ≤ w'.heap.size → w.grownBy w' v.ownBlock → K (a.put o.dst v') w') :
    if Region.wanted o (yielded ops a.tmps) = true then Oper.wp Tryd.prog o a w K Q else E := by
  have hw : Region.wanted o (yielded ops a.tmps) = true := by simp [Region.wanted, hg]
  rw [if_pos hw]
  obtain ⟨i0, hi, hz0, hz1, hz2⟩ := info_parts Tryd.infoU8
  obtain ⟨v', w', hrun, r1, r2, _⟩ := run_append_own (P := Tryd.prog) w base 22 o.type 5 i0 (.int .u8 0) 1 1 Tryd.underlying22 hi hz0 hz1 hz2 rfl (by decide) v n (xs.map nU8) hown ad m c (news.map nU8) (by simp [hl]) (fun j u hj => by
    simp at hj
    obtain ⟨y, hy, rfl⟩ := hj
    have hjl : j < news.length := (List.getElem?_eq_some_iff.1 hy).1
    rw [hat j hjl]
    simp [List.getD_eq_getElem?_getD, hy]) (nU8_one _) (by unfold maxLen; omega) (by omega) hbase
  unfold Oper.wp
  simp [execOp, hop, resolve, invoke, builtin, hs, hx, hrun, Result.andThen]
  rw [← List.map_append] at r1
  exact hK v' w' (box r1) (own_below hown (Nat.le_refl _) hb hbase r2) (Nat.le_trans hbase r2.size) r2

abbrev pk0 : Value := pkV 0 0 0 0 none 0 0
/-- The number in the bytes from i on. -/
def numAt (xs : List Nat) (i : Nat) : Nat := numTo ((xs.drop i).take 5) 5
theorem add_pos (b : Addr) (i : Nat) (hi : 0 < i) : b.add i = ⟨b.block, b.off + i, none⟩ := by
  unfold Addr.add
  rw [if_neg (by omega)]
theorem at_pos {w : World} {b : Addr} {xs : List Nat} (h : At w b xs) (i : Nat) (hi : 0 < i) (hl : i < xs.length) : w.cell? ⟨b.block, b.off + i, none⟩ = some (nU8 (xs.getD i 0)) := by
  rw [← add_pos b i hi]; exact h i hl
theorem at_zero {w : World} {b : Addr} {xs : List Nat} (h : At w b xs) (hl : 0 < xs.length) : w.cell? b = some (nU8 (xs.getD 0 0)) := by
  have := h 0 hl
  rwa [show b.add 0 = b from by unfold Addr.add; simp] at this
/-- The form of an own slice, and where it lies. -/
theorem own_form2 {B n : Nat} {w : World} {v : Value} {xs : List Nat} (hn : xs.length = n) (h : Own B w v n xs) : ∃ (a : Option Addr) (c : Nat), v = .slice a n c ∧ In w a xs ∧ (a = none → c = 0) ∧ n ≤ c ∧ ∀ g, a = some g → B ≤ g.block := by
  have hc := h
  obtain ⟨_, hcase⟩ := h
  rcases hcase with ⟨rfl, h0⟩ | ⟨g, cap, cur, rfl, hg, hh, hnc, hcap, hsz, htake⟩
  · subst h0
    exact ⟨none, 0, rfl, .inl (List.length_eq_zero_iff.1 hn), fun _ => rfl, Nat.le_refl _, fun g h => by cases h⟩
  · exact ⟨some ⟨g, 0, none⟩, cap, rfl, own_in hn hc, (fun h => by cases h), hnc, fun g' h => by cases h; exact hg⟩
theorem grow_blk {w w' : World} {g z : Nat} {v : Value} {o : Obj} (h : w.grownBy w' v.ownBlock) (hv : v.ownBlock = some g) (hz : w.heap[z]? = some o) (hne : z ≠ g) : w'.heap[z]? = some o := by
  rw [h.block z (Array.getElem?_eq_some_iff.1 hz).1 (by rw [hv]; intro e; exact hne (Option.some.inj e))]
  exact hz
theorem blk_cell {w : World} {z : Nat} {cs : Array Value} {t : TypeId} (h : w.heap[z]? = some (.cells cs t (0, 0))) (j : Nat) : w.cell? ⟨z, j, none⟩ = cs[j]? := by
  simp [World.cell?, h]
theorem blk_free {w : World} {z : Nat} {cs : Array Value} {t : TypeId} (h : w.heap[z]? = some (.cells cs t (0, 0))) (j : Nat) : w.frozen? ⟨z, j, none⟩ = false := by
  simp [World.frozen?, h]
theorem at_drop {w : World} {b : Addr} {xs : List Nat} (h : At w b xs) (i m : Nat) (hi : 0 < i) : At w ⟨b.block, b.off + i, none⟩ ((xs.drop i).take m) := by
  intro j hj
  simp at hj
  have e : (⟨b.block, b.off + i, none⟩ : Addr).add j = b.add (i + j) := by
    rw [add_pos b (i + j) (by omega)]
    unfold Addr.add
    split
    · rename_i h0; subst h0; simp
    · simp [Nat.add_assoc]
  rw [e, h (i + j) (by omega)]
  have hjm : j < m := by omega
  simp [List.getD_eq_getElem?_getD, hjm]
theorem At.below {w w' : World} {b : Addr} {xs : List Nat} (h : At w b xs) (hb : Below w.heap.size w w') : At w' b xs := fun i hi => keepc hb (h i hi)
/-- What decoding answers, as an error. -/
def decE (xs : List Nat) : Nat :=
  if xs.length < 17 then 4
  else if 64 < xs.getD 12 0 ∨ xs.getD 12 0 + 17 ≠ xs.length then 3
  else if xs.drop (xs.length - 4) ≠ Crc.le4 (Crc.crc (xs.take (xs.length - 4))) then 9
  else if okP (xs.getD 0 0) (xs.getD 1 0) (numAt xs 2) (numAt xs 7) (xs.length - 17) then 0 else 1
/-- What the reference's Decode answers. -/
def RDec (xs : List Nat) (w : World) (e : Ending) (w' : World) : Prop :=
  Below w.heap.size w w' ∧
  ((decE xs ≠ 0 ∧ e = .returned (.tuple #[pk0, .int .i64 (decE xs : Nat)])) ∨
   (decE xs = 0 ∧ ∃ (a : Option Addr) (c : Nat), e = .returned (.tuple #[pkV (xs.getD 0 0) (xs.getD 1 0 : Nat) (numAt xs 2 : Nat) (numAt xs 7 : Nat) a (xs.length - 17) c, .int .i64 0]) ∧ In w' a ((xs.drop 13).take (xs.length - 17)) ∧ (a = none → c = 0) ∧ xs.length - 17 ≤ c ∧ (∀ g, a = some g → w.heap.size ≤ g.block)))

set_option maxRecDepth 100000 in
set_option maxHeartbeats 8000000 in
theorem rdec_short (a : Option Addr) (n c : Nat) (xs : List Nat) (hn : xs.length = n) (h17 : n < 17) (w : World) :
    Calls Tryd.prog 23 #[.slice a n c] w (RDec xs w) := by
  have he : decE xs = 4 := by unfold decE; rw [if_pos (by omega)]
  have d1 : decide ((n : Int) < 17) = true := decide_eq_true (by omega)
  have kb : Below w.heap.size w (w.alloc (.cells (pkC 0 0 0 0 none 0 0) 24)) := (Below.refl _ _).alloc (Nat.le_refl _) _
  have HF := fun w' (h : Below w.heap.size w w') => box (show RDec xs w (.returned (.tuple #[pk0, .int .i64 4])) w' from ⟨h, .inl ⟨by omega, by rw [he]; rfl⟩⟩)
  clear he
  go_enter Tryd.func23, Tryd.ntmps23
  go_wp2_with fail
  refine bodyPost_ret (v := .tuple #[pk0, .int .i64 4]) (by simp [results, Tryd.results23, go_sem]) rfl (HF _ ?_).out
  exact kb

set_option maxRecDepth 100000 in
set_option maxHeartbeats 8000000 in
theorem rdec_form (b : Addr) (n c : Nat) (xs : List Nat) (hn : xs.length = n) (hx : ∀ x ∈ xs, x < 256) (h17 : ¬ n < 17) (hf : 64 < xs.getD 12 0 ∨ xs.getD 12 0 + 17 ≠ n) (w : World) (hc : At w b xs) :
    Calls Tryd.prog 23 #[.slice (some b) n c] w (RDec xs w) := by
  have he : decE xs = 3 := by unfold decE; rw [if_neg (by omega), if_pos (by rw [hn]; exact hf)]
  have d1 : decide ((n : Int) < 17) = false := decide_eq_false (by omega)
  have kb : Below w.heap.size w (w.alloc (.cells (pkC 0 0 0 0 none 0 0) 24)) := (Below.refl _ _).alloc (Nat.le_refl _) _
  have HF := fun w' (h : Below w.heap.size w w') => box (show RDec xs w (.returned (.tuple #[pk0, .int .i64 3])) w' from ⟨h, .inl ⟨by omega, by rw [he]; rfl⟩⟩)
  have c1 := at_pos hc 12 (by omega) (by omega)
  have lb : b.block < w.heap.size := World.block_lt_of_cell? w ⟨b.block, b.off + 12, none⟩ c1
  have z1 : (12 : Int) < (n : Int) := by omega
  have lx := getD_lt hx (show 12 < xs.length by omega)
  clear he hc hx
  generalize xs.getD 12 0 = x at hf c1 lx
  by_cases h64 : 64 < x
  · have d2 : decide ((64 : Int) < (x : Int)) = true := decide_eq_true (by omega)
    clear hf h64
    go_enter Tryd.func23, Tryd.ntmps23
    go_wp2_with fail
    refine bodyPost_ret (v := .tuple #[pk0, .int .i64 3]) (by simp [results, Tryd.results23, go_sem]) rfl (HF _ ?_).out
    exact kb
  · have d2 : decide ((64 : Int) < (x : Int)) = false := decide_eq_false (by omega)
    have d3 : ((x : Int) + 17 != (n : Int)) = true := by simp; omega
    clear hf h64
    go_enter Tryd.func23, Tryd.ntmps23
    go_wp2_with fail
    refine bodyPost_ret (v := .tuple #[pk0, .int .i64 3]) (by simp [results, Tryd.results23, go_sem]) rfl (HF _ ?_).out
    exact kb

end Go.Proofs.YthfoakomapmkeaaDoor
