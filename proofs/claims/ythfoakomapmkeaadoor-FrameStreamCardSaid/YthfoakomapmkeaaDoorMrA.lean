/- Layer 4: the texts LinM LinA LinMem LinB LinC LinD LinE LinM2 LinG LinH LinI LinJ LinM3 LinP LinQ in one. -/
import Derived.Test.YthfoakomapmkeaaDoorProg
import Derived.WalkKit
import Derived.Below
import Derived.LoopTactic
import Derived.RegionTactic
import Derived.Laws.Rows
import Derived.Laws.BitsAllLaws
import Derived.Laws.ShiftsVarLaws
import Derived.Lib.Hide
import Derived.Laws.OwnMore
import Derived.Laws.AppendOwnNone
import Derived.Laws.AppendOwn
import Derived.OwnWalk
import Derived.Deep.QuietTactic
import Derived.BigQuiet
import Derived.Lib.SliceRun
import Derived.Laws.CopyOwn
import Derived.Deep.RegionLaw
import Derived.Deep.RegionHeld3
import Derived.Deep.RegionWith
/- The symbols of layer 3, and what the reference makes of them: plain mathematics. -/
namespace Go.Proofs.YthfoakomapmkeaaDoor

/-- The valid symbols, in ascending order. -/
def syms : List Nat := [7, 11, 13, 14, 19, 21, 22, 25, 26, 28, 35, 37, 38, 41, 42, 44, 49, 50, 52, 56]
theorem syms_lt : ∀ i < 20, syms.getD i 0 < 64 := by decide
/-- The place of a symbol among the valid ones; 20: it is not valid. -/
def idx (s : Nat) : Nat := syms.idxOf s
theorem idx_syms : ∀ i < 20, idx (syms.getD i 0) = i := by decide
theorem syms_idx : ∀ s < 256, idx s < 20 → syms.getD (idx s) 0 = s := by decide +kernel
theorem idx_le (s : Nat) : idx s ≤ 20 := List.idxOf_le_length
theorem idx_first {s k : Nat} (h1 : ∀ j < k, syms.getD j 0 ≠ s) (hk : k < 20) (h2 : syms.getD k 0 = s) : idx s = k := by
  subst h2
  exact idx_syms k hk
theorem idx_none {s : Nat} (hs : s < 256) (h1 : ∀ j < 20, syms.getD j 0 ≠ s) : idx s = 20 := by
  rcases Nat.lt_or_ge (idx s) 20 with h | h
  · exact absurd (syms_idx s hs h) (h1 _ h)
  · have := idx_le s; omega

/-- How many of the lower k bits of n are ones. -/
def on (n : Nat) : Nat → Nat
  | 0 => 0
  | k + 1 => on n k + n / 2 ^ k % 2
theorem on_le (n k : Nat) : on n k ≤ k := by
  induction k with
  | zero => exact Nat.le_refl _
  | succ k ih => have := Nat.mod_lt (n / 2 ^ k) (show 0 < 2 by decide); simp only [on]; omega
/-- The valid symbols below n. -/
def symsTo (n : Nat) : List Nat := (List.range n).filter (fun m => on m 6 == 3)
theorem symsTo_64 : symsTo 64 = syms := by decide
theorem symsTo_succ (n : Nat) : symsTo (n + 1) = if on n 6 = 3 then symsTo n ++ [n] else symsTo n := by
  unfold symsTo
  rw [List.range_succ, List.filter_append]
  by_cases h : on n 6 = 3 <;> simp [h]
theorem symsTo_length (n : Nat) : (symsTo n).length ≤ n := by
  have := List.length_filter_le (fun m => on m 6 == 3) (List.range n)
  rwa [List.length_range] at this

/-- The encoding of bytes. -/
def enc (xs : List Nat) : List Nat := xs.flatMap fun x => [syms.getD (x / 16) 0, syms.getD (x % 16) 0]
theorem enc_length (xs : List Nat) : (enc xs).length = 2 * xs.length := by
  induction xs with
  | nil => rfl
  | cons x xs ih => simp only [enc, List.flatMap_cons, List.length_append, List.length_cons, List.length_nil] at *; omega
theorem enc_append (xs ys : List Nat) : enc (xs ++ ys) = enc xs ++ enc ys := by unfold enc; exact List.flatMap_append
theorem take_snoc' {xs : List Nat} {k : Nat} (hk : k < xs.length) : xs.take (k + 1) = xs.take k ++ [xs.getD k 0] := by
  rw [List.take_add_one, List.getD_eq_getElem?_getD, List.getElem?_eq_getElem hk]; rfl
theorem enc_take {xs : List Nat} {k : Nat} (hk : k < xs.length) : enc (xs.take (k + 1)) = enc (xs.take k) ++ [syms.getD (xs.getD k 0 / 16) 0, syms.getD (xs.getD k 0 % 16) 0] := by
  rw [take_snoc' hk, enc_append]; rfl
end Go.Proofs.YthfoakomapmkeaaDoor
/- Data, Control and Value of layer 3: their contracts. -/
namespace Go.Proofs.YthfoakomapmkeaaDoor
open Go.RowKit

/-- A value of kind u8 from a natural number. -/
abbrev nU8 (x : Nat) : Value := .int .u8 (x : Int)
/-- The table lies in the world. -/
def HasTab (w : World) : Prop := ∃ fr t, w.heap[0]? = some (.cells (syms.map nU8).toArray t fr)
theorem HasTab.cell {w : World} (h : HasTab w) (i : Nat) (hi : i < 20) : w.cell? ⟨0, i, none⟩ = some (nU8 (syms.getD i 0)) := by
  obtain ⟨fr, t, h⟩ := h
  rw [cell_of_row w 0 i _ t fr h]
  have : i < syms.length := hi
  simp [List.getD_eq_getElem?_getD, List.getElem?_eq_getElem this]
/-- A fact that the walk's simplification does not look into. -/
structure Box (p : Prop) : Prop where
  out : p
theorem box {p : Prop} (h : p) : Box p := ⟨h⟩


set_option maxHeartbeats 1000000 in
theorem data_ok (i : Nat) (hi : i < 16) (w : World) (hT : HasTab w) :
    Calls Tryd.prog 36 #[.int .i64 i] w fun e w' => e = .returned (.tuple #[nU8 (syms.getD i 0), .int .i64 0]) ∧ w = w' := by
  have hc := hT.cell i (by omega)
  clear hT
  have lt := syms_lt i (by omega)
  generalize syms.getD i 0 = s at hc lt
  have d1 : decide ((i : Int) < 0) = false := decide_eq_false (by omega)
  have d2 : decide ((16 : Int) ≤ (i : Int)) = false := decide_eq_false (by omega)
  go_enter Tryd.func36, Tryd.ntmps36
  go_wp2_with fail
  go_ret2
  exact ⟨rfl, rfl⟩
set_option maxHeartbeats 1000000 in
theorem data_bad (n : Int) (h : n < 0 ∨ 16 ≤ n) (w : World) :
    Calls Tryd.prog 36 #[.int .i64 n] w fun e w' => e = .returned (.tuple #[nU8 0, .int .i64 2]) ∧ w = w' := by
  by_cases h0 : n < 0
  · have d1 : decide (n < 0) = true := decide_eq_true h0
    clear h
    go_enter Tryd.func36, Tryd.ntmps36
    go_wp2_with fail
    go_ret2
    exact ⟨rfl, rfl⟩
  · have d1 : decide (n < 0) = false := decide_eq_false h0
    have d2 : decide (16 ≤ n) = true := decide_eq_true (by omega)
    clear h h0
    go_enter Tryd.func36, Tryd.ntmps36
    go_wp2_with fail
    go_ret2
    exact ⟨rfl, rfl⟩

set_option maxHeartbeats 1000000 in
theorem control_ok (i : Nat) (hi : i < 4) (w : World) (hT : HasTab w) :
    Calls Tryd.prog 29 #[.int .i64 i] w fun e w' => e = .returned (.tuple #[nU8 (syms.getD (16 + i) 0), .int .i64 0]) ∧ w = w' := by
  have hc := hT.cell (16 + i) (by omega)
  clear hT
  have lt := syms_lt (16 + i) (by omega)
  generalize syms.getD (16 + i) 0 = s at hc lt
  have d1 : decide ((i : Int) < 0) = false := decide_eq_false (by omega)
  have d2 : decide (3 < (i : Int)) = false := decide_eq_false (by omega)
  have d3 : (16 + (i : Int)).toNat = 16 + i := by omega
  go_enter Tryd.func29, Tryd.ntmps29
  go_wp2_with fail
  go_ret2
  exact ⟨rfl, rfl⟩

set_option maxHeartbeats 1000000 in
theorem control_bad (n : Int) (h : n < 0 ∨ 4 ≤ n) (w : World) :
    Calls Tryd.prog 29 #[.int .i64 n] w fun e w' => e = .returned (.tuple #[nU8 0, .int .i64 2]) ∧ w = w' := by
  by_cases h0 : n < 0
  · have d1 : decide (n < 0) = true := decide_eq_true h0
    clear h
    go_enter Tryd.func29, Tryd.ntmps29
    go_wp2_with fail
    go_ret2
    exact ⟨rfl, rfl⟩
  · have d1 : decide (n < 0) = false := decide_eq_false h0
    have d2 : decide (3 < n) = true := decide_eq_true (by omega)
    clear h h0
    go_enter Tryd.func29, Tryd.ntmps29
    go_wp2_with fail
    go_ret2
    exact ⟨rfl, rfl⟩

/-- What Value answers: value, kind, error. -/
def valueV (k : Nat) : Value := if k < 16 then .tuple #[.int .i64 (k : Int), .bool false, .int .i64 0] else if k < 20 then .tuple #[.int .i64 ((k : Int) - 16), .bool true, .int .i64 0] else .tuple #[.int .i64 0, .bool false, .int .i64 3]

theorem Tryd.sizeTab : (Tryd.prog.info? 82).map (·.size) = some 20 := by kernel_rfl
theorem Tryd.lenTab : Tryd.prog.arrayLen 82 = 20 := by kernel_rfl

theorem index_tab (w : World) (cs : Array Value) (k : Nat) (hk : k < 20) (v : Value) (hv : cs[k]? = some v) : (Instr.index 82 (.agg cs) (.int .i64 k)).run Tryd.prog w = .ok v w := by
  have h1 : (0 : Int) ≤ (k : Int) ∧ (k : Int) < 20 := by omega
  simp [Instr.index, run_underlying Tryd.underlying82, asIntOf, h1, part, go_sem, hv]
  intro h
  omega

set_option maxHeartbeats 4000000 in
theorem value_any (s : Nat) (hs : s < 256) (w : World) (hT : HasTab w) :
    Calls Tryd.prog 46 #[nU8 s] w fun e w' => e = .returned (valueV (idx s)) ∧ w = w' := by
  obtain ⟨fr, t, hg⟩ := hT
  obtain ⟨res, hres⟩ : ∃ res, valueV (idx s) = res := ⟨_, rfl⟩
  have HR := box hres
  rw [hres]
  clear hres
  obtain ⟨cs, hcs⟩ : ∃ cs, (syms.map nU8).toArray = cs := ⟨_, rfl⟩
  have HCS := box hcs
  rw [hcs] at hg
  have hsz : (Tryd.prog.info? 82).map (·.size) = some cs.size := by rw [← hcs]; exact Tryd.sizeTab
  clear hcs
  have HG := box hg
  have HSZ := box hsz
  clear hg hsz
  go_enter Tryd.func46, Tryd.ntmps46
  go_wp2_with (refine wpList_load_row (o := ⟨some 7, _, _, _, _, _⟩) rfl 82 (.global 0) rfl 0 rfl t cs fr _ HG.out Tryd.underlying82 rfl HSZ.out ?_)
  go_loop [8] (fun t8 => ∃ k : Nat, k ≤ 20 ∧ t8 = .int .i64 k ∧ Hid (∀ j < k, syms.getD j 0 ≠ s)) (fun t8 => 20 - (intOf t8).toNat)
  case atStart => exact ⟨0, by omega, rfl, Lib.hid (fun j hj => by omega)⟩
  case round =>
    obtain ⟨k, hk, rfl, hne⟩ := hrel
    by_cases hlt : k < 20
    · have hcs : cs[k]? = some (nU8 (syms.getD k 0)) := by
        rw [← HCS.out]
        simp [List.getD_eq_getElem?_getD, List.getElem?_eq_getElem (show k < syms.length from hlt)]
      have hix := index_tab w cs k hlt _ hcs
      clear hcs
      obtain ⟨y, hy⟩ : ∃ y, syms.getD k 0 = y := ⟨_, rfl⟩
      have HY := box hy
      rw [hy] at hix
      clear hy
      by_cases hys : y = s
      · have hb : ((y : Int) != (s : Int)) = false := by simp [hys]
        have hi := idx_first hne.out hlt (HY.out.trans hys)
        by_cases h16 : k < 16
        · have hd : decide ((k : Int) < 16) = true := decide_eq_true (by omega)
          have HV := box (show res = .tuple #[.int .i64 (k : Int), .bool false, .int .i64 0] by rw [← HR.out, hi]; unfold valueV; rw [if_pos h16])
          clear hi hys
          go_wp2_with fail
          refine bodyPost_ret (v := .tuple #[.int .i64 (k : Int), .bool false, .int .i64 0]) (by simp [results, Tryd.results46, go_sem]) rfl ⟨by rw [HV.out], rfl⟩
        · have hd : decide ((k : Int) < 16) = false := decide_eq_false (by omega)
          have HV := box (show res = .tuple #[.int .i64 ((k : Int) - 16), .bool true, .int .i64 0] by rw [← HR.out, hi]; unfold valueV; rw [if_neg h16, if_pos hlt])
          clear hi hys
          go_wp2_with fail
          refine bodyPost_ret (v := .tuple #[.int .i64 ((k : Int) - 16), .bool true, .int .i64 0]) (by simp [results, Tryd.results46, go_sem]) rfl ⟨by rw [HV.out], rfl⟩
      · have hb : ((y : Int) != (s : Int)) = true := by simp; omega
        go_wp2_with fail
        go_round
        case rel =>
          refine ⟨k + 1, by omega, by go_num, Lib.hid (fun j hj => ?_)⟩
          rcases Nat.lt_or_ge j k with h | h
          · exact hne.out j h
          · obtain rfl : j = k := by omega
            rw [HY.out]; exact hys
        case measure => simp [intOf]; omega
    · have hk20 : k = 20 := by omega
      have hi := idx_none hs (fun j hj => hne.out j (by omega))
      have HV := box (show res = .tuple #[.int .i64 0, .bool false, .int .i64 3] by rw [← HR.out, hi]; rfl)
      clear hi
      subst hk20
      go_wp2_with fail
      refine bodyPost_ret (v := .tuple #[.int .i64 0, .bool false, .int .i64 3]) (by simp [results, Tryd.results46, go_sem]) rfl ⟨by rw [HV.out], rfl⟩
end Go.Proofs.YthfoakomapmkeaaDoor
/- Bytes in memory: what lies at an address, slices of the call's own, appending to them. -/
namespace Go.Proofs.YthfoakomapmkeaaDoor
open Go.RowKit

/-- The bytes xs lie from an address on. -/
def At (w : World) (a : Addr) (xs : List Nat) : Prop := ∀ i : Nat, i < xs.length → w.cell? (a.add i) = some (nU8 (xs.getD i 0))
/-- The bytes xs lie at the slice's address; nothing is said where there is none. -/
def In (w : World) (a : Option Addr) (xs : List Nat) : Prop := xs = [] ∨ ∃ b, a = some b ∧ At w b xs
theorem In.below {w w' : World} {a : Option Addr} {xs : List Nat} (h : In w a xs) (hb : Below w.heap.size w w') : In w' a xs := by
  rcases h with h | ⟨b, rfl, h⟩
  · exact .inl h
  · exact .inr ⟨b, rfl, fun i hi => (hb.cell (World.block_lt_of_cell? w _ (h i hi))).trans (h i hi)⟩
theorem HasTab.below {w w' : World} (h : HasTab w) (hb : Below w.heap.size w w') : HasTab w' := by
  obtain ⟨fr, t, hg⟩ := h
  exact ⟨fr, t, (hb.block 0 (Array.getElem?_eq_some_iff.1 hg).1).trans hg⟩
theorem below_drewN {W w : World} {N : Nat} (k : Nat) (h : Below N W w) : Below N W (w.drewN k) := h.trans ⟨rfl, rfl, rfl, Nat.le_refl _, fun _ _ => rfl⟩
theorem keepc {W w : World} {a : Addr} {v : Value} (hb : Below W.heap.size W w) (h : W.cell? a = some v) : w.cell? a = some v := (hb.cell (World.block_lt_of_cell? W a h)).trans h
theorem keepa {w : World} {a : Addr} {v : Value} (o : Obj) (h : w.cell? a = some v) : (w.alloc o).cell? a = some v := (World.cell?_alloc_lt _ _ _ (World.block_lt_of_cell? w a h)).trans h
theorem add_off (b i : Nat) : (⟨b, 0, none⟩ : Addr).add i = ⟨b, i, none⟩ := by
  unfold Addr.add
  by_cases h : i = 0
  · subst h; simp
  · simp [h]
theorem at_mark (w : World) (xs : List Nat) (t : TypeId) (fr : Nat × Nat) (n : Nat) (hn : n = w.heap.size) : At (w.alloc (.cells (xs.map nU8).toArray t fr)) ⟨n, 0, none⟩ xs := by
  subst hn
  intro i hi
  rw [add_off, World.cell?_alloc_mark]
  simp [hi, List.getD_eq_getElem?_getD]
theorem in_mark (w : World) (xs : List Nat) (t : TypeId) (fr : Nat × Nat) (n : Nat) (hn : n = w.heap.size) : In (w.alloc (.cells (xs.map nU8).toArray t fr)) (some ⟨n, 0, none⟩) xs := .inr ⟨_, rfl, at_mark w xs t fr n hn⟩
theorem getD_lt {xs : List Nat} {b k : Nat} (hx : ∀ x ∈ xs, x < b) (hk : k < xs.length) : xs.getD k 0 < b := by
  rw [List.getD_eq_getElem?_getD, List.getElem?_eq_getElem hk]; exact hx _ (List.getElem_mem hk)
theorem drop_getD {xs : List Nat} {k : Nat} (hk : k < xs.length) : xs.drop k = xs.getD k 0 :: xs.drop (k + 1) := by
  rw [List.drop_eq_getElem_cons hk, List.getD_eq_getElem?_getD, List.getElem?_eq_getElem hk]; rfl
theorem size_alloc {w : World} (N : Nat) (o : Obj) (h : N ≤ w.heap.size) : N ≤ (w.alloc o).heap.size := by
  show _ ≤ (w.heap.push o).size; rw [Array.size_push]; exact Nat.le_succ_of_le h

theorem Tryd.infoU8 : (Tryd.prog.info? 5).map (fun i => (i.zero, i.size, i.bytes)) = some (some (.int .u8 0), 1, 1) := by kernel_rfl
theorem Tryd.infoInt : (Tryd.prog.info? 3).map (fun i => (i.zero, i.size, i.bytes)) = some (some (.int .i64 0), 1, 8) := by kernel_rfl
theorem nU8_one (xs : List Nat) : ∀ v ∈ xs.map nU8, v.oneCell' = true := by
  intro v hv
  obtain ⟨x, _, rfl⟩ := List.mem_map.1 hv
  rfl
/-- A slice of the call's own, n long, that holds xs. -/
abbrev Own (B : Nat) (w : World) (v : Value) (n : Nat) (xs : List Nat) : Prop := w.ownsRow B 5 1 v n (xs.map nU8)
theorem own_in {w : World} {B g m cap : Nat} {zs : List Nat} (hzl : zs.length = m) (h : Own B w (.slice (some ⟨g, 0, none⟩) m cap) m zs) : In w (some ⟨g, 0, none⟩) zs := by
  refine .inr ⟨_, rfl, fun j hj => ?_⟩
  rw [add_off, h.cellAt j (by omega)]
  simp [List.getD_eq_getElem?_getD, List.getElem?_eq_getElem hj]
theorem own_form {B n : Nat} {w : World} {v : Value} {xs : List Nat} (hn : xs.length = n) (h : Own B w v n xs) : ∃ (a : Option Addr) (c : Nat), v = .slice a n c ∧ In w a xs ∧ (a = none → c = 0) ∧ n ≤ c := by
  have hc := h
  obtain ⟨_, hcase⟩ := h
  rcases hcase with ⟨rfl, h0⟩ | ⟨g, cap, cur, rfl, hg, hh, hnc, hcap, hsz, htake⟩
  · subst h0
    exact ⟨none, 0, rfl, .inl (List.length_eq_zero_iff.1 hn), fun _ => rfl, Nat.le_refl _⟩
  · exact ⟨some ⟨g, 0, none⟩, cap, rfl, own_in hn hc, (fun h => by cases h), hnc⟩
theorem own_below {w w' : World} {B base : Nat} {v : Value} {n : Nat} {xs : List Value} {w0 : World} {e : TypeId} (hown : w.ownsRow base e 1 v n xs) (hB : B ≤ base) (hb : Below B w0 w) (hs : B ≤ w.heap.size) (hg : w.grownBy w' v.ownBlock) : Below B w0 w' := by
  refine hb.grown hg hs (fun k hk => ?_)
  rcases hown.2 with ⟨rfl, _⟩ | ⟨g, cap, cur, rfl, hg', _⟩
  · cases hk
  · cases hk
    exact Nat.le_trans hB hg'

theorem wpList_append_in {w : World} {ops : Array Oper} {rest : List Oper} {o : Oper} {a : Act} {Q : Exit → Act → World → Prop} (hgd : o.guard = none) (s x : Operand)
    (ho : o.op = .call { callee := .builtin .append, args := #[s, x], argTypes := #[22, 22] })
    (base : Nat) (i : TypeInfo) (hi : Tryd.prog.info? 5 = some i) (hz : i.zero = some (.int .u8 0)) (hsize : i.size = 1) (hby : i.bytes = 1)
    (v : Value) (n : Nat) (xs : List Value) (hs : a.eval s = v) (hown : w.ownsRow base 5 1 v n xs)
    (p : Option Addr) (m c : Nat) (news : List Nat) (hx : a.eval x = .slice p m c) (hl : news.length = m) (hin : In w p news) (hnil : p = none → c = 0)
    (h63 : n + m ≤ 10000) (B : Nat) (w0 : World) (hB : B ≤ base) (hb : Below B w0 w) (hbase : base ≤ w.heap.size)
    (h : ∀ v' w', Box (w'.ownsRow base 5 1 v' (n + m) (xs ++ news.map nU8)) → Below B w0 w' → base ≤ w'.heap.size → wpList Tryd.prog ops Q rest (a.put o.dst v') w') : wpList Tryd.prog ops Q (o :: rest) a w := by
  rcases p with _ | ad
  · obtain rfl := hnil rfl
    obtain rfl : news = [] := by
      rcases hin with h | ⟨b, h, _⟩
      · exact h
      · cases h
    obtain rfl : m = 0 := by simpa using hl.symm
    refine wpList_append_own_none hgd s x 22 ho base 5 i 1 Tryd.underlying22 hi v n xs hs hown hx ?_
    exact h v w (box (by simpa using hown)) hb hbase
  · have hcell : ∀ j u, (news.map nU8)[j]? = some u → w.cell? (ad.add j) = some u := by
      intro j u hj
      rcases hin with rfl | ⟨b, hb', hat⟩
      · simp at hj
      · cases hb'
        simp at hj
        obtain ⟨y, hy, rfl⟩ := hj
        have hjl : j < news.length := (List.getElem?_eq_some_iff.1 hy).1
        rw [hat j hjl]
        simp [List.getD_eq_getElem?_getD, hy]
    refine wpList_append_own w hgd s x 22 ho base 5 i (.int .u8 0) 1 1 Tryd.underlying22 hi hz hsize hby rfl (by decide) v n xs hs hown ad m c (news.map nU8) hx (by simp [hl]) hcell (nU8_one _) (by unfold maxLen; omega) (by omega) hbase ?_
    intro v' w' h1 h2 _
    exact h v' w' (box h1) (own_below hown hB hb (Nat.le_trans hB hbase) h2) (Nat.le_trans hbase h2.size)

/-- One append of fresh elements, as the walk meets it: the slice of the new elements has just been built. -/
theorem wpList_append_new {w : World} {ops : Array Oper} {rest : List Oper} {o : Oper} {a : Act} {Q : Exit → Act → World → Prop} (hgd : o.guard = none) (s x : Operand)
    (ho : o.op = .call { callee := .builtin .append, args := #[s, x], argTypes := #[22, 22] })
    (base : Nat) (v : Value) (n : Nat) (xs : List Nat) (hs : a.eval s = v) (hown : Own base w v n xs) (news : List Nat) (m : Nat) (hl : news.length = m) (fr : Nat × Nat)
    (hx : a.eval x = .slice (some ⟨w.heap.size, 0, none⟩) m m) (h63 : n + m ≤ 10000) (w0 : World) (hb : Below base w0 w) (hbase : base ≤ w.heap.size)
    (h : ∀ v' w', Box (Own base w' v' (n + m) (xs ++ news)) → Below base w0 w' → base ≤ w'.heap.size → wpList Tryd.prog ops Q rest (a.put o.dst v') w') :
    wpList Tryd.prog ops Q (o :: rest) a (w.alloc (.cells (news.map nU8).toArray 5 fr)) := by
  obtain ⟨i0, hi, hz0, hz1, hz2⟩ := info_parts Tryd.infoU8
  refine wpList_append_in hgd s x ho base i0 hi hz0 hz1 hz2 v n (xs.map nU8) hs (hown.alloc _) (some ⟨w.heap.size, 0, none⟩) m m news hx hl (in_mark _ _ _ _ _ rfl) (fun h => by cases h) h63 base w0 (Nat.le_refl _) (hb.alloc hbase _) (size_alloc _ _ hbase) ?_
  intro v' w' ho hb hs
  refine h v' w' (box ?_) hb hs
  have := ho.out
  rw [← List.map_append] at this
  exact this
end Go.Proofs.YthfoakomapmkeaaDoor
/- The reference's Symbols and Index: their contracts. -/
namespace Go.Proofs.YthfoakomapmkeaaDoor
open Go.RowKit

set_option maxHeartbeats 8000000 in
theorem symbols_any (w : World) :
    Calls Tryd.prog 61 #[] w fun e w' => ∃ v, e = .returned v ∧ Own w.heap.size w' v 20 syms ∧ Below w.heap.size w w' := by
  go_enter Tryd.func61, Tryd.ntmps61
  go_wp2_with fail
  go_loopw [1, 2] (fun t1 t2 wr => ∃ n : Nat, n ≤ 64 ∧ t2 = .int .i64 n ∧ Box (Own w.heap.size wr t1 (symsTo n).length (symsTo n)) ∧ Below w.heap.size w wr) (fun _ t2 _ => 64 - (intOf t2).toNat)
  case atStart => exact ⟨0, by omega, rfl, box (World.ownsRow_nil _ _ _ _), Below.refl _ _⟩
  case round =>
    obtain ⟨n, hn, rfl, hown, kb⟩ := hrel
    by_cases hlt : n < 64
    · go_wp2_with fail
      go_loop [3, 4] (fun t3 t4 => ∃ k : Nat, k ≤ 6 ∧ t4 = .int .i64 k ∧ t3 = .int .i64 (on n k : Nat)) (fun _ t4 => 6 - (intOf t4).toNat)
      case atStart => exact ⟨0, by omega, rfl, rfl⟩
      case round =>
        obtain ⟨k, hk, rfl, rfl⟩ := hrel
        by_cases hk6 : k < 6
        · obtain ⟨y, hy⟩ : ∃ y, n / 2 ^ k = y := ⟨_, rfl⟩
          have ey : (n : Int) / 2 ^ k = (y : Int) := by rw [← hy]; push_cast; rfl
          have ho : on n (k + 1) = on n k + y % 2 := by rw [← hy]; rfl
          have l1 := on_le n k
          have HO := box ho
          clear hy ho
          generalize on n k = c at HO l1
          have ly := Nat.mod_lt y (show 0 < 2 by decide)
          have e2 : (y : Int) % 2 = ((y % 2 : Nat) : Int) := by omega
          generalize y % 2 = z at e2 HO ly
          go_wp2_with fail
          go_round
          case rel => exact ⟨k + 1, by omega, by go_num, by rw [HO.out]; push_cast; rfl⟩
          case measure => simp [intOf]; omega
        · have hk' : k = 6 := by omega
          subst hk'
          have ho := symsTo_succ n
          have hl := symsTo_length n
          by_cases h3 : on n 6 = 3
          · rw [if_pos h3] at ho
            rw [h3]
            have HS := box ho
            clear ho h3
            go_wp2_with (at_builtin; refine wpList_append_new (o := ⟨some 26, _, _, _, _, _⟩) rfl (.tmp 22) (.tmp 25) rfl w.heap.size _ _ _ rfl hown.out [n] 1 rfl (0, 0) rfl (by omega) w kb kb.size ?_; intro v3 w3 ho3 hb3 hs3)
            go_roundw
            case rel => exact ⟨n + 1, by omega, by go_num, box (by rw [HS.out]; have h := ho3.out; simpa using h), hb3⟩
            case measure => simp [intOf]; omega
          · rw [if_neg h3] at ho
            have HS := box ho
            have hb : decide (((on n 6 : Nat) : Int) = 3) = false := decide_eq_false (by omega)
            have hb2 : (((on n 6 : Nat) : Int) == 3) = false := by rw [beq_eq_false_iff_ne]; omega
            generalize on n 6 = c at hb hb2
            clear ho h3
            go_wp2_with fail
            go_roundw
            case rel => exact ⟨n + 1, by omega, by go_num, box (by rw [HS.out]; exact hown.out), kb⟩
            case measure => simp [intOf]; omega
    · have hn' : n = 64 := by omega
      subst hn'
      rw [symsTo_64] at hown
      go_wp2_with fail
      go_ret
      exact ⟨_, rfl, hown.out, kb⟩

/-- What the reference's Index answers. -/
def idxI (s : Nat) : Int := if idx s < 20 then (idx s : Int) else -1

set_option maxHeartbeats 8000000 in
theorem index_any (s : Nat) (hs : s < 256) (w : World) :
    Calls Tryd.prog 51 #[nU8 s] w fun e w' => e = .returned (.int .i64 (idxI s)) ∧ Below w.heap.size w w' := by
  obtain ⟨res, hres⟩ : ∃ res, idxI s = res := ⟨_, rfl⟩
  have HR := box hres
  rw [hres]
  clear hres
  go_enter Tryd.func51, Tryd.ntmps51
  go_wp2_with fail
  refine (symbols_any w).mono ?_
  rintro e w1 ⟨v, rfl, hown, kb⟩
  obtain ⟨a, c, rfl, hin, _, _⟩ := own_form (n := 20) rfl hown
  obtain ⟨b, rfl, hat⟩ : ∃ b, a = some b ∧ At w1 b syms := by
    rcases hin with h | h
    · cases h
    · exact h
  have HA := box hat
  clear hat hin hown
  go_wp2_with fail
  go_loop [4] (fun t4 => ∃ k : Nat, k ≤ 20 ∧ t4 = .int .i64 k ∧ Hid (∀ j < k, syms.getD j 0 ≠ s)) (fun t4 => 20 - (intOf t4).toNat)
  case atStart => exact ⟨0, by omega, rfl, Lib.hid (fun j hj => by omega)⟩
  case round =>
    obtain ⟨k, hk, rfl, hne⟩ := hrel
    by_cases hlt : k < 20
    · have hc := HA.out k hlt
      obtain ⟨y, hy⟩ : ∃ y, syms.getD k 0 = y := ⟨_, rfl⟩
      have HY := box hy
      rw [hy] at hc
      clear hy
      by_cases hys : y = s
      · have hb : ((y : Int) == (s : Int)) = true := by simp [hys]
        have hi := idx_first hne.out hlt (HY.out.trans hys)
        have HV := box (show res = (k : Int) by rw [← HR.out]; unfold idxI; rw [hi, if_pos hlt])
        clear hi hys
        go_wp2_with fail
        go_ret
        exact ⟨by rw [HV.out]; rfl, kb⟩
      · have hb : ((y : Int) == (s : Int)) = false := by simp; omega
        go_wp2_with fail
        go_round
        case rel =>
          refine ⟨k + 1, by omega, by go_num, Lib.hid (fun j hj => ?_)⟩
          rcases Nat.lt_or_ge j k with h | h
          · exact hne.out j h
          · obtain rfl : j = k := by omega
            rw [HY.out]; exact hys
        case measure => simp [intOf]; omega
    · have hk20 : k = 20 := by omega
      have hi := idx_none hs (fun j hj => hne.out j (by omega))
      have HV := box (show res = -1 by rw [← HR.out]; unfold idxI; rw [hi]; rfl)
      clear hi
      subst hk20
      go_wp2_with fail
      go_ret
      exact ⟨by rw [HV.out]; rfl, kb⟩
end Go.Proofs.YthfoakomapmkeaaDoor
/- Encode: its contract. -/
namespace Go.Proofs.YthfoakomapmkeaaDoor
open Go.RowKit

theorem u8_and15 {x : Nat} (hx : x < 256) : bits .and .u8 (x : Int) 15 = ((x % 16 : Nat) : Int) := by
  have := u8_and_nat x 15 hx (by decide)
  rw [show x &&& 15 = x % 16 from Nat.and_two_pow_sub_one_eq_mod x 4] at this
  exact this

/-- One append of fresh elements, as a step of a region that draws. -/
theorem step_append_new {ops : Array Oper} {o : Oper} {a : Act} {w : World} {K : Act → World → Prop} {Q : Exit → Act → World → Prop} {E : Prop} (hg : o.guard = none) (s x : Operand)
    (hop : o.op = .call { callee := .builtin .append, args := #[s, x], argTypes := #[22, 22] })
    (base : Nat) (v : Value) (n : Nat) (xs : List Nat) (hs : a.eval s = v) (hown : Own base w v n xs) (news : List Nat) (m : Nat) (hl : news.length = m) (fr : Nat × Nat)
    (hx : a.eval x = .slice (some ⟨w.heap.size, 0, none⟩) m m) (h63 : n + m ≤ 10000) (w0 : World) (hb : Below base w0 w) (hbase : base ≤ w.heap.size)
    (hK : ∀ v' w', Box (Own base w' v' (n + m) (xs ++ news)) → Below base w0 w' → base ≤ w'.heap.size → K (a.put o.dst v') w') :
    if Region.wanted o (yielded ops a.tmps) = true then Oper.wp Tryd.prog o a (w.alloc (.cells (news.map nU8).toArray 5 fr)) K Q else E := by
  have hw : Region.wanted o (yielded ops a.tmps) = true := by simp [Region.wanted, hg]
  rw [if_pos hw]
  obtain ⟨i0, hi, hz0, hz1, hz2⟩ := info_parts Tryd.infoU8
  have hbase' := size_alloc (w := w) base (.cells (news.map nU8).toArray 5 fr) hbase
  have hat := at_mark w news 5 fr _ rfl
  obtain ⟨v', w', hrun, r1, r2, _⟩ := run_append_own (P := Tryd.prog) (w.alloc (.cells (news.map nU8).toArray 5 fr)) base 22 o.type 5 i0 (.int .u8 0) 1 1 Tryd.underlying22 hi hz0 hz1 hz2 rfl (by decide) v n (xs.map nU8) (hown.alloc _) ⟨w.heap.size, 0, none⟩ m m (news.map nU8) (by simp [hl]) (fun j u hj => by
    simp at hj
    obtain ⟨y, hy, rfl⟩ := hj
    have hjl : j < news.length := (List.getElem?_eq_some_iff.1 hy).1
    rw [hat j hjl]
    simp [List.getD_eq_getElem?_getD, hy]) (nU8_one _) (by unfold maxLen; omega) (by omega) hbase'
  unfold Oper.wp
  simp [execOp, hop, resolve, invoke, builtin, hs, hx, hrun, Result.andThen]
  rw [← List.map_append] at r1
  exact hK v' w' (box r1) (own_below (hown.alloc _) (Nat.le_refl _) (hb.alloc hbase _) hbase' r2) (Nat.le_trans hbase' r2.size)

set_option maxHeartbeats 8000000 in
theorem encode_any (a : Option Addr) (n c : Nat) (xs : List Nat) (hn : xs.length = n) (hx : ∀ x ∈ xs, x < 256) (hbig : n ≤ 1000) (w : World) (hc : In w a xs) (hT : HasTab w) :
    Calls Tryd.prog 39 #[.slice a n c] w fun e w' => ∃ v, e = .returned v ∧ Own w.heap.size w' v (2 * n) (enc xs) ∧ Below w.heap.size w w' := by
  have HT := box hT
  have HX := box hx
  have HC := box hc
  clear hT hx hc
  obtain ⟨i0, hi, hz0, hz1, hz2⟩ := info_parts Tryd.infoU8
  have hu22 := Tryd.underlying22
  have hmk := run_make (P := Tryd.prog) w 22 5 i0 (.int .u8 0) hu22 hi hz0 .i64 .i64 0 (2 * (n : Int)) (by omega) (by omega) (by rw [hz2]; omega) (by omega)
  rw [hz1] at hmk
  go_enter Tryd.func39, Tryd.ntmps39
  go_wp2_with fail
  have kb0 : Below w.heap.size w (w.alloc (.cells (madeCells #[Value.int .u8 0] (2 * n)) 5)) := (Below.refl _ _).alloc (Nat.le_refl _) _
  have hown0 : Own w.heap.size (w.alloc (.cells (madeCells #[Value.int .u8 0] (2 * n)) 5)) (.slice (some ⟨w.heap.size, 0, none⟩) 0 (2 * n)) 0 [] := World.ownsRow_made w _ _ (Nat.le_refl _) (by unfold maxLen; omega) (by rw [size_madeCells]; omega)
  have HO0 := box hown0
  clear hown0
  clear hmk
  go_loopw [3, 12] (fun t3 t12 wr => ∃ k : Nat, k ≤ n ∧ t12 = .int .i64 k ∧ Box (Own w.heap.size wr t3 (2 * k) (enc (xs.take k))) ∧ Below w.heap.size w wr) (fun _ t12 _ => n - (intOf t12).toNat)
  case atStart => exact ⟨0, by omega, rfl, HO0, kb0⟩
  case round =>
    obtain ⟨k, hk, rfl, hown, kb⟩ := hrel
    by_cases hlt : k < n
    · obtain ⟨b, rfl, hat⟩ : ∃ b, a = some b ∧ At w b xs := by
        rcases HC.out with h | h
        · subst h; simp at hn; omega
        · exact h
      have h1 := keepc kb (hat k (by omega))
      have HE := box (enc_take (xs := xs) (k := k) (by omega))
      have lx := getD_lt HX.out (show k < xs.length by omega)
      clear hat
      generalize xs.getD k 0 = x at h1 HE lx
      have e1 := u8_and15 lx
      have e2 : (x : Int) / 16 = ((x / 16 : Nat) : Int) := by omega
      have c1 := (HT.out.below kb).cell (x / 16) (by omega)
      have c2 := (HT.out.below kb).cell (x % 16) (by omega)
      have l1 : x / 16 < 16 := by omega
      have l2 : x % 16 < 16 := by omega
      generalize syms.getD (x / 16) 0 = s1 at c1 HE
      generalize syms.getD (x % 16) 0 = s2 at c2 HE
      generalize x / 16 = q1 at e2 c1 l1
      generalize x % 16 = q2 at e1 c2 l2
      have l3 : (q1 : Int) < 20 := by omega
      have l4 : (q2 : Int) < 20 := by omega
      go_wp2_with fail
      have HOD := box hown.out.drew
      have kbd := kb.drew
      go_region_law (refine step_append_new (o := ⟨some 26, _, _, _, _, _⟩) rfl (.tmp 16) (.tmp 25) rfl w.heap.size _ _ _ rfl HOD.out [s1, s2] 2 rfl (0, 0) rfl (by omega) w kbd kbd.size ?_; intro v3 w3 ho3 hb3 hs3)
      all_goals
        go_wp2_with fail
        go_roundw
        case rel => exact ⟨k + 1, by omega, by go_num, box (by rw [HE.out]; have h := ho3.out; rwa [show 2 * (k + 1) = 2 * k + 2 by omega]), hb3⟩
        case measure => simp [intOf]; omega
    · have hk' : k = n := by omega
      subst hk'
      rw [← hn, List.take_length, hn] at hown
      go_wp2_with fail
      go_ret
      exact ⟨_, rfl, hown.out, kb⟩
end Go.Proofs.YthfoakomapmkeaaDoor
/- Same, and the laws' first call: the chapter's examples hold. -/
namespace Go.Proofs.YthfoakomapmkeaaDoor
open Go.RowKit

theorem list_eq {xs ys : List Nat} (hl : xs.length = ys.length) (h : ∀ j < xs.length, xs.getD j 0 = ys.getD j 0) : xs = ys := by
  apply List.ext_getElem hl
  intro j h1 h2
  have := h j h1
  simpa [List.getD_eq_getElem?_getD, List.getElem?_eq_getElem h1, List.getElem?_eq_getElem h2] using this
theorem in_some {w : World} {a : Option Addr} {xs : List Nat} {k : Nat} (h : In w a xs) (hk : k < xs.length) : ∃ b, a = some b ∧ w.cell? (b.add k) = some (nU8 (xs.getD k 0)) := by
  rcases h with rfl | ⟨b, rfl, hat⟩
  · simp at hk
  · exact ⟨b, rfl, hat k hk⟩
theorem drewN_below (w : World) (m : Nat) : Below w.heap.size w (w.drewN m) := below_drewN m (Below.refl _ _)

theorem drewN_two (w : World) (t n : Nat) : (w.drewN t).drewN n = w.drewN (t + n) := by simp [World.drewN, Nat.add_assoc]

end Go.Proofs.YthfoakomapmkeaaDoor
/- The walk of LinecodeSymbols. -/
namespace Go.Proofs.YthfoakomapmkeaaDoor
open Go.RowKit

/-- What Value and Index answer, case by case. -/
theorem value_cases (s : Nat) : (∃ k : Nat, k < 16 ∧ valueV (idx s) = .tuple #[.int .i64 (k : Int), .bool false, .int .i64 0] ∧ idxI s = (k : Int)) ∨
    (∃ k : Nat, 16 ≤ k ∧ k < 20 ∧ valueV (idx s) = .tuple #[.int .i64 ((k : Int) - 16), .bool true, .int .i64 0] ∧ idxI s = (k : Int)) ∨
    (valueV (idx s) = .tuple #[.int .i64 0, .bool false, .int .i64 3] ∧ idxI s = -1) := by
  unfold idxI valueV
  by_cases h1 : idx s < 16
  · exact .inl ⟨idx s, h1, by rw [if_pos h1], by rw [if_pos (by omega)]⟩
  · by_cases h2 : idx s < 20
    · exact .inr (.inl ⟨idx s, by omega, h2, by rw [if_neg h1, if_pos h2], by rw [if_pos h2]⟩)
    · exact .inr (.inr ⟨by rw [if_neg h1, if_neg h2], by rw [if_neg h2]⟩)

end Go.Proofs.YthfoakomapmkeaaDoor
/- Decoding, as plain mathematics. -/
namespace Go.Proofs.YthfoakomapmkeaaDoor

/-- The bytes of the first k pairs of symbols. -/
def decTo (xs : List Nat) (k : Nat) : List Nat := (List.range k).map fun j => 16 * idx (xs.getD (2 * j) 0) + idx (xs.getD (2 * j + 1) 0)
theorem decTo_length (xs : List Nat) (k : Nat) : (decTo xs k).length = k := by simp [decTo]
theorem decTo_succ (xs : List Nat) (k : Nat) : decTo xs (k + 1) = decTo xs k ++ [16 * idx (xs.getD (2 * k) 0) + idx (xs.getD (2 * k + 1) 0)] := by
  unfold decTo; rw [List.range_succ, List.map_append]; rfl
/-- All of the first k symbols are data symbols. -/
def okTo (xs : List Nat) (k : Nat) : Prop := ∀ j < k, idx (xs.getD j 0) < 16
theorem decTo_lt {xs : List Nat} {k : Nat} (h : okTo xs (2 * k)) : ∀ x ∈ decTo xs k, x < 256 := by
  intro x hx
  obtain ⟨j, hj, rfl⟩ := List.mem_map.1 hx
  rw [List.mem_range] at hj
  have h1 := h (2 * j) (by omega)
  have h2 := h (2 * j + 1) (by omega)
  omega
theorem idx_enc1 : ∀ x < 256, idx (syms.getD (x / 16) 0) = x / 16 := fun x hx => idx_syms _ (by omega)
theorem idx_enc2 : ∀ x < 256, idx (syms.getD (x % 16) 0) = x % 16 := fun x hx => idx_syms _ (by omega)
theorem enc_getD (xs : List Nat) : ∀ j < xs.length, (enc xs).getD (2 * j) 0 = syms.getD (xs.getD j 0 / 16) 0 ∧ (enc xs).getD (2 * j + 1) 0 = syms.getD (xs.getD j 0 % 16) 0 := by
  induction xs with
  | nil => intro j hj; simp at hj
  | cons x xs ih =>
    intro j hj
    have e : enc (x :: xs) = syms.getD (x / 16) 0 :: syms.getD (x % 16) 0 :: enc xs := rfl
    cases j with
    | zero => rw [e]; exact ⟨rfl, rfl⟩
    | succ j =>
      rw [e]
      have := ih j (by simpa using hj)
      rw [show 2 * (j + 1) = 2 * j + 1 + 1 by omega, show 2 * j + 1 + 1 + 1 = (2 * j + 1) + 1 + 1 by omega]
      simp only [List.getD_cons_succ]
      exact this
theorem enc_ok {xs : List Nat} (hx : ∀ x ∈ xs, x < 256) : okTo (enc xs) (2 * xs.length) := by
  intro j hj
  have hm : ∀ i < xs.length, xs.getD i 0 < 256 := fun i hi => by
    rw [List.getD_eq_getElem?_getD, List.getElem?_eq_getElem hi]; exact hx _ (List.getElem_mem hi)
  obtain ⟨i, h | h⟩ : ∃ i, j = 2 * i ∨ j = 2 * i + 1 := ⟨j / 2, by omega⟩
  · subst h
    rw [(enc_getD xs i (by omega)).1, idx_enc1 _ (hm i (by omega))]
    have := hm i (by omega); omega
  · subst h
    rw [(enc_getD xs i (by omega)).2, idx_enc2 _ (hm i (by omega))]
    exact Nat.mod_lt _ (by decide)
theorem dec_enc {xs : List Nat} (hx : ∀ x ∈ xs, x < 256) : decTo (enc xs) xs.length = xs := by
  apply List.ext_getElem (by rw [decTo_length])
  intro j h1 h2
  have hj : j < xs.length := h2
  have hm : xs.getD j 0 < 256 := by rw [List.getD_eq_getElem?_getD, List.getElem?_eq_getElem hj]; exact hx _ (List.getElem_mem hj)
  have e : xs[j] = xs.getD j 0 := by rw [List.getD_eq_getElem?_getD, List.getElem?_eq_getElem hj]; rfl
  simp only [decTo, List.getElem_map, List.getElem_range]
  rw [(enc_getD xs j hj).1, (enc_getD xs j hj).2, idx_enc1 _ hm, idx_enc2 _ hm, e]
  omega
theorem syms_of_idx {s : Nat} (hs : s < 256) (h : idx s < 16) : syms.getD (idx s) 0 = s := syms_idx s hs (by omega)
theorem enc_dec {xs : List Nat} {k : Nat} (hx : ∀ x ∈ xs, x < 256) (hn : xs.length = 2 * k) (h : okTo xs (2 * k)) : enc (decTo xs k) = xs := by
  apply List.ext_getElem (by rw [enc_length, decTo_length, hn])
  intro j h1 h2
  have hl := decTo_length xs k
  have hm : ∀ i < xs.length, xs.getD i 0 < 256 := fun i hi => by
    rw [List.getD_eq_getElem?_getD, List.getElem?_eq_getElem hi]; exact hx _ (List.getElem_mem hi)
  have e1 : ∀ i (hi : i < (enc (decTo xs k)).length), (enc (decTo xs k))[i] = (enc (decTo xs k)).getD i 0 := fun i hi => by rw [List.getD_eq_getElem?_getD, List.getElem?_eq_getElem hi]; rfl
  have e2 : ∀ i (hi : i < xs.length), xs[i] = xs.getD i 0 := fun i hi => by rw [List.getD_eq_getElem?_getD, List.getElem?_eq_getElem hi]; rfl
  have hd : ∀ i < k, (decTo xs k).getD i 0 = 16 * idx (xs.getD (2 * i) 0) + idx (xs.getD (2 * i + 1) 0) := fun i hi => by
    rw [List.getD_eq_getElem?_getD, List.getElem?_eq_getElem (by omega)]
    simp [decTo]
  rw [e1, e2]
  obtain ⟨i, hi | hi⟩ : ∃ i, j = 2 * i ∨ j = 2 * i + 1 := ⟨j / 2, by omega⟩
  · subst hi
    have a := h (2 * i) (by omega)
    have b := h (2 * i + 1) (by omega)
    rw [(enc_getD _ i (by omega)).1, hd i (by omega), show (16 * idx (xs.getD (2 * i) 0) + idx (xs.getD (2 * i + 1) 0)) / 16 = idx (xs.getD (2 * i) 0) by omega]
    exact syms_of_idx (hm _ (by omega)) a
  · subst hi
    have a := h (2 * i) (by omega)
    have b := h (2 * i + 1) (by omega)
    rw [(enc_getD _ i (by omega)).2, hd i (by omega), show (16 * idx (xs.getD (2 * i) 0) + idx (xs.getD (2 * i + 1) 0)) % 16 = idx (xs.getD (2 * i + 1) 0) by omega]
    exact syms_of_idx (hm _ (by omega)) b
end Go.Proofs.YthfoakomapmkeaaDoor
/- Decode: its contract. -/
namespace Go.Proofs.YthfoakomapmkeaaDoor
open Go.RowKit

theorem or_nib : ∀ u < 16, ∀ v < 16, bits .or .i64 ((u : Nat) * 16 : Int) ((v : Nat) : Int) = ((16 * u + v : Nat) : Int) := by decide +kernel

/-- What Decode answers. -/
def DecPost (xs : List Nat) (n : Nat) (w : World) (e : Ending) (w' : World) : Prop :=
  Below w.heap.size w w' ∧
  ((∃ i, i < n ∧ okTo xs i ∧ 16 ≤ idx (xs.getD i 0) ∧ e = .returned (.tuple #[.slice none 0 0, .int .i64 (i : Int), .int .i64 3])) ∨
   (okTo xs n ∧ n % 2 = 1 ∧ e = .returned (.tuple #[.slice none 0 0, .int .i64 (n : Int), .int .i64 4])) ∨
   (okTo xs n ∧ n % 2 = 0 ∧ ∃ v, e = .returned (.tuple #[v, .int .i64 (-1), .int .i64 0]) ∧ Own w.heap.size w' v (n / 2) (decTo xs (n / 2))))

set_option maxHeartbeats 8000000 in
theorem decode_any (a : Option Addr) (n c : Nat) (xs : List Nat) (hn : xs.length = n) (hx : ∀ x ∈ xs, x < 256) (hbig : n ≤ 1000) (w : World) (hc : In w a xs) (hT : HasTab w) :
    Calls Tryd.prog 63 #[.slice a n c] w (DecPost xs n w) := by
  have HT := box hT
  have HX := box hx
  have HC := box hc
  clear hT hx hc
  obtain ⟨i0, hi, hz0, hz1, hz2⟩ := info_parts Tryd.infoU8
  have hu22 := Tryd.underlying22
  have hmk := run_make (P := Tryd.prog) w 22 5 i0 (.int .u8 0) hu22 hi hz0 .i64 .i64 0 ((n : Int) / 2) (by omega) (by omega) (by rw [hz2]; omega) (by omega)
  rw [hz1, show ((n : Int) / 2).toNat = n / 2 by omega] at hmk
  have h2 : (0 : Int) ≤ (n : Int) / 2 := by omega
  go_enter Tryd.func63, Tryd.ntmps63
  go_wp2_with fail
  have kb0 : Below w.heap.size w (w.alloc (.cells (madeCells #[Value.int .u8 0] (n / 2)) 5)) := (Below.refl _ _).alloc (Nat.le_refl _) _
  have hown0 : Own w.heap.size (w.alloc (.cells (madeCells #[Value.int .u8 0] (n / 2)) 5)) (.slice (some ⟨w.heap.size, 0, none⟩) 0 (n / 2)) 0 [] := World.ownsRow_made w _ _ (Nat.le_refl _) (by unfold maxLen; omega) (by rw [size_madeCells]; omega)
  have HO0 := box hown0
  clear hown0 hmk
  go_loopw [5, 6, 18] (fun t5 t6 t18 wr => ∃ (k u : Nat), k ≤ n ∧ t18 = .int .i64 k ∧ t6 = .int .i64 (u : Int) ∧ u < 16 ∧ Box (k % 2 = 1 → u = idx (xs.getD (k - 1) 0)) ∧ Box (okTo xs k) ∧ Box (Own w.heap.size wr t5 (k / 2) (decTo xs (k / 2))) ∧ Below w.heap.size w wr) (fun _ _ t18 _ => n - (intOf t18).toNat)
  case atStart => exact ⟨0, 0, by omega, rfl, rfl, by omega, box (fun h => by omega), box (fun j hj => by omega), HO0, kb0⟩
  case round =>
    obtain ⟨k, u, hk, rfl, rfl, hu, hup, hok, hown, kb⟩ := hrel
    by_cases hlt : k < n
    · obtain ⟨b, rfl, h1⟩ := in_some (HC.out.below kb) (show k < xs.length by omega)
      have lx := getD_lt HX.out (show k < xs.length by omega)
      have kT := HT.out.below kb
      have V := value_any _ lx wr kT
      obtain ⟨x, hxk⟩ : ∃ x, xs.getD k 0 = x := ⟨_, rfl⟩
      have HXK := box hxk
      rw [hxk] at h1 V lx
      clear hxk
      obtain ⟨q, hq⟩ : ∃ q, idx x = q := ⟨_, rfl⟩
      have HQ := box hq
      rw [hq] at V
      clear hq
      by_cases hq16 : q < 16
      · rw [show valueV q = .tuple #[.int .i64 (q : Int), .bool false, .int .i64 0] by unfold valueV; rw [if_pos hq16]] at V
        have HV := box V
        have hok' : Box (okTo xs (k + 1)) := box (fun j hj => by
          rcases Nat.lt_or_ge j k with h | h
          · exact hok.out j h
          · obtain rfl : j = k := by omega
            rw [HXK.out, HQ.out]; exact hq16)
        clear V
        go_wp2_with fail
        refine HV.out.mono ?_
        rintro e w2 ⟨rfl, rfl⟩
        by_cases hp : k % 2 = 0
        · have hz : (k : Int) % 2 = 0 := by omega
          have hHP := box hp
          clear hp
          go_wp2_with fail
          go_roundw
          case rel => exact ⟨k + 1, q, by omega, by go_num, rfl, hq16, box (fun h => by rw [Nat.add_sub_cancel, HXK.out, HQ.out]), hok', box (by have := hHP.out; rw [show (k + 1) / 2 = k / 2 by omega]; exact hown.out), kb⟩
          case measure => simp [intOf]; omega
        · have hz : (k : Int) % 2 = 1 := by omega
          have ho := or_nib u hu q hq16
          have HD := box (show decTo xs ((k + 1) / 2) = decTo xs (k / 2) ++ [16 * u + q] by
            rw [show (k + 1) / 2 = k / 2 + 1 by omega, decTo_succ, show 2 * (k / 2) = k - 1 by omega, show k - 1 + 1 = k by omega, HXK.out, HQ.out, ← hup.out (by omega)])
          have hHP := box hp
          clear hp
          have lz : 16 * u + q < 256 := by omega
          obtain ⟨z, hzz⟩ : ∃ z, 16 * u + q = z := ⟨_, rfl⟩
          rw [hzz] at ho HD lz
          clear hzz
          go_wp2_with (at_builtin; refine wpList_append_new (o := ⟨some 46, _, _, _, _, _⟩) rfl (.tmp 39) (.tmp 45) rfl w.heap.size _ _ _ rfl hown.out [z] 1 rfl (0, 0) rfl (by omega) w kb kb.size ?_; intro v3 w3 ho3 hb3 hs3)
          go_roundw
          case rel => exact ⟨k + 1, u, by omega, by go_num, rfl, hu, box (fun h => by have := hHP.out; omega), hok', box (by have := hHP.out; rw [HD.out]; have h := ho3.out; rwa [show (k + 1) / 2 = k / 2 + 1 by omega]), hb3⟩
          case measure => simp [intOf]; omega
      · have HF := box (show DecPost xs n w (.returned (.tuple #[.slice none 0 0, .int .i64 (k : Int), .int .i64 3])) wr from ⟨kb, .inl ⟨k, hlt, hok.out, by rw [HXK.out, HQ.out]; omega, rfl⟩⟩)
        by_cases hq20 : q < 20
        · rw [show valueV q = .tuple #[.int .i64 ((q : Int) - 16), .bool true, .int .i64 0] by unfold valueV; rw [if_neg hq16, if_pos hq20]] at V
          have HV := box V
          clear V
          go_wp2_with fail
          refine HV.out.mono ?_
          rintro e w2 ⟨rfl, rfl⟩
          go_wp2_with fail
          refine bodyPost_ret (v := .tuple #[.slice none 0 0, .int .i64 (k : Int), .int .i64 3]) (by simp [results, Tryd.results63, go_sem]) rfl HF.out
        · rw [show valueV q = .tuple #[.int .i64 0, .bool false, .int .i64 3] by unfold valueV; rw [if_neg hq16, if_neg hq20]] at V
          have HV := box V
          clear V
          go_wp2_with fail
          refine HV.out.mono ?_
          rintro e w2 ⟨rfl, rfl⟩
          go_wp2_with fail
          refine bodyPost_ret (v := .tuple #[.slice none 0 0, .int .i64 (k : Int), .int .i64 3]) (by simp [results, Tryd.results63, go_sem]) rfl HF.out
    · have hk' : k = n := by omega
      subst hk'
      by_cases hp : k % 2 = 0
      · have hz : (k : Int) % 2 = 0 := by omega
        have HF := fun v => fun h => box (show DecPost xs k w (.returned (.tuple #[v, .int .i64 (-1), .int .i64 0])) wr from ⟨kb, .inr (.inr ⟨hok.out, hp, v, rfl, h⟩)⟩)
        clear hp
        go_wp2_with fail
        refine bodyPost_ret (by simp [results, Tryd.results63, go_sem]) rfl (HF _ hown.out).out
      · have hz : (k : Int) % 2 = 1 := by omega
        have HF := box (show DecPost xs k w (.returned (.tuple #[.slice none 0 0, .int .i64 (k : Int), .int .i64 4])) wr from ⟨kb, .inr (.inl ⟨hok.out, by omega, rfl⟩)⟩)
        clear hp
        go_wp2_with fail
        refine bodyPost_ret (v := .tuple #[.slice none 0 0, .int .i64 (k : Int), .int .i64 4]) (by simp [results, Tryd.results63, go_sem]) rfl HF.out
end Go.Proofs.YthfoakomapmkeaaDoor
/- The reference's Encode: its contract. -/
namespace Go.Proofs.YthfoakomapmkeaaDoor
open Go.RowKit

theorem own_mono {B C : Nat} {w : World} {v : Value} {n : Nat} {xs : List Nat} (h : Own C w v n xs) (hBC : B ≤ C) : Own B w v n xs := by
  obtain ⟨hl, h⟩ := h
  rcases h with h | ⟨g, cap, cur, hv, hg, hh, hr⟩
  · exact ⟨hl, .inl h⟩
  · exact ⟨hl, .inr ⟨g, cap, cur, hv, Nat.le_trans hBC hg, hh, hr⟩⟩

set_option maxHeartbeats 8000000 in
theorem rencode_any (a : Option Addr) (n c : Nat) (xs : List Nat) (hn : xs.length = n) (hx : ∀ x ∈ xs, x < 256) (hbig : n ≤ 1000) (w : World) (hc : In w a xs) :
    Calls Tryd.prog 42 #[.slice a n c] w fun e w' => ∃ v, e = .returned v ∧ Own w.heap.size w' v (2 * n) (enc xs) ∧ Below w.heap.size w w' := by
  have HX := box hx
  have HC := box hc
  clear hx hc
  go_enter Tryd.func42, Tryd.ntmps42
  go_wp2_with fail
  refine (symbols_any w).mono ?_
  rintro e w1 ⟨v, rfl, hown, kb1⟩
  obtain ⟨la, lc, rfl, hin, _, _⟩ := own_form (n := 20) rfl hown
  obtain ⟨lb, rfl, hat⟩ : ∃ b, la = some b ∧ At w1 b syms := by
    rcases hin with h | h
    · cases h
    · exact h
  have HA := box hat
  clear hat hin hown
  go_wp2_with fail
  go_loopw [4, 5] (fun t4 t5 wr => ∃ k : Nat, k ≤ n ∧ t5 = .int .i64 k ∧ Box (Own w1.heap.size wr t4 (2 * k) (enc (xs.take k))) ∧ Below w1.heap.size w1 wr) (fun _ t5 _ => n - (intOf t5).toNat)
  case atStart => exact ⟨0, by omega, rfl, box (World.ownsRow_nil _ _ _ _), Below.refl _ _⟩
  case round =>
    obtain ⟨k, hk, rfl, hown, kb⟩ := hrel
    have kw : Below w.heap.size w wr := kb1.trans (kb.mono kb1.size)
    by_cases hlt : k < n
    · obtain ⟨b, rfl, h1⟩ := in_some (HC.out.below kw) (show k < xs.length by omega)
      have HE := box (enc_take (xs := xs) (k := k) (by omega))
      have lx := getD_lt HX.out (show k < xs.length by omega)
      generalize xs.getD k 0 = x at h1 HE lx
      have e1 : (x : Int).tmod 16 = ((x % 16 : Nat) : Int) := by rw [Int.tmod_eq_emod_of_nonneg (by omega)]; omega
      have e2 : (x : Int) / 16 = ((x / 16 : Nat) : Int) := by omega
      have c1 := keepc kb (HA.out (x / 16) (show x / 16 < 20 by omega))
      have c2 := keepc kb (HA.out (x % 16) (show x % 16 < 20 by omega))
      have l1 : x / 16 < 16 := by omega
      have l2 : x % 16 < 16 := by omega
      generalize syms.getD (x / 16) 0 = s1 at c1 HE
      generalize syms.getD (x % 16) 0 = s2 at c2 HE
      generalize x / 16 = q1 at e2 c1 l1
      generalize x % 16 = q2 at e1 c2 l2
      have l3 : (q1 : Int) < 20 := by omega
      have l4 : (q2 : Int) < 20 := by omega
      have w1' : IntKind.u8.wrap (q1 : Int) = (q1 : Int) := by rw [IntKind.wrap_u8]; omega
      have w2' : IntKind.u8.wrap (q2 : Int) = (q2 : Int) := by rw [IntKind.wrap_u8]; omega
      go_wp2_with fail
      have HOD := box hown.out.drew
      have kbd := kb.drew
      go_region_law (refine step_append_new (o := ⟨some 31, _, _, _, _, _⟩) rfl (.tmp 13) (.tmp 30) rfl w1.heap.size _ _ _ rfl HOD.out [s1, s2] 2 rfl (0, 0) rfl (by omega) w1 kbd kbd.size ?_; intro v3 w3 ho3 hb3 hs3)
      all_goals
        go_wp2_with fail
        go_roundw
        case rel => exact ⟨k + 1, by omega, by go_num, box (by rw [HE.out]; have h := ho3.out; rwa [show 2 * (k + 1) = 2 * k + 2 by omega]), hb3⟩
        case measure => simp [intOf]; omega
    · have hk' : k = n := by omega
      subst hk'
      rw [← hn, List.take_length, hn] at hown
      go_wp2_with fail
      go_ret
      exact ⟨_, rfl, own_mono hown.out kb1.size, kw⟩
end Go.Proofs.YthfoakomapmkeaaDoor
/- The walk of LinecodeCodes. -/
namespace Go.Proofs.YthfoakomapmkeaaDoor
open Go.RowKit

theorem enc_lt {xs : List Nat} (hx : ∀ x ∈ xs, x < 256) : ∀ y ∈ enc xs, y < 256 := by
  intro y hy
  obtain ⟨x, hxm, hy⟩ := List.mem_flatMap.1 hy
  have h1 := hx x hxm
  have a := syms_lt (x / 16) (by omega)
  have b := syms_lt (x % 16) (by omega)
  simp only [List.mem_cons, List.not_mem_nil, or_false] at hy
  rcases hy with rfl | rfl <;> omega

/-- Decoding an encoding. -/
theorem decode_enc (a : Option Addr) (n c : Nat) (xs : List Nat) (hn : xs.length = n) (hx : ∀ x ∈ xs, x < 256) (hbig : n ≤ 500) (w : World) (hc : In w a (enc xs)) (hT : HasTab w) :
    Calls Tryd.prog 63 #[.slice a (2 * n) c] w fun e w' => ∃ v, e = .returned (.tuple #[v, .int .i64 (-1), .int .i64 0]) ∧ Own w.heap.size w' v n xs ∧ Below w.heap.size w w' := by
  refine (decode_any a (2 * n) c (enc xs) (by rw [enc_length, hn]) (enc_lt hx) (by omega) w hc hT).mono fun e w' h => ?_
  obtain ⟨hb, h⟩ := h
  have hok : okTo (enc xs) (2 * n) := hn ▸ enc_ok hx
  rcases h with ⟨i, h1, _, h2, _⟩ | ⟨_, h2, _⟩ | ⟨_, _, v, he, ho⟩
  · exact absurd (hok i h1) (by omega)
  · omega
  · refine ⟨v, he, ?_, hb⟩
    rw [show 2 * n / 2 = n by omega, ← hn, dec_enc hx, hn] at ho
    exact ho

end Go.Proofs.YthfoakomapmkeaaDoor
/- The reference's Decode: its contract. -/
namespace Go.Proofs.YthfoakomapmkeaaDoor
open Go.RowKit

theorem own_later {B : Nat} {w w' : World} {v : Value} {n : Nat} {xs : List Nat} (h : Own B w v n xs) (hb : Below w.heap.size w w') : Own B w' v n xs := by
  obtain ⟨hl, h⟩ := h
  rcases h with h | ⟨g, cap, cur, hv, hg, hh, hr⟩
  · exact ⟨hl, .inl h⟩
  · exact ⟨hl, .inr ⟨g, cap, cur, hv, hg, (hb.block g (Array.getElem?_eq_some_iff.1 hh).1).trans hh, hr⟩⟩
theorem idxI_lt {s q : Nat} (h : idx s = q) (hq : q < 20) : idxI s = (q : Int) := by unfold idxI; rw [h, if_pos hq]
theorem idxI_no {s q : Nat} (h : idx s = q) (hq : ¬ q < 20) : idxI s = -1 := by unfold idxI; rw [h, if_neg hq]

theorem step_append_later {ops : Array Oper} {o : Oper} {a : Act} {w : World} {K : Act → World → Prop} {Q : Exit → Act → World → Prop} {E : Prop} (hg : o.guard = none) (s x : Operand)
    (hop : o.op = .call { callee := .builtin .append, args := #[s, x], argTypes := #[22, 22] })
    (base : Nat) (v : Value) (n : Nat) (xs : List Nat) (w0 w1 : World) (hs : a.eval s = v) (hown : Own base w0 v n xs) (news : List Nat) (m : Nat) (hl : news.length = m) (fr : Nat × Nat) (hb0 : Below w0.heap.size w0 w)
    (hx : a.eval x = .slice (some ⟨w.heap.size, 0, none⟩) m m) (h63 : n + m ≤ 10000) (hb : Below base w1 w) (hbase : base ≤ w.heap.size)
    (hK : ∀ v' w', Box (Own base w' v' (n + m) (xs ++ news)) → Below base w1 w' → base ≤ w'.heap.size → K (a.put o.dst v') w') :
    if Region.wanted o (yielded ops a.tmps) = true then Oper.wp Tryd.prog o a (w.alloc (.cells (news.map nU8).toArray 5 fr)) K Q else E :=
  step_append_new hg s x hop base v n xs hs (own_later hown hb0) news m hl fr hx h63 w1 hb hbase hK

set_option maxHeartbeats 8000000 in
theorem rdecode_any (a : Option Addr) (n c : Nat) (xs : List Nat) (hn : xs.length = n) (hx : ∀ x ∈ xs, x < 256) (hbig : n ≤ 1000) (w : World) (hc : In w a xs) :
    Calls Tryd.prog 52 #[.slice a n c] w (DecPost xs n w) := by
  have HX := box hx
  have HC := box hc
  clear hx hc
  go_enter Tryd.func52, Tryd.ntmps52
  go_wp2_with fail
  go_loopw [5] (fun t5 wr => ∃ k : Nat, k ≤ n ∧ t5 = .int .i64 k ∧ Box (okTo xs k) ∧ Below w.heap.size w wr) (fun t5 _ => n - (intOf t5).toNat)
  case atStart => exact ⟨0, by omega, rfl, box (fun j hj => by omega), Below.refl _ _⟩
  case round =>
    obtain ⟨k, hk, rfl, hok, kb⟩ := hrel
    by_cases hlt : k < n
    · obtain ⟨b, rfl, h1⟩ := in_some (HC.out.below kb) (show k < xs.length by omega)
      have lx := getD_lt HX.out (show k < xs.length by omega)
      have V := index_any _ lx wr
      obtain ⟨x, hxk⟩ : ∃ x, xs.getD k 0 = x := ⟨_, rfl⟩
      have HXK := box hxk
      rw [hxk] at h1 V lx
      clear hxk
      obtain ⟨q, hq⟩ : ∃ q, idx x = q := ⟨_, rfl⟩
      have HQ := box hq
      clear hq
      by_cases hq16 : q < 16
      · rw [idxI_lt HQ.out (by omega)] at V
        have HV := box V
        have hok' : Box (okTo xs (k + 1)) := box (fun j hj => by
          rcases Nat.lt_or_ge j k with h | h
          · exact hok.out j h
          · obtain rfl : j = k := by omega
            rw [HXK.out, HQ.out]; exact hq16)
        have d1 : decide ((q : Int) < 0) = false := decide_eq_false (by omega)
        have d2 : decide ((15 : Int) < (q : Int)) = false := decide_eq_false (by omega)
        clear V
        go_wp2_with fail
        refine HV.out.mono ?_
        rintro e w2 ⟨rfl, hb2⟩
        have kb2 := kb.trans (hb2.mono kb.size)
        go_wp2_with fail
        go_roundw
        case rel => exact ⟨k + 1, by omega, by go_num, hok', kb2⟩
        case measure => simp [intOf]; omega
      · by_cases hq20 : q < 20
        · rw [idxI_lt HQ.out (by omega)] at V
          have HV := box V
          have d1 : decide ((q : Int) < 0) = false := decide_eq_false (by omega)
          have d2 : decide ((15 : Int) < (q : Int)) = true := decide_eq_true (by omega)
          clear V
          go_wp2_with fail
          refine HV.out.mono ?_
          rintro e w2 ⟨rfl, hb2⟩
          have kb2 := kb.trans (hb2.mono kb.size)
          have HF := box (show DecPost xs n w (.returned (.tuple #[.slice none 0 0, .int .i64 (k : Int), .int .i64 3])) w2 from ⟨kb2, .inl ⟨k, hlt, hok.out, by rw [HXK.out, HQ.out]; omega, rfl⟩⟩)
          go_wp2_with fail
          refine bodyPost_ret (v := .tuple #[.slice none 0 0, .int .i64 (k : Int), .int .i64 3]) (by simp [results, Tryd.results52, go_sem]) rfl HF.out
        · rw [idxI_no HQ.out (by omega)] at V
          have HV := box V
          clear V
          go_wp2_with fail
          refine HV.out.mono ?_
          rintro e w2 ⟨rfl, hb2⟩
          have kb2 := kb.trans (hb2.mono kb.size)
          have HF := box (show DecPost xs n w (.returned (.tuple #[.slice none 0 0, .int .i64 (k : Int), .int .i64 3])) w2 from ⟨kb2, .inl ⟨k, hlt, hok.out, by rw [HXK.out, HQ.out]; omega, rfl⟩⟩)
          go_wp2_with fail
          refine bodyPost_ret (v := .tuple #[.slice none 0 0, .int .i64 (k : Int), .int .i64 3]) (by simp [results, Tryd.results52, go_sem]) rfl HF.out
    · have hk' : k = n := by omega
      subst hk'
      by_cases hp : k % 2 = 0
      · have hz : (k : Int) % 2 = 0 := by omega
        obtain ⟨m, HM⟩ : ∃ m, Box (k = 2 * m) := ⟨k / 2, box (by omega)⟩
        clear hp
        go_wp2_with fail
        clear hz
        go_loopw [7, 8] (fun t7 t8 wr => ∃ j : Nat, j ≤ m ∧ t8 = .int .i64 (2 * (j : Int)) ∧ Box (Own w.heap.size wr t7 j (decTo xs j)) ∧ Below w.heap.size w wr) (fun _ t8 _ => k - (intOf t8).toNat)
        case atStart => exact ⟨0, by omega, rfl, box (World.ownsRow_nil _ _ _ _), kb⟩
        case round =>
          obtain ⟨j, hj, rfl, hown, kb⟩ := hrel
          by_cases hlt : j < m
          · have hm := HM.out
            obtain ⟨b, rfl, h1⟩ := in_some HC.out (show 2 * j < xs.length by omega)
            obtain ⟨b', hbb, h2⟩ := in_some HC.out (show 2 * j + 1 < xs.length by omega)
            obtain rfl : b = b' := Option.some.inj hbb
            have l1 := getD_lt HX.out (show 2 * j < xs.length by omega)
            have l2 := getD_lt HX.out (show 2 * j + 1 < xs.length by omega)
            have o1 := hok.out (2 * j) (by omega)
            have o2 := hok.out (2 * j + 1) (by omega)
            have HD := box (decTo_succ xs j)
            generalize xs.getD (2 * j) 0 = x at h1 l1 o1 HD
            generalize xs.getD (2 * j + 1) 0 = y at h2 l2 o2 HD
            have V1 := fun w' => index_any x l1 w'
            have V2 := fun w' => index_any y l2 w'
            rw [idxI_lt (s := x) rfl (by omega)] at V1
            rw [idxI_lt (s := y) rfl (by omega)] at V2
            generalize idx x = q1 at V1 o1 HD
            generalize idx y = q2 at V2 o2 HD
            have lz : 16 * q1 + q2 < 256 := by omega
            obtain ⟨z, hzz⟩ : ∃ z, 16 * q1 + q2 = z := ⟨_, rfl⟩
            rw [hzz] at HD lz
            have W1 := fun w' => box (V1 w')
            have W2 := fun w' => box (V2 w')
            clear V1 V2 hbb
            have hi0 : (0 : Int) ≤ 2 * (j : Int) := by omega
            have hi1 : 2 * (j : Int) < (k : Int) := by omega
            have hi2 : (0 : Int) ≤ 2 * (j : Int) + 1 := by omega
            have hi3 : 2 * (j : Int) + 1 < (k : Int) := by omega
            have hi4 : (2 * (j : Int)).toNat = 2 * j := by omega
            have hi5 : (2 * (j : Int) + 1).toNat = 2 * j + 1 := by omega
            have hi6 : IntKind.i64.wrap (2 * (j : Int) + 1) = 2 * (j : Int) + 1 := by rw [IntKind.wrap_i64]; omega
            have a1 : IntKind.i64.wrap (16 * (q1 : Int)) = 16 * (q1 : Int) := by rw [IntKind.wrap_i64]; omega
            have a2 : IntKind.i64.wrap (16 * (q1 : Int) + (q2 : Int)) = 16 * (q1 : Int) + (q2 : Int) := by rw [IntKind.wrap_i64]; omega
            have a3 : IntKind.u8.wrap (16 * (q1 : Int) + (q2 : Int)) = (z : Int) := by rw [IntKind.wrap_u8]; omega
            have a4 : (16 * (q1 : Int) + (q2 : Int)) % 256 = (z : Int) := by omega
            have hlt' : 2 * (j : Int) < (k : Int) := by omega
            have g1 : ∀ w' : World, Below w.heap.size w w' → w'.cell? (b.add (2 * j)) = some (nU8 x) := fun w' h => keepc h h1
            have h3 : w.cell? ⟨b.block, b.off + (2 * j + 1), none⟩ = some (nU8 y) := by rw [← h2]; unfold Addr.add; simp
            have g2 : ∀ w' : World, Below w.heap.size w w' → w'.cell? ⟨b.block, b.off + (2 * j + 1), none⟩ = some (nU8 y) := fun w' h => keepc h h3
            have b0 : Below wr.heap.size wr wr := Below.refl _ _
            have b1 : Below wr.heap.size wr wr.drew := b0.drew
            have kb1 : Below w.heap.size w wr.drew := kb.drew
            have HO := box hown.out.drew
            have hown0 := hown.out
            clear h1 h2 h3 hzz l1 l2 o1 o2 hm hown HO
            go_wp2_with fail
            go_region_held3 (fun w' => Below w.heap.size w w') (first | assumption | exact kb1 | (refine Below.alloc ?_ (by first | exact Below.size (by assumption) | (simp <;> omega)) _; assumption))
              (first | (go_at_call_of 51 (nU8 x); refine (W1 _).out.mono ?_; rintro e wp ⟨rfl, hb_wp⟩; have k_wp := (fun h : Below wr.heap.size wr _ => h.trans (hb_wp.mono h.size)); replace k_wp := k_wp (by assumption); have m_wp := (fun h : Below w.heap.size w _ => h.trans (hb_wp.mono h.size)); replace m_wp := m_wp (by assumption); clear hb_wp) | (go_at_call_of 51 (nU8 y); refine (W2 _).out.mono ?_; rintro e wq ⟨rfl, hb_wq⟩; have k_wq := (fun h : Below wr.heap.size wr _ => h.trans (hb_wq.mono h.size)); replace k_wq := k_wq (by assumption); have m_wq := (fun h : Below w.heap.size w _ => h.trans (hb_wq.mono h.size)); replace m_wq := m_wq (by assumption); clear hb_wq) | (refine step_append_later (o := ⟨some 55, _, _, _, _, _⟩) rfl (.tmp 39) (.tmp 54) rfl w.heap.size u7 j (decTo xs j) wr w rfl hown0 [z] 1 rfl (0, 0) (by assumption) rfl (by omega) (by assumption) (Below.size (by assumption)) ?_; intro v3 w3 ho3 hb3 hs3))
            all_goals
              go_wp2_with fail
              go_roundw
              case rel => exact ⟨j + 1, by omega, by go_num, box (by rw [HD.out]; exact ho3.out), hb3⟩
              case measure => simp [intOf]; omega
          · have hm := HM.out
            have hj' : j = m := by omega
            have hd : decide (2 * (j : Int) < (k : Int)) = false := decide_eq_false (by omega)
            have HF := fun v => fun h => box (show DecPost xs k w (.returned (.tuple #[v, .int .i64 (-1), .int .i64 0])) wr from ⟨kb, .inr (.inr ⟨hok.out, by omega, v, rfl, h⟩)⟩)
            rw [show k / 2 = j by omega] at HF
            clear hm hj'
            go_wp2_with fail
            refine bodyPost_ret (by simp [results, Tryd.results52, go_sem]) rfl (HF _ hown.out).out
      · have hz : (k : Int) % 2 = 1 := by omega
        have HF := box (show DecPost xs k w (.returned (.tuple #[.slice none 0 0, .int .i64 (k : Int), .int .i64 4])) wr from ⟨kb, .inr (.inl ⟨hok.out, by omega, rfl⟩)⟩)
        clear hp
        go_wp2_with fail
        refine bodyPost_ret (v := .tuple #[.slice none 0 0, .int .i64 (k : Int), .int .i64 4]) (by simp [results, Tryd.results52, go_sem]) rfl HF.out
end Go.Proofs.YthfoakomapmkeaaDoor
/- One inverted bit, as plain mathematics. -/
namespace Go.Proofs.YthfoakomapmkeaaDoor

/-- The symbols with the bit k inverted. -/
def flipS (xs : List Nat) (k : Nat) : List Nat := xs.set (k / 6) (xs.getD (k / 6) 0 ^^^ 2 ^ (5 - k % 6))
theorem flipS_length (xs : List Nat) (k : Nat) : (flipS xs k).length = xs.length := by simp [flipS]
theorem flipS_getD {xs : List Nat} {k : Nat} (hk : k / 6 < xs.length) (j : Nat) : (flipS xs k).getD j 0 = if j = k / 6 then xs.getD (k / 6) 0 ^^^ 2 ^ (5 - k % 6) else xs.getD j 0 := by
  unfold flipS
  rw [List.getD_eq_getElem?_getD]
  by_cases h : j = k / 6
  · subst h
    rw [List.getElem?_set_self hk, if_pos rfl]; rfl
  · rw [List.getElem?_set_ne (fun e => h e.symm), if_neg h, ← List.getD_eq_getElem?_getD]
theorem pow_lt (k : Nat) : 2 ^ (5 - k % 6) < 256 := Nat.lt_of_lt_of_le (Nat.pow_lt_pow_right (by decide) (show 5 - k % 6 < 6 by omega)) (by decide)
theorem flipS_lt {xs : List Nat} {k : Nat} (hx : ∀ x ∈ xs, x < 256) (hk : k / 6 < xs.length) : ∀ y ∈ flipS xs k, y < 256 := by
  intro y hy
  rcases List.mem_or_eq_of_mem_set hy with h | h
  · exact hx y h
  · subst h
    refine Nat.xor_lt_two_pow (n := 8) ?_ (pow_lt k)
    rw [List.getD_eq_getElem?_getD, List.getElem?_eq_getElem hk]
    exact hx _ (List.getElem_mem hk)
theorem flipS_flipS {xs : List Nat} {k : Nat} (hk : k / 6 < xs.length) : flipS (flipS xs k) k = xs := by
  have h1 : (flipS xs k).getD (k / 6) 0 = xs.getD (k / 6) 0 ^^^ 2 ^ (5 - k % 6) := by rw [flipS_getD hk, if_pos rfl]
  unfold flipS at h1 ⊢
  rw [h1, List.set_set, Nat.xor_assoc, Nat.xor_self, Nat.xor_zero, List.getD_eq_getElem?_getD, List.getElem?_eq_getElem hk, Option.getD_some]
  exact List.set_getElem_self hk
/-- An inverted bit of a valid symbol makes it invalid. -/
theorem flip_bad : ∀ i < 20, ∀ r < 6, idx (syms.getD i 0 ^^^ 2 ^ r) = 20 := by decide +kernel
theorem flip_ne (x r : Nat) : x ^^^ 2 ^ r ≠ x := by
  intro h
  have h2 : x ^^^ (x ^^^ 2 ^ r) = 0 := by rw [h, Nat.xor_self]
  rw [← Nat.xor_assoc, Nat.xor_self, Nat.zero_xor] at h2
  exact absurd h2 (Nat.ne_of_gt (Nat.two_pow_pos r))
end Go.Proofs.YthfoakomapmkeaaDoor
/- Flip: its contract. -/
namespace Go.Proofs.YthfoakomapmkeaaDoor
open Go.RowKit

set_option maxHeartbeats 1000000 in
theorem place_any (k : Nat) (hk : k < 1000000) (w : World) :
    Calls Tryd.prog 55 #[.int .i64 k] w fun e w' => e = .returned (.int .i64 ((5 - k % 6 : Nat) : Int)) ∧ w = w' := by
  have e1 : (5 : Int) - (k : Int) % 6 = ((5 - k % 6 : Nat) : Int) := by omega
  generalize 5 - k % 6 = r at e1 ⊢
  go_enter Tryd.func55, Tryd.ntmps55
  go_wp2_with fail
  go_ret
  exact ⟨rfl, rfl⟩

set_option maxHeartbeats 4000000 in
theorem clone_at (b : Addr) (n c : Nat) (xs : List Nat) (hn : xs.length = n) (hbig : n ≤ 1000) (w : World) (hc : At w b xs) :
    Calls Tryd.prog 14 #[.slice (some b) n c] w fun e w' => ∃ v', e = .returned v' ∧ Own w.heap.size w' v' n xs ∧ Below w.heap.size w w' := by
  have HC := box (show In (w.alloc (.cells #[] 5)) (some b) xs from .inr ⟨b, rfl, fun i hi => keepa _ (hc i hi)⟩)
  clear hc
  obtain ⟨i0, hi, hz0, hz1, hz2⟩ := info_parts Tryd.infoU8
  have hs1 := size_alloc (w := w) w.heap.size (.cells #[] 5) (Nat.le_refl _)
  have hu22 := Tryd.underlying22
  have q22 : ∀ (w : World) (a : Option Addr) (n c n' c' : Nat), (binOp .eql 22 (.slice a n c) (.slice none n' c')).run Tryd.prog w = .ok (.bool a.isNone) w := fun w a n c n' c' => Lib.run_eql_slice_nil w _ _ a n c n' c' hu22
  go_enter Tryd.func14, Tryd.ntmps14
  go_wp2_with (first | (at_builtin; refine wpList_append_in (o := ⟨some 7, _, _, _, _, _⟩) rfl (.tmp 5) (.tmp 6) rfl w.heap.size i0 hi hz0 hz1 hz2 (.slice (some ⟨w.heap.size, 0, none⟩) 0 0) 0 [] rfl (World.ownsRow_made w #[] 0 (Nat.le_refl _) (Nat.zero_le _) rfl) (some b) n c xs rfl hn HC.out (fun h => by cases h) (by omega) w.heap.size w (Nat.le_refl _) ((Below.refl _ _).alloc (Nat.le_refl _) _) hs1 ?_; intro v2 w2 ho2 hb2 hs2) | fail)
  go_ret
  exact ⟨_, rfl, by have h := ho2.out; simpa [Own] using h, hb2⟩

set_option maxHeartbeats 4000000 in
theorem flip_bad_any (a : Option Addr) (n c : Nat) (k : Int) (hk : k < 0 ∨ 6 * (n : Int) ≤ k) (k0 : -9223372036854775808 ≤ k) (k1 : k ≤ 9223372036854775807) (w : World) :
    Calls Tryd.prog 34 #[.slice a n c, .int .i64 k] w fun e w' => e = .returned (.tuple #[.slice none 0 0, .int .i64 2]) ∧ w = w' := by
  by_cases h0 : k < 0
  · have d1 : decide (k < 0) = true := decide_eq_true h0
    clear hk
    go_enter Tryd.func34, Tryd.ntmps34
    go_wp2_with fail
    refine bodyPost_ret (v := .tuple #[.slice none 0 0, .int .i64 2]) (by simp [results, Tryd.results34, go_sem]) rfl ⟨rfl, rfl⟩
  · have d1 : decide (k < 0) = false := decide_eq_false h0
    have h0' : 0 ≤ k := by omega
    have d2 : decide ((n : Int) ≤ k / 6) = true := decide_eq_true (by omega)
    clear hk h0
    go_enter Tryd.func34, Tryd.ntmps34
    go_wp2_with fail
    refine bodyPost_ret (v := .tuple #[.slice none 0 0, .int .i64 2]) (by simp [results, Tryd.results34, go_sem]) rfl ⟨rfl, rfl⟩

set_option maxHeartbeats 8000000 in
theorem flip_any (b : Addr) (n c k : Nat) (xs : List Nat) (hn : xs.length = n) (hx : ∀ x ∈ xs, x < 256) (hbig : n ≤ 1000) (hk : k < 6 * n) (w : World) (hc : At w b xs) :
    Calls Tryd.prog 34 #[.slice (some b) n c, .int .i64 k] w fun e w' => ∃ v, e = .returned (.tuple #[v, .int .i64 0]) ∧ Own w.heap.size w' v n (flipS xs k) ∧ Below w.heap.size w w' := by
  have HX := box hx
  have CL := box (clone_at b n c xs hn hbig w hc)
  clear hx hc
  have d1 : decide ((k : Int) < 0) = false := decide_eq_false (by omega)
  have d2 : decide ((n : Int) ≤ (k : Int) / 6) = false := decide_eq_false (by omega)
  have PL := fun w' => box (place_any k (by omega) w')
  go_enter Tryd.func34, Tryd.ntmps34
  go_wp2_with fail
  refine CL.out.mono ?_
  rintro e w2 ⟨v, rfl, hown, hb⟩
  obtain ⟨g, cap, rfl⟩ : ∃ g cap, v = .slice (some ⟨g, 0, none⟩) n cap := by
    rcases hown.2 with ⟨_, h0⟩ | ⟨g, cap, _, hv, _⟩
    · omega
    · exact ⟨g, cap, hv⟩
  have hg : w.heap.size ≤ g := by
    rcases hown.2 with ⟨h0, _⟩ | ⟨g', cap', cur, hv, hg, _⟩
    · cases h0
    · cases hv; exact hg
  have hq : k / 6 < n := by omega
  have ly : xs.getD (k / 6) 0 < 256 := getD_lt HX.out (by omega)
  have c1 : w2.cell? ⟨g, k / 6, none⟩ = some (nU8 (xs.getD (k / 6) 0)) := by
    rw [hown.cellAt _ (by omega)]
    simp [List.getD_eq_getElem?_getD, List.getElem?_eq_getElem (show k / 6 < xs.length by omega)]
  have f1 := hown.frozenAt (k / 6)
  have lpw := pow_lt k
  have hxor : bits .xor .u8 ((xs.getD (k / 6) 0 : Nat) : Int) (2 ^ (5 - k % 6) % 256) = ((xs.getD (k / 6) 0 ^^^ 2 ^ (5 - k % 6) : Nat) : Int) := by
    have h := u8_xor_nat (xs.getD (k / 6) 0) (2 ^ (5 - k % 6)) ly lpw
    have hcast : ((2 ^ (5 - k % 6) : Nat) : Int) = (2 : Int) ^ (5 - k % 6) := Int.natCast_pow 2 (5 - k % 6)
    have h2 : (2 : Int) ^ (5 - k % 6) % 256 = ((2 ^ (5 - k % 6) : Nat) : Int) := by
      rw [hcast]
      exact Int.emod_eq_of_lt (by rw [← hcast]; exact Int.natCast_nonneg _) (by rw [← hcast]; exact Int.ofNat_lt.2 lpw)
    rw [h2]; exact h
  have HST := box (hown.stored (k / 6) (nU8 (xs.getD (k / 6) 0 ^^^ 2 ^ (5 - k % 6)))).1
  rw [← List.map_set, show xs.set (k / 6) (xs.getD (k / 6) 0 ^^^ 2 ^ (5 - k % 6)) = flipS xs k from rfl] at HST
  have e1 : (k : Int).tdiv 6 = ((k / 6 : Nat) : Int) := by rw [Int.tdiv_eq_ediv_of_nonneg (by omega)]; push_cast; rfl
  have e2 : (k : Int) / 6 = ((k / 6 : Nat) : Int) := by omega
  have lr : 5 - k % 6 < 6 := by omega
  clear hown lpw
  generalize xs.getD (k / 6) 0 ^^^ 2 ^ (5 - k % 6) = nv at hxor HST
  generalize xs.getD (k / 6) 0 = yv at hxor c1 ly
  generalize 5 - k % 6 = r at hxor PL lr
  generalize k / 6 = q at c1 f1 e1 e2 HST hq
  have q0 : (0 : Int) ≤ (q : Int) := by omega
  have q1 : (q : Int) < (n : Int) := by omega
  have r0 : (0 : Int) ≤ (r : Int) := by omega
  have w1' : IntKind.i64.wrap (q : Int) = (q : Int) := by rw [IntKind.wrap_i64]; omega
  have hxor' : bits .xor .u8 (yv : Int) (IntKind.u8.wrap (2 ^ r)) = (nv : Int) := by rw [IntKind.wrap_u8]; exact hxor
  clear d1 d2
  go_wp2_with fail
  go_region_with (go_at_call 55; refine (PL _).out.mono ?_; rintro e wp ⟨rfl, rfl⟩)
  all_goals
    go_wp2_with fail
    refine bodyPost_ret (v := .tuple #[.slice (some ⟨g, 0, none⟩) n cap, .int .i64 0]) (by simp [results, Tryd.results34, go_sem]) rfl ⟨_, rfl, ?_, ?_⟩
    · first | exact HST.out.drew | (rw [hxor']; exact HST.out.drew)
    · exact (hb.setCell hg _).drew
end Go.Proofs.YthfoakomapmkeaaDoor
/- The walk of LinecodeFlips. -/
namespace Go.Proofs.YthfoakomapmkeaaDoor
open Go.RowKit

/-- Each symbol of an encoding is a data symbol. -/
theorem enc_sym {xs : List Nat} (hx : ∀ x ∈ xs, x < 256) (j : Nat) (hj : j < 2 * xs.length) : ∃ i < 16, (enc xs).getD j 0 = syms.getD i 0 := by
  have hl := enc_length xs
  have h := enc_ok hx j hj
  refine ⟨idx ((enc xs).getD j 0), h, (syms_of_idx ?_ h).symm⟩
  have : ∀ y ∈ enc xs, y < 256 := by
    intro y hy
    obtain ⟨x, hxm, hy⟩ := List.mem_flatMap.1 hy
    have h1 := hx x hxm
    have a := syms_lt (x / 16) (by omega)
    have b := syms_lt (x % 16) (by omega)
    simp only [List.mem_cons, List.not_mem_nil, or_false] at hy
    rcases hy with rfl | rfl <;> omega
  rw [List.getD_eq_getElem?_getD, List.getElem?_eq_getElem (by omega)]
  exact this _ (List.getElem_mem _)

/-- Decoding an encoding with an inverted bit. -/
theorem decode_flipped (a : Option Addr) (n c k : Nat) (xs : List Nat) (hn : xs.length = n) (hx : ∀ x ∈ xs, x < 256) (hbig : n ≤ 400) (hk : k < 12 * n) (w : World) (hc : In w a (flipS (enc xs) k)) (hT : HasTab w) :
    Calls Tryd.prog 63 #[.slice a (2 * n) c] w fun e w' => e = .returned (.tuple #[.slice none 0 0, .int .i64 ((k / 6 : Nat) : Int), .int .i64 3]) ∧ Below w.heap.size w w' := by
  have hl : (enc xs).length = 2 * n := by rw [enc_length, hn]
  have hq : k / 6 < (enc xs).length := by omega
  have hbad : idx ((flipS (enc xs) k).getD (k / 6) 0) = 20 := by
    rw [flipS_getD hq, if_pos rfl]
    obtain ⟨i, hi, e⟩ := enc_sym hx (k / 6) (by omega)
    rw [e]
    exact flip_bad i (by omega) _ (by omega)
  have hok : ∀ j < 2 * n, j ≠ k / 6 → idx ((flipS (enc xs) k).getD j 0) < 16 := by
    intro j hj hne
    rw [flipS_getD hq, if_neg hne]
    exact enc_ok hx j (by omega)
  refine (decode_any a (2 * n) c _ (by rw [flipS_length, hl]) (flipS_lt (enc_lt hx) hq) (by omega) w hc hT).mono fun e w' h => ?_
  obtain ⟨hb, h⟩ := h
  rcases h with ⟨i, h1, h2, h3, he⟩ | ⟨h2, _⟩ | ⟨h2, _⟩
  · have hik : i = k / 6 := by
      rcases Nat.lt_trichotomy i (k / 6) with h | h | h
      · exact absurd (hok i h1 (by omega)) (by omega)
      · exact h
      · exact absurd (h2 (k / 6) h) (by omega)
    exact ⟨by rw [he, hik], hb⟩
  · exact absurd (h2 (k / 6) (by omega)) (by omega)
  · exact absurd (h2 (k / 6) (by omega)) (by omega)

end Go.Proofs.YthfoakomapmkeaaDoor
