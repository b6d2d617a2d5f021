/- A conversation's queues: times, carry. -/
import Derived.Test.YtfpicobjnpjhlaaRetPa
import Derived.Maps.AppendAt
namespace Go.Proofs.Ytfpicobjnpjhlaa
open Go.RowKit

theorem info_ex {P : Program} {t : TypeId} {n b m : Nat} (h : (P.info? t).map (fun i => (i.size, i.bytes, i.zero.map (fun z => z.cells.size))) = some (n, b, some m)) : ∃ i z, P.info? t = some i ∧ i.zero = some z ∧ i.size = n ∧ i.bytes = b ∧ z.cells.size = m := by
  cases hi : P.info? t with
  | none => rw [hi] at h; cases h
  | some i =>
    rw [hi] at h
    simp at h
    obtain ⟨h1, h2, z, h3, h4⟩ := h
    exact ⟨i, z, rfl, h3, h1, h2, h4⟩
theorem Try.infoIt : (Try.prog.info? 78).map (fun i => (i.size, i.bytes, i.zero.map (fun z => z.cells.size))) = some (2, 24, some 2) := by kernel_rfl
theorem Try.infoSI : (Try.prog.info? 76).map (fun i => (i.size, i.bytes, i.zero.map (fun z => z.cells.size))) = some (1, 24, some 1) := by kernel_rfl
theorem Try.infoStr : (Try.prog.info? 9).map (fun i => (i.size, i.bytes, i.zero.map (fun z => z.cells.size))) = some (1, 16, some 1) := by kernel_rfl

/-- How often something arrives in a tick. -/
def tmN (xs : List Nat) (t : Nat) : Nat := if xs.length ≤ t then 1 else if xs.getD t 0 % 3 = 0 then 1 else if xs.getD t 0 % 3 = 1 then 0 else 2
theorem tmN_le (xs : List Nat) (t : Nat) : tmN xs t ≤ 2 := by unfold tmN; repeat' split
                                                              all_goals decide
set_option maxRecDepth 100000 in
set_option maxHeartbeats 1000000 in
theorem times_any (a : Option Addr) (n c : Nat) (xs : List Nat) (hn : xs.length = n) (hx : ∀ x ∈ xs, x < 256) (t : Nat) (w : World) (hc : In w a xs) :
    Calls Try.prog 38 #[.slice a n c, .int .i64 t] w fun e w' => e = .returned (.int .i64 (tmN xs t)) ∧ w = w' := by
  by_cases h : n ≤ t
  · have e : tmN xs t = 1 := by unfold tmN; rw [if_pos (by omega)]
    rw [e]
    clear e hc
    go_enter Try.func38, Try.ntmps38
    go_wp2_with fail
    go_ret
    exact ⟨rfl, rfl⟩
  · have e : tmN xs t = if xs.getD t 0 % 3 = 0 then 1 else if xs.getD t 0 % 3 = 1 then 0 else 2 := by unfold tmN; rw [if_neg (by omega)]
    rw [e]
    obtain ⟨b, rfl, h1⟩ := in_some hc (show t < xs.length by omega)
    have l1 := getD_lt hx (show t < xs.length by omega)
    clear e hc
    generalize xs.getD t 0 = x at h1 l1 ⊢
    obtain ⟨r, hr⟩ : ∃ r, x % 3 = r := ⟨_, rfl⟩
    have hr2 : (x : Int) % 3 = (r : Int) := by omega
    have hr3 : r < 3 := by omega
    rw [hr]
    clear hr
    have ix0 : ∀ w : World, (Instr.index 82 (.agg #[.int .i64 1, .int .i64 0, .int .i64 2]) (.int .u8 0)).run Try.prog w = .ok (.int .i64 1) w := fun _ => by kernel_rfl
    have ix1 : ∀ w : World, (Instr.index 82 (.agg #[.int .i64 1, .int .i64 0, .int .i64 2]) (.int .u8 1)).run Try.prog w = .ok (.int .i64 0) w := fun _ => by kernel_rfl
    have ix2 : ∀ w : World, (Instr.index 82 (.agg #[.int .i64 1, .int .i64 0, .int .i64 2]) (.int .u8 2)).run Try.prog w = .ok (.int .i64 2) w := fun _ => by kernel_rfl
    match r, hr3 with
    | 0, _ =>
      go_enter Try.func38, Try.ntmps38
      go_wp2_with fail
      go_ret
      exact ⟨rfl, rfl⟩
    | 1, _ =>
      go_enter Try.func38, Try.ntmps38
      go_wp2_with fail
      go_ret
      exact ⟨rfl, rfl⟩
    | 2, _ =>
      go_enter Try.func38, Try.ntmps38
      go_wp2_with fail
      go_ret
      exact ⟨rfl, rfl⟩

/-- The cells of items. -/
def itCells (l : List It) : List Value := l.flatMap (fun x => [.int .i64 (x.1 : Int), .string x.2])
theorem itCells_len (l : List It) : (itCells l).length = l.length * 2 := by
  induction l with
  | nil => rfl
  | cons x l ih => show (_ :: _ :: itCells l).length = _; simp [ih]; omega
theorem itCells_app (l l' : List It) : itCells (l ++ l') = itCells l ++ itCells l' := by unfold itCells; simp
theorem itCells_at (l : List It) : ∀ (j : Nat) (h : j < l.length), (itCells l)[j * 2]? = some (.int .i64 (l[j].1 : Int)) ∧ (itCells l)[j * 2 + 1]? = some (.string l[j].2) := by
  induction l with
  | nil => intro j h; cases h
  | cons x l ih =>
    intro j h
    show (Value.int .i64 (x.1 : Int) :: Value.string x.2 :: itCells l)[j * 2]? = _ ∧ (Value.int .i64 (x.1 : Int) :: Value.string x.2 :: itCells l)[j * 2 + 1]? = _
    cases j with
    | zero => exact ⟨rfl, rfl⟩
    | succ j =>
      have e := ih j (by simpa using h)
      rw [show (j + 1) * 2 = j * 2 + 1 + 1 by omega]
      simpa using e
theorem itCells_one (l : List It) : ∀ u ∈ itCells l, u.oneCell' = true := by
  intro u hu
  unfold itCells at hu
  simp at hu
  obtain ⟨a, b, _, h⟩ := hu
  rcases h with rfl | rfl <;> rfl
/-- An own row of items is one in blocks that nobody changes. -/
theorem EntIn.of_row {B base : Nat} {O : Nat → Nat} {w0 w : World} {v : Value} {l : List It} (h : w.ownsRow base 78 2 v l.length (itCells l)) (ht : Tags B O w0) (hb : w0.heap.size ≤ base) : EntIn O w v l := by
  rcases row_form h with ⟨rfl, h0, _⟩ | ⟨g, cap, rfl, h1, h2, h3, h4, h5⟩
  · have : l = [] := List.eq_nil_of_length_eq_zero h0
    subst this
    exact ⟨none, 0, rfl, fun _ => rfl, .inl rfl⟩
  · refine ⟨some ⟨g, 0, none⟩, cap, rfl, (fun h => by cases h), .inr ⟨g, 0, rfl, ?_, h2, fun j hj => ?_⟩⟩
    · refine Classical.byContradiction fun hn => ?_
      have := (ht g hn).2
      omega
    · have e := itCells_at l j hj
      rw [Nat.zero_add]
      exact ⟨h5 _ _ e.1, h5 _ _ e.2⟩
/-- The cells of an entry. -/
theorem EntIn.cells {O : Nat → Nat} {w : World} {v : Value} {l : List It} (h : EntIn O w v l) (hl : l ≠ []) : ∃ b i c, v = .slice (some ⟨b, i, none⟩) l.length c ∧ O b = 0 ∧ b < w.heap.size ∧ ∀ j u, (itCells l)[j]? = some u → w.cell? ((⟨b, i, none⟩ : Addr).add j) = some u := by
  obtain ⟨a, c, rfl, hn, h⟩ := h
  rcases h with h | ⟨b, i, rfl, ho, hlt, hc⟩
  · exact absurd h hl
  · refine ⟨b, i, c, rfl, ho, hlt, fun j u hu => ?_⟩
    rw [add_at]
    have hj : j < l.length * 2 := by rw [← itCells_len]; exact (List.getElem?_eq_some_iff.1 hu).1
    have hq : j / 2 < l.length := by omega
    have e := itCells_at l (j / 2) hq
    have f := hc (j / 2) hq
    rcases Nat.mod_two_eq_zero_or_one j with hm | hm
    · have ej : j / 2 * 2 = j := by omega
      rw [ej] at e f
      rw [e.1] at hu
      cases hu
      exact f.1
    · have ej : j / 2 * 2 + 1 = j := by omega
      rw [ej] at e
      rw [show i + j / 2 * 2 + 1 = i + j by omega] at f
      rw [e.2] at hu
      cases hu
      exact f.2

def rep (n : Nat) (l : List It) : List It := (List.replicate n l).flatten
theorem rep_succ (n : Nat) (l : List It) : rep (n + 1) l = rep n l ++ l := by unfold rep; rw [List.replicate_succ', List.flatten_append]; simp
theorem rep_len (n : Nat) (l : List It) : (rep n l).length = n * l.length := by induction n with | zero => simp [rep] | succ n ih => rw [rep_succ, List.length_append, ih, Nat.succ_mul]
/-- What a queue holds behind a tick; what it hands out. -/
def carL (d : Nat) (L : List (List It)) (x : List It) : List (List It) := if L.length < d then L ++ [x] else (L ++ [x]).drop 1
def carO (d : Nat) (L : List (List It)) (x : List It) : List It := if L.length < d then [] else (L ++ [x]).headD []

theorem Stp.after {B c : Nat} {O O' : Nat → Nat} {w w2 w' : World} (hb : Below w.heap.size w w2) (s : Stp B c O O' w2 w') : Stp B c O O' w w' :=
  ⟨s.os.trans hb.os, s.tape.trans hb.tape, s.output.trans hb.output, Nat.le_trans hb.size s.size, fun k hk ho => (s.block k (Nat.lt_of_lt_of_le hk hb.size) ho).trans (hb.block k hk), fun k hk => s.same k (Nat.lt_of_lt_of_le hk hb.size), s.tags⟩
/-- A queue behind an append to its row, and a store of what the row is now. -/
theorem carry_put {B c : Nat} {O : Nat → Nat} {w2 w6 W : World} {gw : Nat} {vs nv : Value} {L L' : List (List It)} {es' : List Value} (h0 : c ≠ 0) (hW : WireAt B c O w2 gw vs L) (ht : Tags B O w2) (gb : w2.grownBy w6 vs.ownBlock) (hq : QRow B w6 nv es') (hv : nv.ownBlock = vs.ownBlock ∨ nv.ownBlock = some w2.heap.size)
    (hl : es'.length = L'.length) (he : ∀ i (h : i < es'.length) (h' : i < L'.length), EntIn O w2 es'[i] L'[i]) (os : W.os = w6.os) (tape : W.tape = w6.tape) (output : W.output = w6.output) (size : W.heap.size = w6.heap.size) (hoth : ∀ k, k ≠ gw → W.heap[k]? = w6.heap[k]?) (hc : W.cell? ⟨gw, 0, none⟩ = some nv) (hz : W.frozen? ⟨gw, 0, none⟩ = false) :
    Stp B c O (upd O nv.ownBlock c) w2 W ∧ WireAt B c (upd O nv.ownBlock c) W gw nv L' := by
  have hgl := hW.lt
  have far : nv.ownBlock ≠ some gw := by
    rcases hv with h | h
    · rw [h]; exact hW.far
    · rw [h]; intro e; have := Option.some.inj e; omega
  have st : Stp B c O (upd O nv.ownBlock c) w2 W := Stp.row (r := vs.ownBlock) ht (os.trans gb.os) (tape.trans gb.tape) (output.trans gb.output) (by rw [size]; exact gb.size)
    (fun k hk ho => (hoth k (fun e => ho (by rw [e]; exact hW.og))).trans (gb.block k hk (fun e => ho (hW.ov k e.symm)))) hW.ov (fun k hk => hv.elim (fun h => .inl (h ▸ hk)) (fun h => .inr (by rw [h] at hk; have := Option.some.inj hk; omega))) (fun k hk => by rw [size]; exact hq.blk k hk)
  exact ⟨st, ⟨hc, hz, (st.same gw hgl).trans hW.og, fun k hk => upd_at _ _ _ _ hk, far, es', hq.same (by rw [size]; exact Nat.le_refl _) (fun k hk => hoth k (fun e => far (by rw [← e]; exact hk))), hl, fun i hi hi' => (he i hi hi').frame st h0⟩⟩

set_option maxRecDepth 100000 in
set_option maxHeartbeats 4000000 in
theorem carry_any (B c : Nat) (hc : 3 ≤ c) (hc4 : c ≤ 4) (O : Nat → Nat) (w : World) (gw : Nat) (vs : Value) (L : List (List It)) (d : Nat) (vx : Value) (lx : List It) (n : Nat) (hW : WireAt B c O w gw vs L) (hL : L.length ≤ d) (hd : d ≤ 6) (hx : EntIn O w vx lx) (h1 : lx.length ≤ 1) (hn : n ≤ 2) (ht : Tags B O w) (hB : B ≤ w.heap.size) :
    Calls Try.prog 37 #[.pointer (some ⟨gw, 0, none⟩), .int .i64 d, vx, .int .i64 n] w fun e w' => ∃ vout vs' O', e = .returned vout ∧ Stp B c O O' w w' ∧ WireAt B c O' w' gw vs' (carL d L (rep n lx)) ∧ EntIn O' w' vout (carO d L (rep n lx)) := by
  obtain ⟨i2, z2, hi2, hz2, hs2, hb2, hc2⟩ := info_ex Try.infoIt
  obtain ⟨i1, z1, hi1, hz1, hs1, hb1, hc1⟩ := info_ex Try.infoSI
  have HW := box hW
  have HX := box hx
  have HT := box ht
  obtain ⟨ax, cx, rfl, hxn, -⟩ := hx
  have hxn2 := box hxn
  obtain ⟨m, hm⟩ : ∃ m, lx.length = m := ⟨_, rfl⟩
  have HM := box hm
  rw [hm] at h1 HX ⊢
  clear hW ht hxn hm
  go_enter Try.func37, Try.ntmps37
  go_wp2_with fail
  go_loopw [9, 12] (fun t9 t12 wr => ∃ j : Nat, j ≤ n ∧ t12 = .int .i64 j ∧ Box (wr.ownsRow w.heap.size 78 2 t9 (rep j lx).length (itCells (rep j lx))) ∧ Box (Below w.heap.size w wr)) (fun _ t12 _ => n - (intOf t12).toNat)
  case atStart => exact ⟨0, by omega, rfl, box (World.ownsRow_nil _ _ _ _), box (Below.refl _ _)⟩
  case round =>
    obtain ⟨j, hj, rfl, hrow, hbel⟩ := hrel
    by_cases hlt : j < n
    · have hrl := box (rep_len j lx)
      have hs := hbel.out.size
      by_cases hx0 : lx = []
      · have hm0 : m = 0 := by rw [← HM.out, hx0]; rfl
        subst hm0
        have e0 : rep (j + 1) lx = rep j lx := by rw [rep_succ]; rw [hx0, List.append_nil]
        have E0 := box e0
        have HR1 := box (show wr.ownsRow w.heap.size 78 2 u9 (rep (j + 1) lx).length (itCells (rep (j + 1) lx)) by rw [e0]; exact hrow.out)
        have L2 := box (show (rep j lx).length ≤ 2 from by rw [hrl.out, HM.out]; omega)
        clear e0 hx0
        cases ax with
        | none =>
          obtain rfl := hxn2.out rfl
          go_wp2_with (at_builtin; refine wpList_append_own_none (o := ⟨some 16, _, _, _, _, _⟩) rfl (.tmp 14) (.tmp 15) 76 rfl w.heap.size 78 i2 2 Try.underlying76 hi2 u9 (rep j lx).length (itCells (rep j lx)) rfl hrow.out rfl ?_)
          go_roundw
          case rel => exact ⟨j + 1, by omega, by go_num, HR1, hbel⟩
          case measure => simp [intOf]; omega
        | some ad =>
          go_wp2_with (at_builtin; refine wpList_append_own (o := ⟨some 16, _, _, _, _, _⟩) wr rfl (.tmp 14) (.tmp 15) 76 rfl w.heap.size 78 i2 z2 2 24 Try.underlying76 hi2 hz2 hs2 hb2 hc2 (by decide) u9 (rep j lx).length (itCells (rep j lx)) rfl hrow.out ad 0 cx [] rfl rfl (fun j u h => by simp at h) (fun u h => by cases h) (by have := L2.out; unfold maxLen; omega) (by have := L2.out; omega) hs ?_; intro v5 w5 h5 g5 _)
          have H5 := box (show w5.ownsRow w.heap.size 78 2 v5 (rep (j + 1) lx).length (itCells (rep (j + 1) lx)) by rw [E0.out]; simpa using h5)
          have B5 := box (own_below hrow.out (Nat.le_refl _) hbel.out hs g5)
          clear h5 g5
          go_roundw
          case rel => exact ⟨j + 1, by omega, by go_num, H5, B5⟩
          case measure => simp [intOf]; omega
      · obtain ⟨b, i, cx', he, -, hbl, hcell⟩ := (show EntIn O w (.slice ax lx.length cx) lx by rw [HM.out]; exact HX.out).cells hx0
        cases he
        have hl1 : m = 1 := by have := List.length_pos_iff.2 hx0; have := HM.out; omega
        subst hl1
        have HC := box (show ∀ q u, (itCells lx)[q]? = some u → wr.cell? ((⟨b, i, none⟩ : Addr).add q) = some u from fun q u hu => keepc hbel.out (hcell q u hu))
        have L2 := box (show (rep j lx).length ≤ 2 from by rw [hrl.out, HM.out]; omega)
        clear hcell hx0
        go_wp2_with (at_builtin; refine wpList_append_own (o := ⟨some 16, _, _, _, _, _⟩) wr rfl (.tmp 14) (.tmp 15) 76 rfl w.heap.size 78 i2 z2 2 24 Try.underlying76 hi2 hz2 hs2 hb2 hc2 (by decide) u9 (rep j lx).length (itCells (rep j lx)) rfl hrow.out ⟨b, i, none⟩ 1 cx (itCells lx) rfl (by rw [itCells_len, HM.out]) HC.out (itCells_one lx) (by have := L2.out; unfold maxLen; omega) (by have := L2.out; omega) hs ?_; intro v5 w5 h5 g5 _)
        have H5 := box (show w5.ownsRow w.heap.size 78 2 v5 (rep (j + 1) lx).length (itCells (rep (j + 1) lx)) by rw [rep_succ, itCells_app, List.length_append, HM.out]; exact h5)
        have B5 := box (own_below hrow.out (Nat.le_refl _) hbel.out hs g5)
        clear h5 g5
        go_roundw
        case rel => exact ⟨j + 1, by omega, by go_num, H5, B5⟩
        case measure => simp [intOf]; omega
    · obtain rfl : j = n := by omega
      have hI := EntIn.of_row hrow.out HT.out (Nat.le_refl _)
      obtain ⟨ai, ci, rfl, -, -⟩ := hI
      have st0 := Stp.fresh c HT.out hbel.out
      have W1 := box (HW.out.frame (Stp.fresh 99 HT.out hbel.out) (by omega) (by decide))
      have kA : Below wr.heap.size wr (wr.alloc (.cells #[.slice ai (rep j lx).length ci] 76)) := (Below.refl _ _).alloc (Nat.le_refl _) _
      have T1 := box (show Tags B O wr from st0.tags)
      have W2 := box (W1.out.frame (Stp.fresh 99 T1.out kA) (by omega) (by decide))
      have T2 := box (show Tags B O (wr.alloc (.cells #[.slice ai (rep j lx).length ci] 76)) from (Stp.fresh 99 T1.out kA).tags)
      have BE2 := box (show Below w.heap.size w (wr.alloc (.cells #[.slice ai (rep j lx).length ci] 76)) from hbel.out.trans (kA.mono hbel.out.size))
      have E2 := box (show EntIn O (wr.alloc (.cells #[.slice ai (rep j lx).length ci] 76)) (Value.slice ai (rep j lx).length ci) (rep j lx) from (EntIn.of_row hrow.out HT.out (Nat.le_refl _)).frame (Stp.fresh 99 T1.out kA) (by decide))
      have C2 := box (show (wr.alloc (.cells #[.slice ai (rep j lx).length ci] 76)).cell? ⟨wr.heap.size, 0, none⟩ = some (Value.slice ai (rep j lx).length ci) from World.cell?_alloc_mark wr #[.slice ai (rep j lx).length ci] 76 (0, 0) 0)
      have q0 := W1.out.q
      have qz := W1.out.z
      clear st0 kA
      obtain ⟨es, hes, hel, hent⟩ := W2.out.row
      have HES := box hes
      have HEL := box hel
      have HSB := box (show B ≤ (wr.alloc (.cells #[.slice ai (rep j lx).length ci] 76)).heap.size from Nat.le_trans hB BE2.out.size)
      have hone : (Value.slice ai (rep j lx).length ci).oneCell' = true := rfl
      have HENT := box (show (es ++ [Value.slice ai (rep j lx).length ci]).length = (L ++ [rep j lx]).length ∧ ∀ i (h : i < (es ++ [Value.slice ai (rep j lx).length ci]).length) (h' : i < (L ++ [rep j lx]).length), EntIn O (wr.alloc (.cells #[.slice ai (rep j lx).length ci] 76)) (es ++ [Value.slice ai (rep j lx).length ci])[i] (L ++ [rep j lx])[i] from ⟨by simp [hel], fun i h h' => by
        by_cases hi : i < es.length
        · rw [List.getElem_append_left hi, List.getElem_append_left (by omega)]; exact hent i hi (by omega)
        · have e : i = es.length := by simp at h; omega
          subst e
          rw [List.getElem_append_right (Nat.le_refl _), List.getElem_append_right (by omega)]
          simp only [Nat.sub_self, List.getElem_cons_zero, hel]
          exact E2.out⟩)
      have HF6 := box (fun (w6 : World) (gb : (wr.alloc (.cells #[.slice ai (rep j lx).length ci] 76)).grownBy w6 vs.ownBlock) => (show (w6.cell? ⟨gw, 0, none⟩ = some vs ∧ w6.frozen? ⟨gw, 0, none⟩ = false) from ⟨by rw [World.cell?_of_block (a := ⟨gw, 0, none⟩) (gb.block gw W2.out.lt (fun e => W2.out.far e.symm))]; exact W2.out.q, by rw [World.frozen?_of_block (a := ⟨gw, 0, none⟩) (gb.block gw W2.out.lt (fun e => W2.out.far e.symm))]; exact W2.out.z⟩))
      have hbig : es.length + 1 ≤ 100000 := by omega
      have AFT := box (fun (O' : Nat → Nat) (W : World) (s : Stp B c O O' (wr.alloc (.cells #[.slice ai (rep j lx).length ci] 76)) W) => Stp.after BE2.out s)
      have HE9 := box (show EntIn O (wr.alloc (.cells #[.slice ai (rep j lx).length ci] 76)) (Value.slice ai (rep j lx).length ci) (rep j lx) from E2.out)
      have q0a := W2.out.q
      have qza := W2.out.z
      clear hes hel hent W1 T1 E2
      go_upto_region 7 with (at_builtin; refine wpList_append_q (o := ⟨some 25, _, _, _, _, _⟩) rfl (.tmp 22) (.tmp 24) 73 rfl B 76 i1 z1 24 Try.underlying73 hi1 hz1 hs1 hb1 hc1 vs es rfl HES.out wr.heap.size 0 1 (Value.slice ai (rep j lx).length ci) rfl C2.out hone hbig (by decide) HSB.out ?_; intro va vc w6 hq6 hg6 hv6; obtain ⟨r0, rz⟩ := HF6.out w6 hg6.out; clear q0a qza)
      obtain ⟨r, i, cap, hv0, hr1, hr2, hr3, hr4, hr5, hr6⟩ : ∃ r i cap, Value.slice va (es.length + 1) vc = .slice (some ⟨r, i, none⟩) (es ++ [Value.slice ai (rep j lx).length ci]).length cap ∧ B ≤ r ∧ r < w6.heap.size ∧ (es ++ [Value.slice ai (rep j lx).length ci]).length ≤ cap ∧ cap ≤ maxLen ∧ (∀ (j_1 : Nat) (u : Value), (es ++ [Value.slice ai (rep j lx).length ci])[j_1]? = some u → w6.cell? ⟨r, i + j_1, none⟩ = some u) ∧ ∀ (q : Nat), q < cap → (w6.cell? ⟨r, i + q, none⟩).isSome = true ∧ w6.frozen? ⟨r, i + q, none⟩ = false := by
        rcases hq6.out with ⟨h, _⟩ | h
        · injection h with _ h _; omega
        · exact h
      injection hv0 with hva _ hvc
      subst hva hvc
      have hcap1 : es.length + 1 ≤ vc := by simpa using hr3
      have HV := box hv6.out
      have HQ6 := box hq6.out
      have HR5 := box hr5
      have HH0 : w6.cell? ⟨r, i, none⟩ = some ((es ++ [Value.slice ai (rep j lx).length ci])[0]'(by simp)) := by
        have h := hr5 0 ((es ++ [Value.slice ai (rep j lx).length ci])[0]'(by simp)) (List.getElem?_eq_getElem (by simp))
        rwa [Nat.add_zero] at h
      have HRG := box (show r ≠ gw from fun e => by
        rcases HV.out with h | h
        · exact W2.out.far (h.symm.trans (by rw [e]; rfl))
        · have h : r = _ := Option.some.inj h
          have := W2.out.lt
          omega)
      clear hr5 hr6 hr3 hq6 hv6
      obtain ⟨n1, hn1⟩ : ∃ n1, es.length + 1 = n1 := ⟨_, rfl⟩
      have HN1 := box hn1
      rw [hn1] at HV HQ6 hcap1 ⊢
      have hn1p : 1 ≤ n1 := by omega
      have hn1m : n1 ≤ 7 := by have := HEL.out; omega
      have HG6 := hg6
      clear hn1 hbig hg6
      by_cases hd1 : L.length < d
      · have hle : n1 ≤ d := by have := HEL.out; have := HN1.out; omega
        have FA := box (carry_put (W := w6.setCell ⟨gw, 0, none⟩ (.slice (some ⟨r, i, none⟩) n1 vc)) (nv := (.slice (some ⟨r, i, none⟩) n1 vc)) (es' := es ++ [Value.slice ai (rep j lx).length ci]) (L' := L ++ [rep j lx]) (by omega) W2.out T2.out HG6.out HQ6.out HV.out HENT.out.1 HENT.out.2 rfl rfl rfl (by simp) (fun k hk => oth_set hk _ _ _) (cell_put r0 _) (by rw [World.frozen?_setCell]; exact rz))
        have hc1 : carL d L (rep j lx) = L ++ [rep j lx] := by unfold carL; rw [if_pos hd1]
        have hc2' : carO d L (rep j lx) = [] := by unfold carO; rw [if_pos hd1]
        have HC1 := box hc1
        have HC2 := box hc2'
        clear hc1 hc2' hd1 hr1 hr2 hr4
        go_wp2_with fail
        go_ret
        rw [HC1.out, HC2.out]
        exact ⟨_, _, _, rfl, AFT.out _ _ FA.out.1, FA.out.2, ⟨none, 0, rfl, fun _ => rfl, .inl rfl⟩⟩
      · have hgt : ¬ n1 ≤ d := by have := HEL.out; have := HN1.out; omega
        have hc1 : carL d L (rep j lx) = (L ++ [rep j lx]).drop 1 := by unfold carL; rw [if_neg hd1]
        have hc2' : carO d L (rep j lx) = (L ++ [rep j lx])[0]'(by simp) := by unfold carO; rw [if_neg hd1]; cases L <;> rfl
        have HC1 := box hc1
        have HC2 := box hc2'
        obtain ⟨O0, hO0⟩ : ∃ x, (es ++ [Value.slice ai (rep j lx).length ci])[0]'(by simp) = x := ⟨_, rfl⟩
        have HOUT := box (show EntIn O _ O0 ((L ++ [rep j lx])[0]'(by simp)) from by rw [← hO0]; exact HENT.out.2 0 (by simp) (by simp))
        rw [hO0] at HH0
        have HH1 : (w6.setCell ⟨gw, 0, none⟩ (.slice (some ⟨r, i, none⟩) n1 vc)).cell? ⟨r, i, none⟩ = some O0 := by
          rw [World.cell?_setCell_other _ _ _ _ (fun e => HRG.out (by injection e with h _ _; first | exact h | exact h.symm))]; exact HH0
        have HEN1 := box (show (((es ++ [Value.slice ai (rep j lx).length ci]).drop 1).length = ((L ++ [rep j lx]).drop 1).length) ∧ ∀ q (h : q < ((es ++ [Value.slice ai (rep j lx).length ci]).drop 1).length) (h' : q < ((L ++ [rep j lx]).drop 1).length), EntIn O (wr.alloc (.cells #[.slice ai (rep j lx).length ci] 76)) ((es ++ [Value.slice ai (rep j lx).length ci]).drop 1)[q] ((L ++ [rep j lx]).drop 1)[q] from ⟨by rw [List.length_drop, List.length_drop, HENT.out.1], fun q h h' => by rw [List.getElem_drop, List.getElem_drop]; exact HENT.out.2 _ _ _⟩)
        have CUT := box (QRow.cut (B := B) (w := w6) (xs := es ++ [Value.slice ai (rep j lx).length ci]) (k := 1) HQ6.out (by simp))
        clear hc1 hc2' hO0 hd1 HH0
        by_cases hv1 : vc = 1
        · obtain rfl : n1 = 1 := by omega
          subst hv1
          have hdr : (es ++ [Value.slice ai (rep j lx).length ci]).drop 1 = [] := List.drop_eq_nil_of_le (by have h := HN1.out; rw [List.length_append]; show es.length + 1 ≤ 1; omega)
          have CU0 := box (show QRow B w6 (.slice (some ⟨r, i, none⟩) 0 0) ((es ++ [Value.slice ai (rep j lx).length ci]).drop 1) from by rw [hdr]; exact .inr ⟨r, i, 0, rfl, hr1, hr2, Nat.le_refl _, Nat.zero_le _, fun q u hu => by simp at hu, fun q hq => by omega⟩)
          have FA := box (carry_put (W := (w6.setCell ⟨gw, 0, none⟩ (.slice (some ⟨r, i, none⟩) 1 1)).setCell ⟨gw, 0, none⟩ (.slice (some ⟨r, i, none⟩) 0 0)) (nv := .slice (some ⟨r, i, none⟩) 0 0) (es' := (es ++ [Value.slice ai (rep j lx).length ci]).drop 1) (L' := (L ++ [rep j lx]).drop 1) (by omega) W2.out T2.out HG6.out CU0.out HV.out HEN1.out.1 HEN1.out.2 rfl rfl rfl (by simp) (fun k hk => by rw [oth_set hk, oth_set hk]) (cell_put (cell_put r0 _) _) (by rw [World.frozen?_setCell, World.frozen?_setCell]; exact rz))
          have FO := box (HOUT.out.frame FA.out.1 (by omega))
          clear hr1 hr2 hr4 hcap1 hdr
          go_wp2_with fail
          go_ret
          rw [HC1.out, HC2.out]
          exact ⟨_, _, _, rfl, AFT.out _ _ FA.out.1, FA.out.2, FO.out⟩
        · have hv2 : 2 ≤ vc := by omega
          have FA := box (carry_put (W := (w6.setCell ⟨gw, 0, none⟩ (.slice (some ⟨r, i, none⟩) n1 vc)).setCell ⟨gw, 0, none⟩ (.slice (some ⟨r, i + 1, none⟩) (n1 - 1) (vc - 1))) (nv := .slice (some ⟨r, i + 1, none⟩) (n1 - 1) (vc - 1)) (es' := (es ++ [Value.slice ai (rep j lx).length ci]).drop 1) (L' := (L ++ [rep j lx]).drop 1) (by omega) W2.out T2.out HG6.out CUT.out HV.out HEN1.out.1 HEN1.out.2 rfl rfl rfl (by simp) (fun k hk => by rw [oth_set hk, oth_set hk]) (cell_put (cell_put r0 _) _) (by rw [World.frozen?_setCell, World.frozen?_setCell]; exact rz))
          have FO := box (HOUT.out.frame FA.out.1 (by omega))
          clear hr1 hr2 hr4 hv1
          go_wp2_with fail
          go_ret
          rw [HC1.out, HC2.out]
          exact ⟨_, _, _, rfl, AFT.out _ _ FA.out.1, FA.out.2, FO.out⟩
end Go.Proofs.Ytfpicobjnpjhlaa
