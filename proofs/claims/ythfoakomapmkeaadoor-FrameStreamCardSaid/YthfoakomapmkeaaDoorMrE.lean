/- Layer 4: the texts FrBa FrBb FrBc FrBd FrCa FrCb FrCc in one. -/
import Derived.Test.YthfoakomapmkeaaDoorMrD
import Derived.Test.YthfoakomapmkeaaDoorMrC
import Derived.Maps.AppendAt
import Derived.Test.YthfoakomapmkeaaDoorMrA
/- The scanner's small methods: their contracts. -/
namespace Go.Proofs.YthfoakomapmkeaaDoor
open Go.RowKit

theorem own_blk {B h n c : Nat} {w w' : World} {xs : List Nat} (x : Own B w (.slice (some ⟨h, 0, none⟩) n c) n xs) (e : w'.heap[h]? = w.heap[h]?) : Own B w' (.slice (some ⟨h, 0, none⟩) n c) n xs := by
  obtain ⟨hl, hc⟩ := x
  rcases hc with ⟨h0, _⟩ | ⟨g', cap, cur, hv, hg, hh, hr⟩
  · cases h0
  · cases hv
    exact ⟨hl, .inr ⟨h, c, cur, rfl, hg, e.trans hh, hr⟩⟩
theorem own_cut0 {B h n c : Nat} {w : World} {xs : List Nat} (x : Own B w (.slice (some ⟨h, 0, none⟩) n c) n xs) : Own B w (.slice (some ⟨h, 0, none⟩) 0 c) 0 [] := by
  obtain ⟨hl, hc⟩ := x
  rcases hc with ⟨h0, _⟩ | ⟨g', cap, cur, hv, hg, hh, hnc, hcap, hsz, ht⟩
  · cases h0
  · cases hv
    exact ⟨rfl, .inr ⟨h, c, cur, rfl, hg, hh, Nat.zero_le _, hcap, hsz, by simp⟩⟩
theorem ScAt.blk {w w' : World} {g h : Nat} {s : Sc} {i : Bool} {b : Nat} (x : ScAt w g h s)
    (c0 : w'.cell? ⟨g, 0, none⟩ = some (.bool i)) (c1 : w'.cell? ⟨g, 1, none⟩ = some (.slice (some ⟨h, 0, none⟩) s.syms.length 163)) (c2 : w'.cell? ⟨g, 2, none⟩ = some (.int .i64 b)) (fr : ∀ j, w'.frozen? ⟨g, j, none⟩ = false) (e : w'.heap[h]? = w.heap[h]?) : ScAt w' g h ⟨i, s.syms, b⟩ :=
  ⟨c0, c1, c2, fr, own_blk x.own e, x.ne⟩
theorem ScAt.blk0 {w w' : World} {g h : Nat} {s : Sc} {i : Bool} {b : Nat} (x : ScAt w g h s)
    (c0 : w'.cell? ⟨g, 0, none⟩ = some (.bool i)) (c1 : w'.cell? ⟨g, 1, none⟩ = some (.slice (some ⟨h, 0, none⟩) 0 163)) (c2 : w'.cell? ⟨g, 2, none⟩ = some (.int .i64 b)) (fr : ∀ j, w'.frozen? ⟨g, j, none⟩ = false) (e : w'.heap[h]? = w.heap[h]?) : ScAt w' g h ⟨i, [], b⟩ :=
  ⟨c0, c1, c2, fr, own_cut0 (own_blk x.own e), x.ne⟩

theorem cell_put {w : World} {g i : Nat} {u : Value} (h : w.cell? ⟨g, i, none⟩ = some u) (v : Value) : (w.setCell ⟨g, i, none⟩ v).cell? ⟨g, i, none⟩ = some v := World.cell?_setCell_same _ _ _ h
theorem cell_else {w : World} {g i j : Nat} {u : Value} (hij : i ≠ j) (h : w.cell? ⟨g, j, none⟩ = some u) (v : Value) : (w.setCell ⟨g, i, none⟩ v).cell? ⟨g, j, none⟩ = some u := by
  rw [World.cell?_setCell_other _ _ _ _ (fun e => hij (by injection e))]; exact h
theorem heap_else {w : World} {g i h : Nat} (hgh : g ≠ h) (v : Value) : (w.setCell ⟨g, i, none⟩ v).heap[h]? = w.heap[h]? := heap_setCell_other w _ h v (fun e => hgh e.symm)

set_option maxHeartbeats 4000000 in
theorem leave_any (g h : Nat) (s : Sc) (w : World) (x : ScAt w g h s) :
    Calls Tryd.prog 64 #[.pointer (some ⟨g, 0, none⟩)] w fun e w' => e = .returned (.tuple #[]) ∧ ScAt w' g h ⟨false, [], s.bad⟩ ∧ Apart g h w w' := by
  have X := box x
  obtain ⟨c0, c1, c2, fr, _, _⟩ := x
  go_enter Tryd.func64, Tryd.ntmps64
  go_wp2_with fail
  go_end0
  refine ⟨rfl, X.out.blk0 ?_ ?_ ?_ ?_ ?_, ((Apart.refl g h w).setCell 0 _).setCell 1 _⟩
  · exact cell_else (by decide) (cell_put c0 _) _
  · exact cell_put (cell_else (by decide) c1 _) _
  · exact cell_else (by decide) (cell_else (by decide) c2 _) _
  · intro j; rw [World.frozen?_setCell, World.frozen?_setCell]; exact fr j
  · rw [heap_else X.out.ne, heap_else X.out.ne]

set_option maxHeartbeats 4000000 in
theorem discard_any (g h : Nat) (s : Sc) (hb : s.bad < 1000000) (w : World) (x : ScAt w g h s) :
    Calls Tryd.prog 50 #[.pointer (some ⟨g, 0, none⟩)] w fun e w' => e = .returned (.tuple #[]) ∧ ScAt w' g h ⟨false, [], s.bad + 1⟩ ∧ Apart g h w w' := by
  have X := box x
  obtain ⟨c0, c1, c2, fr, _, _⟩ := x
  obtain ⟨i, xs, b⟩ := s
  have hb' : b < 1000000 := hb
  clear hb
  go_enter Tryd.func50, Tryd.ntmps50
  go_wp2_with fail
  have Y : ScAt (w.setCell ⟨g, 2, none⟩ (.int .i64 ((b : Int) + 1))) g h ⟨i, xs, b + 1⟩ := by
    refine X.out.blk ?_ ?_ ?_ ?_ ?_
    · exact cell_else (by decide) c0 _
    · exact cell_else (by decide) c1 _
    · have := cell_put c2 (.int .i64 ((b : Int) + 1)); rw [this]; simp
    · intro j; rw [World.frozen?_setCell]; exact fr j
    · rw [heap_else X.out.ne]
  refine (leave_any g h _ _ Y).mono ?_
  rintro e w2 ⟨rfl, x2, ap⟩
  go_wp2_with fail
  go_end0
  exact ⟨rfl, x2, ((Apart.refl g h w).setCell 2 _).trans ap⟩

set_option maxHeartbeats 4000000 in
theorem begin_any (g h : Nat) (s : Sc) (hb : s.bad < 1000000) (hout : s.ins = false → s.syms = []) (w : World) (x : ScAt w g h s) :
    Calls Tryd.prog 47 #[.pointer (some ⟨g, 0, none⟩)] w fun e w' => e = .returned (.tuple #[]) ∧ ScAt w' g h ⟨true, [], if s.ins then s.bad + 1 else s.bad⟩ ∧ Apart g h w w' := by
  have X := box x
  obtain ⟨c0, c1, c2, fr, _, _⟩ := x
  obtain ⟨i, xs, b⟩ := s
  cases i
  · obtain rfl := hout rfl
    clear hout
    go_enter Tryd.func47, Tryd.ntmps47
    go_wp2_with fail
    go_end0
    refine ⟨rfl, X.out.blk ?_ ?_ ?_ ?_ ?_, (Apart.refl g h w).setCell 0 _⟩
    · exact cell_put c0 _
    · exact cell_else (by decide) c1 _
    · exact cell_else (by decide) c2 _
    · intro j; rw [World.frozen?_setCell]; exact fr j
    · rw [heap_else X.out.ne]
  · have D := box (discard_any g h _ hb w X.out)
    clear hout
    go_enter Tryd.func47, Tryd.ntmps47
    go_wp2_with fail
    refine D.out.mono ?_
    rintro e w2 ⟨rfl, x2, ap⟩
    have X2 := box x2
    obtain ⟨d0, d1, d2, fr2, _, _⟩ := x2
    clear c0 c1 c2 fr
    go_wp2_with fail
    go_end0
    refine ⟨rfl, X2.out.blk (s := ⟨false, [], b + 1⟩) ?_ ?_ ?_ ?_ ?_, ap.setCell 0 _⟩
    · exact cell_put d0 _
    · exact cell_else (by decide) d1 _
    · exact cell_else (by decide) d2 _
    · intro j; rw [World.frozen?_setCell]; exact fr2 j
    · rw [heap_else X2.out.ne]

theorem bad_any (g h : Nat) (s : Sc) (w : World) (x : ScAt w g h s) :
    Calls Tryd.prog 28 #[.pointer (some ⟨g, 0, none⟩)] w fun e w' => e = .returned (.int .i64 s.bad) ∧ w = w' := by
  obtain ⟨c0, c1, c2, fr, _, _⟩ := x
  go_enter Tryd.func28, Tryd.ntmps28
  go_wp2_with fail
  go_ret
  exact ⟨rfl, rfl⟩
theorem bad_nil (w : World) :
    Calls Tryd.prog 28 #[.pointer none] w fun e w' => e = .returned (.int .i64 0) ∧ w = w' := by
  go_enter Tryd.func28, Tryd.ntmps28
  go_wp2_with fail
  go_ret
  exact ⟨rfl, rfl⟩

set_option maxHeartbeats 4000000 in
theorem add_any (g h : Nat) (xs : List Nat) (b y : Nat) (hb : b < 1000000) (hl : xs.length ≤ 162) (w : World) (x : ScAt w g h ⟨true, xs, b⟩) :
    Calls Tryd.prog 49 #[.pointer (some ⟨g, 0, none⟩), nU8 y] w fun e w' => e = .returned (.tuple #[]) ∧ ScAt w' g h (if xs.length < 162 then ⟨true, xs ++ [y], b⟩ else ⟨false, [], b + 1⟩) ∧ Apart g h w w' := by
  have X := box x
  have LG := X.out.lt
  have LH := X.out.lth
  obtain ⟨c0, c1, c2, fr, _, _⟩ := x
  simp only at c0 c1 c2
  obtain ⟨l, hxl⟩ : ∃ l, xs.length = l := ⟨_, rfl⟩
  rw [hxl] at c1 hl
  obtain ⟨i0, hi, hz0, hz1, hz2⟩ := info_parts Tryd.infoU8
  have kA := (Below.refl w.heap.size w).alloc (Nat.le_refl _) (.cells #[nU8 y] 5)
  have XA := box (X.out.keep kA)
  have HOW : Box (Own h (w.alloc (.cells #[nU8 y] 5)) (.slice (some ⟨h, 0, none⟩) l 163) l xs) := box (by have h := XA.out.own; simp only at h; rwa [hxl] at h)
  have HAT := box (at_mark w [y] 5 (0, 0) _ rfl)
  have NE := X.out.ne
  have G0 := box (fun (w2 : World) (h2 : (w.alloc (.cells #[nU8 y] 5)).grownBy w2 (some h)) => (And.intro (h2.cell XA.out.c0 (fun e => NE (Option.some.inj e))) (And.intro (h2.cell XA.out.c1 (fun e => NE (Option.some.inj e))) (And.intro (h2.cell XA.out.c2 (fun e => NE (Option.some.inj e))) (fun j => (World.frozen?_of_block (a := ⟨g, j, none⟩) (h2.block g XA.out.lt (fun e => NE (Option.some.inj e)))).trans (XA.out.fr j)))) : w2.cell? ⟨g, 0, none⟩ = some (.bool true) ∧ w2.cell? ⟨g, 1, none⟩ = some (.slice (some ⟨h, 0, none⟩) xs.length 163) ∧ w2.cell? ⟨g, 2, none⟩ = some (.int .i64 b) ∧ ∀ j, w2.frozen? ⟨g, j, none⟩ = false))
  have GK := box (fun (w2 : World) (h2 : (w.alloc (.cells #[nU8 y] 5)).grownBy w2 (some h)) => (Apart.trans (Apart.ofBelow (g := g) (h := h) kA) (Apart.ofGrown h2) : Apart g h w w2))
  clear kA
  by_cases hroom : l < 162
  · rw [if_pos (by omega)]
    have d1 : decide ((162 : Int) < (l : Int) + 1) = false := decide_eq_false (by omega)
    go_enter Tryd.func49, Tryd.ntmps49
    go_wp2_with (at_builtin; refine wpList_append_own_spare (o := ⟨some 11, _, _, _, _, _⟩) _ rfl (.tmp 8) (.tmp 10) 22 rfl h 5 i0 1 Tryd.underlying22 hi hz1 h l 163 (xs.map nU8) rfl HOW.out ⟨w.heap.size, 0, none⟩ 1 1 [nU8 y] rfl rfl (fun j u hj => by rcases j with _ | j <;> simp at hj; subst hj; exact HAT.out 0 (by simp)) (fun u hu => by simp at hu; subst hu; rfl) (by omega) ?_; intro w2 ho2 hg2; obtain ⟨b0, b1, b2, bf⟩ := G0.out w2 hg2; clear c0 c1 c2 fr)
    have Y : ScAt (w2.setCell ⟨g, 1, none⟩ (.slice (some ⟨h, 0, none⟩) (l + 1) 163)) g h ⟨true, xs ++ [y], b⟩ := by
      have e1 : (xs ++ [y]).length = l + 1 := by simp [hxl]
      refine ⟨cell_else (by decide) b0 _, ?_, cell_else (by decide) b2 _, fun j => by rw [World.frozen?_setCell]; exact bf j, ?_, NE⟩
      · show World.cell? _ _ = some (Value.slice (some ⟨h, 0, none⟩) (xs ++ [y]).length 163)
        rw [e1]; exact cell_put b1 _
      · show Own h _ (Value.slice (some ⟨h, 0, none⟩) (xs ++ [y]).length 163) (xs ++ [y]).length (xs ++ [y])
        rw [e1]
        refine own_blk (w := w2) ?_ (heap_else NE _)
        have h := ho2
        rw [show [nU8 y] = [y].map nU8 from rfl, ← List.map_append] at h
        exact h
    go_end0
    exact ⟨rfl, Y, (GK.out w2 hg2).setCell 1 _⟩
  · rw [if_neg (by omega)]
    have d1 : decide ((162 : Int) < (l : Int) + 1) = true := decide_eq_true (by omega)
    go_enter Tryd.func49, Tryd.ntmps49
    go_wp2_with (at_builtin; refine wpList_append_own_spare (o := ⟨some 11, _, _, _, _, _⟩) _ rfl (.tmp 8) (.tmp 10) 22 rfl h 5 i0 1 Tryd.underlying22 hi hz1 h l 163 (xs.map nU8) rfl HOW.out ⟨w.heap.size, 0, none⟩ 1 1 [nU8 y] rfl rfl (fun j u hj => by rcases j with _ | j <;> simp at hj; subst hj; exact HAT.out 0 (by simp)) (fun u hu => by simp at hu; subst hu; rfl) (by omega) ?_; intro w2 ho2 hg2; obtain ⟨b0, b1, b2, bf⟩ := G0.out w2 hg2; clear c0 c1 c2 fr)
    have Y : ScAt (w2.setCell ⟨g, 1, none⟩ (.slice (some ⟨h, 0, none⟩) (l + 1) 163)) g h ⟨true, xs ++ [y], b⟩ := by
      have e1 : (xs ++ [y]).length = l + 1 := by simp [hxl]
      refine ⟨cell_else (by decide) b0 _, ?_, cell_else (by decide) b2 _, fun j => by rw [World.frozen?_setCell]; exact bf j, ?_, NE⟩
      · show World.cell? _ _ = some (Value.slice (some ⟨h, 0, none⟩) (xs ++ [y]).length 163)
        rw [e1]; exact cell_put b1 _
      · show Own h _ (Value.slice (some ⟨h, 0, none⟩) (xs ++ [y]).length 163) (xs ++ [y]).length (xs ++ [y])
        rw [e1]
        refine own_blk (w := w2) ?_ (heap_else NE _)
        have h := ho2
        rw [show [nU8 y] = [y].map nU8 from rfl, ← List.map_append] at h
        exact h
    refine (discard_any g h _ hb _ Y).mono ?_
    rintro e w3 ⟨rfl, x3, ap⟩
    clear b0 b1 b2 bf
    go_wp2_with fail
    go_end0
    exact ⟨rfl, x3, ((GK.out w2 hg2).setCell 1 _).trans ap⟩
end Go.Proofs.YthfoakomapmkeaaDoor
/- The scanner's end: its contract. -/
namespace Go.Proofs.YthfoakomapmkeaaDoor
open Go.RowKit

theorem put5_heap {w : World} {q h : Nat} (e : h ≠ q) (y0 y1 y2 y3 y4 : Value) : (put5 w q y0 y1 y2 y3 y4).heap[h]? = w.heap[h]? := by
  simp only [put5]
  repeat rw [heap_setCell_other _ ⟨q, _, none⟩ h _ e]
theorem Pk5.far {w : World} {q r : Nat} {v0 v1 v2 v3 v4 : Value} (x : Pk5 w r v0 v1 v2 v3 v4) (e : q ≠ r) (y0 y1 y2 y3 y4 : Value) : Pk5 (put5 w q y0 y1 y2 y3 y4) r v0 v1 v2 v3 v4 :=
  ⟨(put5_cell e _ _ _ _ _).trans x.q0, (put5_cell e _ _ _ _ _).trans x.q1, (put5_cell e _ _ _ _ _).trans x.q2, (put5_cell e _ _ _ _ _).trans x.q3, (put5_cell e _ _ _ _ _).trans x.q4, fun j => by simp only [put5, World.frozen?_setCell]; exact x.zq j⟩
theorem ScAt.far {w : World} {g h q : Nat} {s : Sc} (x : ScAt w g h s) (e : q ≠ g) (e2 : q ≠ h) (y0 y1 y2 y3 y4 : Value) : ScAt (put5 w q y0 y1 y2 y3 y4) g h s :=
  ⟨(put5_cell e _ _ _ _ _).trans x.c0, (put5_cell e _ _ _ _ _).trans x.c1, (put5_cell e _ _ _ _ _).trans x.c2, fun j => by simp only [put5, World.frozen?_setCell]; exact x.fr j, own_blk x.own (put5_heap e2.symm _ _ _ _ _), x.ne⟩
theorem Apart.put5 {g h q : Nat} {w w' : World} (x : Apart g h w w') (hq : w.heap.size ≤ q) (y0 y1 y2 y3 y4 : Value) : Apart g h w (put5 w' q y0 y1 y2 y3 y4) := by
  have b := put5_below (q := q) (Below.refl q w') (Nat.le_refl _) y0 y1 y2 y3 y4
  exact ⟨b.os.trans x.os, b.tape.trans x.tape, b.output.trans x.output, Nat.le_trans x.size b.size, fun k hk h1 h2 => (put5_heap (by omega) _ _ _ _ _).trans (x.block k hk h1 h2)⟩
theorem ScAt.inn {w : World} {g h : Nat} {s : Sc} (x : ScAt w g h s) : In w (some ⟨h, 0, none⟩) s.syms := own_in rfl x.own

/-- The bytes that a packet's data symbols encode. -/
def bytesS (xs : List Nat) : List Nat := decTo xs (xs.length / 2)
/-- Are some data symbols those of a valid packet? -/
def goodS (xs : List Nat) : Bool := decide (xs.length % 2 = 0 ∧ decE (bytesS xs) = 0)
/-- The packet with some bytes. -/
def pktB (bs : List Nat) : Pkt := ⟨bs.getD 0 0, (bs.getD 1 0 : Nat), (numAt bs 2 : Nat), (numAt bs 7 : Nat), (bs.drop 13).take (bs.length - 17)⟩

/-- What the end of a packet answers. -/
def EndPost (g h : Nat) (xs : List Nat) (b : Nat) (w : World) (e : Ending) (w' : World) : Prop :=
  Apart g h w w' ∧ ScAt w' g h ⟨false, [], if goodS xs then b else b + 1⟩ ∧
  ((goodS xs = false ∧ e = .returned (.tuple #[pk0, .bool false])) ∨
   (goodS xs = true ∧ ∃ (a : Option Addr) (l c : Nat), e = .returned (.tuple #[pkV (pktB (bytesS xs)).k (pktB (bytesS xs)).c (pktB (bytesS xs)).n (pktB (bytesS xs)).v a l c, .bool true]) ∧ (pktB (bytesS xs)).pay.length = l ∧ In w' a (pktB (bytesS xs)).pay ∧ (a = none → c = 0) ∧ (∀ q, a = some q → w.heap.size ≤ q.block)))

set_option maxRecDepth 100000 in
set_option maxHeartbeats 8000000 in
theorem end_any (g h : Nat) (xs : List Nat) (b : Nat) (hb : b < 1000000) (hx : ∀ x ∈ xs, idx x < 16 ∧ x < 256) (hl : xs.length ≤ 162) (w : World) (x : ScAt w g h ⟨true, xs, b⟩) (hT : Crc.HasTab w) (hT2 : HasTab w) :
    Calls Tryd.prog 48 #[.pointer (some ⟨g, 0, none⟩)] w (EndPost g h xs b w) := by
  have HT := box hT
  have HT2 := box hT2
  have X := box x
  have LG := x.lt
  have LH := x.lth
  have NE := x.ne
  have HXL := box (fun y hy => (hx y hy).2 : ∀ y ∈ xs, y < 256)
  have HOK := box (show okTo xs xs.length from fun j hj => (hx _ (by rw [List.getD_eq_getElem?_getD, List.getElem?_eq_getElem hj]; exact List.getElem_mem hj)).1)
  clear hT hT2 x hx
  go_enter Tryd.func48, Tryd.ntmps48
  have kA := (Below.refl w.heap.size w).alloc (Nat.le_refl _) (.cells #[.int .u8 0, .int .i64 0, .int .i64 0, .int .i64 0, .slice none 0 0] 24)
  have ksA : (w.alloc (.cells #[.int .u8 0, .int .i64 0, .int .i64 0, .int .i64 0, .slice none 0 0] 24)).heap.size = w.heap.size + 1 := by show (w.heap.push _).size = _; rw [Array.size_push]
  have kB := (Below.refl (w.alloc (.cells #[.int .u8 0, .int .i64 0, .int .i64 0, .int .i64 0, .slice none 0 0] 24)).heap.size _).alloc (Nat.le_refl _) (.cells #[.int .u8 0, .int .i64 0, .int .i64 0, .int .i64 0, .slice none 0 0] 24)
  have XB : Box (ScAt ((w.alloc (.cells #[.int .u8 0, .int .i64 0, .int .i64 0, .int .i64 0, .slice none 0 0] 24)).alloc (.cells #[.int .u8 0, .int .i64 0, .int .i64 0, .int .i64 0, .slice none 0 0] 24)) g h ⟨true, xs, b⟩) := box ((X.out.keep kA).keep kB)
  have R : Box (Pk5 ((w.alloc (.cells #[.int .u8 0, .int .i64 0, .int .i64 0, .int .i64 0, .slice none 0 0] 24)).alloc (.cells #[.int .u8 0, .int .i64 0, .int .i64 0, .int .i64 0, .slice none 0 0] 24)) w.heap.size (nU8 0) (.int .i64 0) (.int .i64 0) (.int .i64 0) (.slice none 0 0)) := box ((pk5_new w 0 0 0 0 none 0 0 w.heap.size rfl).keep kB)
  have Q : Box (Pk5 ((w.alloc (.cells #[.int .u8 0, .int .i64 0, .int .i64 0, .int .i64 0, .slice none 0 0] 24)).alloc (.cells #[.int .u8 0, .int .i64 0, .int .i64 0, .int .i64 0, .slice none 0 0] 24)) (w.heap.size + 1) (nU8 0) (.int .i64 0) (.int .i64 0) (.int .i64 0) (.slice none 0 0)) := box (pk5_new (w.alloc (.cells #[.int .u8 0, .int .i64 0, .int .i64 0, .int .i64 0, .slice none 0 0] 24)) 0 0 0 0 none 0 0 (w.heap.size + 1) ksA.symm)
  have k : Below w.heap.size w ((w.alloc (.cells #[.int .u8 0, .int .i64 0, .int .i64 0, .int .i64 0, .slice none 0 0] 24)).alloc (.cells #[.int .u8 0, .int .i64 0, .int .i64 0, .int .i64 0, .slice none 0 0] 24)) := kA.trans (kB.mono kA.size)
  clear kA kB ksA
  obtain ⟨l, hxl⟩ : ∃ l, xs.length = l := ⟨_, rfl⟩
  have b1 := XB.out.c1
  simp only [hxl] at b1
  rw [hxl] at hl
  go_wp2_with fail
  clear b1
  change Calls _ _ _ ((w.alloc (.cells #[.int .u8 0, .int .i64 0, .int .i64 0, .int .i64 0, .slice none 0 0] 24)).alloc (.cells #[.int .u8 0, .int .i64 0, .int .i64 0, .int .i64 0, .slice none 0 0] 24)) _
  generalize (w.alloc (.cells #[.int .u8 0, .int .i64 0, .int .i64 0, .int .i64 0, .slice none 0 0] 24)).alloc (.cells #[.int .u8 0, .int .i64 0, .int .i64 0, .int .i64 0, .slice none 0 0] 24) = wB at XB R Q k ⊢
  refine (decode_any (some ⟨h, 0, none⟩) l 163 xs hxl HXL.out (by omega) wB XB.out.inn (HT2.out.below k)).mono ?_
  rintro e w2 ⟨hb2, hcase⟩
  replace k := k.trans (hb2.mono k.size)
  replace XB := box (XB.out.keep hb2)
  replace R := box (R.out.keep hb2)
  replace Q := box (Q.out.keep hb2)
  clear hb2
  have LQ : w.heap.size + 2 ≤ w2.heap.size := World.block_lt_of_cell? w2 ⟨w.heap.size + 1, 0, none⟩ Q.out.q0
  have rg : w.heap.size ≠ g := Nat.ne_of_gt LG
  have rh : w.heap.size ≠ h := Nat.ne_of_gt LH
  have qg : w.heap.size + 1 ≠ g := by omega
  have qh : w.heap.size + 1 ≠ h := by omega
  have qr : w.heap.size + 1 ≠ w.heap.size := by omega
  rcases hcase with ⟨i, hi, _, h16, _⟩ | ⟨_, hodd, rfl⟩ | ⟨_, heven, v, rfl, hown⟩
  · exact absurd (HOK.out i (by omega)) (by omega)
  · have hg : goodS xs = false := decide_eq_false (fun h => by omega)
    have HF := fun w' (ap : Apart g h w w') (x : ScAt w' g h ⟨false, [], b + 1⟩) => box (show EndPost g h xs b w (.returned (.tuple #[pk0, .bool false])) w' from ⟨ap, by rw [hg]; exact x, .inl ⟨hg, rfl⟩⟩)
    have KA := box (Apart.ofBelow (g := g) (h := h) k)
    clear hg hodd k
    go_wp2_with fail
    refine (discard_any g h _ hb w2 XB.out).mono ?_
    rintro e w4 ⟨rfl, x4, ap⟩
    have R4 := R.out.apart ap rg rh
    obtain ⟨r0, r1, r2, r3, r4, rz⟩ := R4
    have R5 := box (R.out.apart ap rg rh)
    go_wp2_with fail
    have Y := pk5_put R5.out (nU8 0) (.int .i64 0) (.int .i64 0) (.int .i64 0) (.slice none 0 0)
    have F := HF (put5 w4 w.heap.size (nU8 0) (.int .i64 0) (.int .i64 0) (.int .i64 0) (.slice none 0 0)) ((KA.out.trans ap).put5 (Nat.le_refl _) _ _ _ _ _) (x4.far rg rh _ _ _ _ _)
    change bodyPost _ _ _ _ _ (put5 w4 w.heap.size (nU8 0) (.int .i64 0) (.int .i64 0) (.int .i64 0) (.slice none 0 0))
    generalize put5 w4 w.heap.size (nU8 0) (.int .i64 0) (.int .i64 0) (.int .i64 0) (.slice none 0 0) = w5 at Y F ⊢
    clear r0 r1 r2 r3 r4 rz
    obtain ⟨z0, z1, z2, z3, z4, _⟩ := Y
    exact bodyPost_ret (v := .tuple #[pk0, .bool false]) (by simp [results, Tryd.results48, go_sem, z0, z1, z2, z3, z4]) rfl F.out
  · obtain ⟨bs, hbs⟩ : ∃ bs, decTo xs (l / 2) = bs := ⟨_, rfl⟩
    have hbl : bs.length = l / 2 := by rw [← hbs, decTo_length]
    have HBL := box (show ∀ x ∈ bs, x < 256 from by rw [← hbs]; exact decTo_lt (fun j hj => HOK.out j (by omega)))
    have hgd : goodS xs = decide (decE bs = 0) := by unfold goodS bytesS; rw [hxl, hbs]; simp [heven]
    have hps : bytesS xs = bs := by unfold bytesS; rw [hxl, hbs]
    have HG := box hgd
    have HPS := box hps
    rw [hbs] at hown
    obtain ⟨ba, bc, rfl, hbi, _, hbc⟩ := own_form hbl hown
    have HBI := box hbi
    have HBIG := box (show l / 2 ≤ 10000 by omega)
    clear hbs hown hgd hps hbi heven
    obtain ⟨m, hm⟩ : ∃ m, l / 2 = m := ⟨_, rfl⟩
    rw [hm] at hbl hbc HBIG ⊢
    clear hm
    go_wp2_with fail
    refine (fdec_any ba m bc bs hbl HBL.out HBIG.out hbc w2 HBI.out (HT.out.below k)).mono ?_
    rintro e w3 ⟨hb3, hcase⟩
    have LW := k.size
    replace k := k.trans (hb3.mono k.size)
    replace XB := box (XB.out.keep hb3)
    replace R := box (R.out.keep hb3)
    replace Q := box (Q.out.keep hb3)
    clear hb3
    have KA := box (Apart.ofBelow (g := g) (h := h) k)
    rcases hcase with ⟨hne, rfl⟩ | ⟨h0, a9, c9, rfl, hi9, hn9, hc9, hf9⟩
    · obtain ⟨r, hr⟩ : ∃ r, decE bs = r := ⟨_, rfl⟩
      rw [hr] at hne ⊢
      have hg : goodS xs = false := by rw [HG.out]; exact decide_eq_false (by omega)
      have HF := fun w' (ap : Apart g h w w') (x : ScAt w' g h ⟨false, [], b + 1⟩) => box (show EndPost g h xs b w (.returned (.tuple #[pk0, .bool false])) w' from ⟨ap, by rw [hg]; exact x, .inl ⟨hg, rfl⟩⟩)
      have dn : ((r : Int) != 0) = true := by simp; omega
      obtain ⟨q0, q1, q2, q3, q4, qz⟩ := Q.out
      clear hg hr
      go_wp2_with fail
      have XP := XB.out.far qg qh (nU8 0) (.int .i64 0) (.int .i64 0) (.int .i64 0) (.slice none 0 0)
      have RP := R.out.far qr (nU8 0) (.int .i64 0) (.int .i64 0) (.int .i64 0) (.slice none 0 0)
      have KP := KA.out.put5 (q := w.heap.size + 1) (by omega) (nU8 0) (.int .i64 0) (.int .i64 0) (.int .i64 0) (.slice none 0 0)
      change Calls _ _ _ (put5 w3 (w.heap.size + 1) (nU8 0) (.int .i64 0) (.int .i64 0) (.int .i64 0) (.slice none 0 0)) _
      generalize put5 w3 (w.heap.size + 1) (nU8 0) (.int .i64 0) (.int .i64 0) (.int .i64 0) (.slice none 0 0) = wP at XP RP KP ⊢
      clear q0 q1 q2 q3 q4 qz
      refine (discard_any g h _ hb wP XP).mono ?_
      rintro e w4 ⟨rfl, x4, ap⟩
      obtain ⟨r0, r1, r2, r3, r4, rz⟩ := RP.apart ap rg rh
      have R5 := box (RP.apart ap rg rh)
      have K5 := box (KP.trans ap)
      clear RP XP KP
      go_wp2_with fail
      have Y := pk5_put R5.out (nU8 0) (.int .i64 0) (.int .i64 0) (.int .i64 0) (.slice none 0 0)
      have F := HF (put5 w4 w.heap.size (nU8 0) (.int .i64 0) (.int .i64 0) (.int .i64 0) (.slice none 0 0)) (K5.out.put5 (Nat.le_refl _) _ _ _ _ _) (x4.far rg rh _ _ _ _ _)
      change bodyPost _ _ _ _ _ (put5 w4 w.heap.size (nU8 0) (.int .i64 0) (.int .i64 0) (.int .i64 0) (.slice none 0 0))
      generalize put5 w4 w.heap.size (nU8 0) (.int .i64 0) (.int .i64 0) (.int .i64 0) (.slice none 0 0) = w5 at Y F ⊢
      clear r0 r1 r2 r3 r4 rz
      obtain ⟨z0, z1, z2, z3, z4, _⟩ := Y
      exact bodyPost_ret (v := .tuple #[pk0, .bool false]) (by simp [results, Tryd.results48, go_sem, z0, z1, z2, z3, z4]) rfl F.out
    · have hg : goodS xs = true := by rw [HG.out]; exact decide_eq_true h0
      rw [hbl] at hc9 ⊢
      have HPK := box (show pktB (bytesS xs) = ⟨bs.getD 0 0, (bs.getD 1 0 : Nat), (numAt bs 2 : Nat), (numAt bs 7 : Nat), (bs.drop 13).take (m - 17)⟩ from by rw [HPS.out]; unfold pktB; rw [hbl])
      have h17 := (bytes_dec HBL.out h0).2.1
      rw [hbl] at h17 hi9
      have hpl : ((bs.drop 13).take (m - 17)).length = m - 17 := by simp; omega
      generalize bs.getD 0 0 = p0 at HPK ⊢
      generalize bs.getD 1 0 = p1 at HPK ⊢
      generalize numAt bs 2 = p2 at HPK ⊢
      generalize numAt bs 7 = p3 at HPK ⊢
      generalize (bs.drop 13).take (m - 17) = py at HPK hi9 hpl
      generalize m - 17 = t at hpl hc9 ⊢
      have HF := fun w' (ap : Apart g h w w') (x : ScAt w' g h ⟨false, [], b⟩) (hi : In w' a9 py) => box (show EndPost g h xs b w (.returned (.tuple #[pkV p0 p1 p2 p3 a9 t c9, .bool true])) w' from ⟨ap, by rw [hg]; exact x, .inr ⟨hg, by rw [HPK.out]; exact ⟨a9, t, c9, rfl, hpl, hi, hn9, fun q hq => Nat.le_trans LW (hf9 q hq)⟩⟩⟩)
      have HI9 := box hi9
      have W2 : w.heap.size + 1 < w2.heap.size := LQ
      have HF9 := box hf9
      obtain ⟨q0, q1, q2, q3, q4, qz⟩ := Q.out
      clear hg hf9 hi9
      go_wp2_with fail
      have QA := fun (q : Addr) (hq : a9 = some q) => Nat.le_trans LQ (HF9.out q hq)
      have XP := XB.out.far qg qh (nU8 p0) (.int .i64 p1) (.int .i64 p2) (.int .i64 p3) (.slice a9 t c9)
      have RP := R.out.far qr (nU8 p0) (.int .i64 p1) (.int .i64 p2) (.int .i64 p3) (.slice a9 t c9)
      have QP := pk5_put Q.out (nU8 p0) (.int .i64 p1) (.int .i64 p2) (.int .i64 p3) (.slice a9 t c9)
      have KP := KA.out.put5 (q := w.heap.size + 1) (by omega) (nU8 p0) (.int .i64 p1) (.int .i64 p2) (.int .i64 p3) (.slice a9 t c9)
      have IP := put5_in HI9.out (w.heap.size + 1) (nU8 p0) (.int .i64 p1) (.int .i64 p2) (.int .i64 p3) (.slice a9 t c9) (fun q hq => by have := QA q hq; omega)
      change Calls _ _ _ (put5 w3 (w.heap.size + 1) (nU8 p0) (.int .i64 p1) (.int .i64 p2) (.int .i64 p3) (.slice a9 t c9)) _
      generalize put5 w3 (w.heap.size + 1) (nU8 p0) (.int .i64 p1) (.int .i64 p2) (.int .i64 p3) (.slice a9 t c9) = wP at XP RP QP KP IP ⊢
      clear q0 q1 q2 q3 q4 qz
      refine (leave_any g h _ wP XP).mono ?_
      rintro e w4 ⟨rfl, x4, ap⟩
      obtain ⟨r0, r1, r2, r3, r4, rz⟩ := RP.apart ap rg rh
      have R5 := box (RP.apart ap rg rh)
      obtain ⟨q0, q1, q2, q3, q4, qz⟩ := QP.apart ap qg qh
      have K5 := box (KP.trans ap)
      have I5 := box (ap.inn IP (fun q hq => ⟨by have := QA q hq; omega, by have := QA q hq; omega⟩))
      clear RP XP KP QP IP
      go_wp2_with fail
      have Y := pk5_put R5.out (nU8 p0) (.int .i64 p1) (.int .i64 p2) (.int .i64 p3) (.slice a9 t c9)
      have F := HF (put5 w4 w.heap.size (nU8 p0) (.int .i64 p1) (.int .i64 p2) (.int .i64 p3) (.slice a9 t c9)) (K5.out.put5 (Nat.le_refl _) _ _ _ _ _) (x4.far rg rh _ _ _ _ _) (put5_in I5.out w.heap.size (nU8 p0) (.int .i64 p1) (.int .i64 p2) (.int .i64 p3) (.slice a9 t c9) (fun q hq => by have := QA q hq; omega))
      change bodyPost _ _ _ _ _ (put5 w4 w.heap.size (nU8 p0) (.int .i64 p1) (.int .i64 p2) (.int .i64 p3) (.slice a9 t c9))
      generalize put5 w4 w.heap.size (nU8 p0) (.int .i64 p1) (.int .i64 p2) (.int .i64 p3) (.slice a9 t c9) = w5 at Y F ⊢
      clear r0 r1 r2 r3 r4 rz q0 q1 q2 q3 q4 qz
      obtain ⟨z0, z1, z2, z3, z4, _⟩ := Y
      exact bodyPost_ret (v := .tuple #[pkV p0 p1 p2 p3 a9 t c9, .bool true]) (by simp [results, Tryd.results48, go_sem, z0, z1, z2, z3, z4]) rfl F.out
end Go.Proofs.YthfoakomapmkeaaDoor
/- The scanner's Push: its contract. -/
namespace Go.Proofs.YthfoakomapmkeaaDoor
open Go.RowKit

/-- A scanner's state behind a symbol. -/
def stepS (s : Sc) (x : Nat) : Sc :=
  if x = 49 then ⟨true, [], if s.ins then s.bad + 1 else s.bad⟩
  else if s.ins = false then s
  else if x = 50 then ⟨false, [], if goodS s.syms then s.bad else s.bad + 1⟩
  else if idx x < 16 then (if s.syms.length < 162 then ⟨true, s.syms ++ [x], s.bad⟩ else ⟨false, [], s.bad + 1⟩)
  else ⟨false, [], s.bad + 1⟩
/-- The packet that is found with a symbol. -/
def foundS (s : Sc) (x : Nat) : Option Pkt := if x = 50 ∧ s.ins = true ∧ goodS s.syms = true then some (pktB (bytesS s.syms)) else none
/-- What holds of every state. -/
structure Sc.Ok (s : Sc) : Prop where
  data : ∀ y ∈ s.syms, idx y < 16 ∧ y < 256
  room : s.syms.length ≤ 162
  out : s.ins = false → s.syms = []
theorem Sc.Ok.step {s : Sc} (h : s.Ok) {x : Nat} (hx : x < 256) : (stepS s x).Ok := by
  have h0 : ∀ (i : Bool) (b : Nat), (⟨i, [], b⟩ : Sc).Ok := fun i b => ⟨fun y hy => (by cases hy), (by show 0 ≤ 162; omega), fun _ => rfl⟩
  unfold stepS
  split
  · exact h0 _ _
  split
  · exact h
  split
  · exact h0 _ _
  split
  · split
    · refine ⟨fun y hy => ?_, (by show (s.syms ++ [x]).length ≤ 162; simp; omega), fun h => (by cases h)⟩
      rcases List.mem_append.1 hy with hy | hy
      · exact h.data y hy
      · simp at hy; subst hy; exact ⟨by assumption, hx⟩
    · exact h0 _ _
  · exact h0 _ _
theorem step_bad (s : Sc) (x : Nat) : (stepS s x).bad ≤ s.bad + 1 := by
  unfold stepS
  repeat' split
  all_goals simp
def PushRes (found : Option Pkt) (n : Nat) (e : Ending) (w' : World) : Prop :=
  match found with
  | none => e = .returned (.tuple #[pk0, .bool false])
  | some p => ∃ (a : Option Addr) (l c : Nat), e = .returned (.tuple #[pkV p.k p.c p.n p.v a l c, .bool true]) ∧ p.pay.length = l ∧ In w' a p.pay ∧ (a = none → c = 0) ∧ (∀ q, a = some q → n ≤ q.block)
def PushPost (g h : Nat) (s : Sc) (x : Nat) (w : World) (e : Ending) (w' : World) : Prop := Apart g h w w' ∧ ScAt w' g h (stepS s x) ∧ PushRes (foundS s x) w.heap.size e w'

theorem idx_49 : ∀ x < 256, idx x = 16 → x = 49 := by decide +kernel
theorem idx_50 : ∀ x < 256, idx x = 17 → x = 50 := by decide +kernel
theorem idx49 : idx 49 = 16 := by decide
theorem idx50 : idx 50 = 17 := by decide

set_option maxRecDepth 100000 in
set_option maxHeartbeats 8000000 in
theorem push_start (g h : Nat) (s : Sc) (hb : s.bad < 1000000) (hout : s.ins = false → s.syms = []) (hx256 : 49 < 256) (hv : valueV (idx 49) = .tuple #[.int .i64 0, .bool true, .int .i64 0]) (s2 : Sc) (hs2 : ⟨true, [], if s.ins then s.bad + 1 else s.bad⟩ = s2) (w : World) (x : ScAt w g h s) (hT2 : HasTab w) :
    Calls Tryd.prog 26 #[.pointer (some ⟨g, 0, none⟩), nU8 49] w fun e w' => Apart g h w w' ∧ ScAt w' g h s2 ∧ e = .returned (.tuple #[pk0, .bool false]) := by
  have X := box x
  have HS2 := box hs2
  clear hs2
  have LG := x.lt
  have LH := x.lth
  have kA := (Below.refl w.heap.size w).alloc (Nat.le_refl _) (.cells #[.int .u8 0, .int .i64 0, .int .i64 0, .int .i64 0, .slice none 0 0] 24)
  have XB : Box (ScAt (w.alloc (.cells #[.int .u8 0, .int .i64 0, .int .i64 0, .int .i64 0, .slice none 0 0] 24)) g h s) := box (X.out.keep kA)
  have R : Box (Pk5 (w.alloc (.cells #[.int .u8 0, .int .i64 0, .int .i64 0, .int .i64 0, .slice none 0 0] 24)) w.heap.size (nU8 0) (.int .i64 0) (.int .i64 0) (.int .i64 0) (.slice none 0 0)) := box (pk5_new w 0 0 0 0 none 0 0 w.heap.size rfl)
  have KA := box kA
  have VV := value_any 49 hx256 (w.alloc (.cells #[.int .u8 0, .int .i64 0, .int .i64 0, .int .i64 0, .slice none 0 0] 24)) (hT2.below kA)
  rw [hv] at VV
  have VB := box VV
  have rg : w.heap.size ≠ g := Nat.ne_of_gt LG
  have rh : w.heap.size ≠ h := Nat.ne_of_gt LH
  have i1 := XB.out.c0
  clear hT2 x kA VV hv
  go_enter Tryd.func26, Tryd.ntmps26
  go_wp2_with fail
  refine VB.out.mono ?_
  rintro e w2 ⟨rfl, hw2⟩
  change w.alloc (.cells #[.int .u8 0, .int .i64 0, .int .i64 0, .int .i64 0, .slice none 0 0] 24) = w2 at hw2
  rw [hw2] at XB R KA i1
  clear hw2 VB
  go_wp2_with fail
  refine (begin_any g h s hb hout w2 XB.out).mono ?_
  rintro e w4 ⟨rfl, x4, ap⟩
  rw [HS2.out] at x4
  obtain ⟨r0, r1, r2, r3, r4, rz⟩ := R.out.apart ap rg rh
  have R5 := box (R.out.apart ap rg rh)
  have KK := box ((Apart.ofBelow (g := g) (h := h) KA.out).trans ap)
  clear i1
  go_wp2_with fail
  have Y := pk5_put R5.out (nU8 0) (.int .i64 0) (.int .i64 0) (.int .i64 0) (.slice none 0 0)
  have A5 := (KK.out).put5 (Nat.le_refl _) (nU8 0) (.int .i64 0) (.int .i64 0) (.int .i64 0) (.slice none 0 0)
  have X5 := x4.far rg rh (nU8 0) (.int .i64 0) (.int .i64 0) (.int .i64 0) (.slice none 0 0)
  change bodyPost _ _ _ _ _ (put5 w4 w.heap.size (nU8 0) (.int .i64 0) (.int .i64 0) (.int .i64 0) (.slice none 0 0))
  generalize put5 w4 w.heap.size (nU8 0) (.int .i64 0) (.int .i64 0) (.int .i64 0) (.slice none 0 0) = w5 at Y A5 X5 ⊢
  clear r0 r1 r2 r3 r4 rz
  obtain ⟨z0, z1, z2, z3, z4, _⟩ := Y
  exact bodyPost_ret (v := .tuple #[pk0, .bool false]) (by simp [results, Tryd.results26, go_sem, z0, z1, z2, z3, z4]) rfl ⟨A5, X5, rfl⟩

set_option maxRecDepth 100000 in
set_option maxHeartbeats 8000000 in
theorem push_out1 (g h : Nat) (xs : List Nat) (b y : Nat) (vv ee : Int) (hx256 : y < 256) (hv : valueV (idx y) = .tuple #[.int .i64 vv, .bool false, .int .i64 ee]) (s2 : Sc) (hs2 : ⟨false, xs, b⟩ = s2) (w : World) (x : ScAt w g h ⟨false, xs, b⟩) (hT2 : HasTab w) :
    Calls Tryd.prog 26 #[.pointer (some ⟨g, 0, none⟩), nU8 y] w fun e w' => Apart g h w w' ∧ ScAt w' g h s2 ∧ e = .returned (.tuple #[pk0, .bool false]) := by
  have X := box x
  have HS2 := box hs2
  clear hs2
  have LG := x.lt
  have LH := x.lth
  have kA := (Below.refl w.heap.size w).alloc (Nat.le_refl _) (.cells #[.int .u8 0, .int .i64 0, .int .i64 0, .int .i64 0, .slice none 0 0] 24)
  have XB : Box (ScAt (w.alloc (.cells #[.int .u8 0, .int .i64 0, .int .i64 0, .int .i64 0, .slice none 0 0] 24)) g h ⟨false, xs, b⟩) := box (X.out.keep kA)
  have R : Box (Pk5 (w.alloc (.cells #[.int .u8 0, .int .i64 0, .int .i64 0, .int .i64 0, .slice none 0 0] 24)) w.heap.size (nU8 0) (.int .i64 0) (.int .i64 0) (.int .i64 0) (.slice none 0 0)) := box (pk5_new w 0 0 0 0 none 0 0 w.heap.size rfl)
  have KA := box kA
  have VV := value_any y hx256 (w.alloc (.cells #[.int .u8 0, .int .i64 0, .int .i64 0, .int .i64 0, .slice none 0 0] 24)) (hT2.below kA)
  rw [hv] at VV
  have VB := box VV
  have rg : w.heap.size ≠ g := Nat.ne_of_gt LG
  have rh : w.heap.size ≠ h := Nat.ne_of_gt LH
  have i1 := XB.out.c0
  clear hT2 x kA VV hv
  go_enter Tryd.func26, Tryd.ntmps26
  go_wp2_with fail
  refine VB.out.mono ?_
  rintro e w2 ⟨rfl, hw2⟩
  change w.alloc (.cells #[.int .u8 0, .int .i64 0, .int .i64 0, .int .i64 0, .slice none 0 0] 24) = w2 at hw2
  rw [hw2] at XB R KA i1
  clear hw2 VB
  obtain ⟨r0, r1, r2, r3, r4, rz⟩ := R.out
  have R5 := R
  have KK := box (Apart.ofBelow (g := g) (h := h) KA.out)
  have x4 := XB.out
  go_wp2_with fail
  obtain ⟨w4, hw4⟩ : ∃ w4, w4 = w2 := ⟨_, rfl⟩
  subst hw4
  rw [HS2.out] at x4
  have Y := pk5_put R5.out (nU8 0) (.int .i64 0) (.int .i64 0) (.int .i64 0) (.slice none 0 0)
  have A5 := (KK.out).put5 (Nat.le_refl _) (nU8 0) (.int .i64 0) (.int .i64 0) (.int .i64 0) (.slice none 0 0)
  have X5 := x4.far rg rh (nU8 0) (.int .i64 0) (.int .i64 0) (.int .i64 0) (.slice none 0 0)
  change bodyPost _ _ _ _ _ (put5 w4 w.heap.size (nU8 0) (.int .i64 0) (.int .i64 0) (.int .i64 0) (.slice none 0 0))
  generalize put5 w4 w.heap.size (nU8 0) (.int .i64 0) (.int .i64 0) (.int .i64 0) (.slice none 0 0) = w5 at Y A5 X5 ⊢
  clear r0 r1 r2 r3 r4 rz
  obtain ⟨z0, z1, z2, z3, z4, _⟩ := Y
  exact bodyPost_ret (v := .tuple #[pk0, .bool false]) (by simp [results, Tryd.results26, go_sem, z0, z1, z2, z3, z4]) rfl ⟨A5, X5, rfl⟩

set_option maxRecDepth 100000 in
set_option maxHeartbeats 8000000 in
theorem push_out2 (g h : Nat) (xs : List Nat) (b y : Nat) (vv ee : Int) (hx256 : y < 256) (hv : valueV (idx y) = .tuple #[.int .i64 vv, .bool true, .int .i64 ee]) (h0 : (vv == 0) = false) (s2 : Sc) (hs2 : ⟨false, xs, b⟩ = s2) (w : World) (x : ScAt w g h ⟨false, xs, b⟩) (hT2 : HasTab w) :
    Calls Tryd.prog 26 #[.pointer (some ⟨g, 0, none⟩), nU8 y] w fun e w' => Apart g h w w' ∧ ScAt w' g h s2 ∧ e = .returned (.tuple #[pk0, .bool false]) := by
  have X := box x
  have HS2 := box hs2
  clear hs2
  have LG := x.lt
  have LH := x.lth
  have kA := (Below.refl w.heap.size w).alloc (Nat.le_refl _) (.cells #[.int .u8 0, .int .i64 0, .int .i64 0, .int .i64 0, .slice none 0 0] 24)
  have XB : Box (ScAt (w.alloc (.cells #[.int .u8 0, .int .i64 0, .int .i64 0, .int .i64 0, .slice none 0 0] 24)) g h ⟨false, xs, b⟩) := box (X.out.keep kA)
  have R : Box (Pk5 (w.alloc (.cells #[.int .u8 0, .int .i64 0, .int .i64 0, .int .i64 0, .slice none 0 0] 24)) w.heap.size (nU8 0) (.int .i64 0) (.int .i64 0) (.int .i64 0) (.slice none 0 0)) := box (pk5_new w 0 0 0 0 none 0 0 w.heap.size rfl)
  have KA := box kA
  have VV := value_any y hx256 (w.alloc (.cells #[.int .u8 0, .int .i64 0, .int .i64 0, .int .i64 0, .slice none 0 0] 24)) (hT2.below kA)
  rw [hv] at VV
  have VB := box VV
  have rg : w.heap.size ≠ g := Nat.ne_of_gt LG
  have rh : w.heap.size ≠ h := Nat.ne_of_gt LH
  have i1 := XB.out.c0
  clear hT2 x kA VV hv
  go_enter Tryd.func26, Tryd.ntmps26
  go_wp2_with fail
  refine VB.out.mono ?_
  rintro e w2 ⟨rfl, hw2⟩
  change w.alloc (.cells #[.int .u8 0, .int .i64 0, .int .i64 0, .int .i64 0, .slice none 0 0] 24) = w2 at hw2
  rw [hw2] at XB R KA i1
  clear hw2 VB
  obtain ⟨r0, r1, r2, r3, r4, rz⟩ := R.out
  have R5 := R
  have KK := box (Apart.ofBelow (g := g) (h := h) KA.out)
  have x4 := XB.out
  go_wp2_with fail
  obtain ⟨w4, hw4⟩ : ∃ w4, w4 = w2 := ⟨_, rfl⟩
  subst hw4
  rw [HS2.out] at x4
  have Y := pk5_put R5.out (nU8 0) (.int .i64 0) (.int .i64 0) (.int .i64 0) (.slice none 0 0)
  have A5 := (KK.out).put5 (Nat.le_refl _) (nU8 0) (.int .i64 0) (.int .i64 0) (.int .i64 0) (.slice none 0 0)
  have X5 := x4.far rg rh (nU8 0) (.int .i64 0) (.int .i64 0) (.int .i64 0) (.slice none 0 0)
  change bodyPost _ _ _ _ _ (put5 w4 w.heap.size (nU8 0) (.int .i64 0) (.int .i64 0) (.int .i64 0) (.slice none 0 0))
  generalize put5 w4 w.heap.size (nU8 0) (.int .i64 0) (.int .i64 0) (.int .i64 0) (.slice none 0 0) = w5 at Y A5 X5 ⊢
  clear r0 r1 r2 r3 r4 rz
  obtain ⟨z0, z1, z2, z3, z4, _⟩ := Y
  exact bodyPost_ret (v := .tuple #[pk0, .bool false]) (by simp [results, Tryd.results26, go_sem, z0, z1, z2, z3, z4]) rfl ⟨A5, X5, rfl⟩

set_option maxRecDepth 100000 in
set_option maxHeartbeats 8000000 in
theorem push_data (g h : Nat) (xs : List Nat) (b y : Nat) (hb : b < 1000000) (hl : xs.length ≤ 162) (vv : Int) (hx256 : y < 256) (hv : valueV (idx y) = .tuple #[.int .i64 vv, .bool false, .int .i64 0]) (s2 : Sc) (hs2 : (if xs.length < 162 then ⟨true, xs ++ [y], b⟩ else ⟨false, [], b + 1⟩) = s2) (w : World) (x : ScAt w g h ⟨true, xs, b⟩) (hT2 : HasTab w) :
    Calls Tryd.prog 26 #[.pointer (some ⟨g, 0, none⟩), nU8 y] w fun e w' => Apart g h w w' ∧ ScAt w' g h s2 ∧ e = .returned (.tuple #[pk0, .bool false]) := by
  have X := box x
  have HS2 := box hs2
  clear hs2
  have LG := x.lt
  have LH := x.lth
  have kA := (Below.refl w.heap.size w).alloc (Nat.le_refl _) (.cells #[.int .u8 0, .int .i64 0, .int .i64 0, .int .i64 0, .slice none 0 0] 24)
  have XB : Box (ScAt (w.alloc (.cells #[.int .u8 0, .int .i64 0, .int .i64 0, .int .i64 0, .slice none 0 0] 24)) g h ⟨true, xs, b⟩) := box (X.out.keep kA)
  have R : Box (Pk5 (w.alloc (.cells #[.int .u8 0, .int .i64 0, .int .i64 0, .int .i64 0, .slice none 0 0] 24)) w.heap.size (nU8 0) (.int .i64 0) (.int .i64 0) (.int .i64 0) (.slice none 0 0)) := box (pk5_new w 0 0 0 0 none 0 0 w.heap.size rfl)
  have KA := box kA
  have VV := value_any y hx256 (w.alloc (.cells #[.int .u8 0, .int .i64 0, .int .i64 0, .int .i64 0, .slice none 0 0] 24)) (hT2.below kA)
  rw [hv] at VV
  have VB := box VV
  have rg : w.heap.size ≠ g := Nat.ne_of_gt LG
  have rh : w.heap.size ≠ h := Nat.ne_of_gt LH
  have i1 := XB.out.c0
  clear hT2 x kA VV hv
  go_enter Tryd.func26, Tryd.ntmps26
  go_wp2_with fail
  refine VB.out.mono ?_
  rintro e w2 ⟨rfl, hw2⟩
  change w.alloc (.cells #[.int .u8 0, .int .i64 0, .int .i64 0, .int .i64 0, .slice none 0 0] 24) = w2 at hw2
  rw [hw2] at XB R KA i1
  clear hw2 VB
  go_wp2_with fail
  refine (add_any g h xs b y hb hl w2 XB.out).mono ?_
  rintro e w4 ⟨rfl, x4, ap⟩
  rw [HS2.out] at x4
  obtain ⟨r0, r1, r2, r3, r4, rz⟩ := R.out.apart ap rg rh
  have R5 := box (R.out.apart ap rg rh)
  have KK := box ((Apart.ofBelow (g := g) (h := h) KA.out).trans ap)
  clear i1
  go_wp2_with fail
  have Y := pk5_put R5.out (nU8 0) (.int .i64 0) (.int .i64 0) (.int .i64 0) (.slice none 0 0)
  have A5 := (KK.out).put5 (Nat.le_refl _) (nU8 0) (.int .i64 0) (.int .i64 0) (.int .i64 0) (.slice none 0 0)
  have X5 := x4.far rg rh (nU8 0) (.int .i64 0) (.int .i64 0) (.int .i64 0) (.slice none 0 0)
  change bodyPost _ _ _ _ _ (put5 w4 w.heap.size (nU8 0) (.int .i64 0) (.int .i64 0) (.int .i64 0) (.slice none 0 0))
  generalize put5 w4 w.heap.size (nU8 0) (.int .i64 0) (.int .i64 0) (.int .i64 0) (.slice none 0 0) = w5 at Y A5 X5 ⊢
  clear r0 r1 r2 r3 r4 rz
  obtain ⟨z0, z1, z2, z3, z4, _⟩ := Y
  exact bodyPost_ret (v := .tuple #[pk0, .bool false]) (by simp [results, Tryd.results26, go_sem, z0, z1, z2, z3, z4]) rfl ⟨A5, X5, rfl⟩

set_option maxRecDepth 100000 in
set_option maxHeartbeats 8000000 in
theorem push_ctl (g h : Nat) (xs : List Nat) (b y : Nat) (hb : b < 1000000) (vv : Int) (hx256 : y < 256) (hv : valueV (idx y) = .tuple #[.int .i64 vv, .bool true, .int .i64 0]) (h0 : (vv == 0) = false) (h1 : (vv == 1) = false) (s2 : Sc) (hs2 : ⟨false, [], b + 1⟩ = s2) (w : World) (x : ScAt w g h ⟨true, xs, b⟩) (hT2 : HasTab w) :
    Calls Tryd.prog 26 #[.pointer (some ⟨g, 0, none⟩), nU8 y] w fun e w' => Apart g h w w' ∧ ScAt w' g h s2 ∧ e = .returned (.tuple #[pk0, .bool false]) := by
  have X := box x
  have HS2 := box hs2
  clear hs2
  have LG := x.lt
  have LH := x.lth
  have kA := (Below.refl w.heap.size w).alloc (Nat.le_refl _) (.cells #[.int .u8 0, .int .i64 0, .int .i64 0, .int .i64 0, .slice none 0 0] 24)
  have XB : Box (ScAt (w.alloc (.cells #[.int .u8 0, .int .i64 0, .int .i64 0, .int .i64 0, .slice none 0 0] 24)) g h ⟨true, xs, b⟩) := box (X.out.keep kA)
  have R : Box (Pk5 (w.alloc (.cells #[.int .u8 0, .int .i64 0, .int .i64 0, .int .i64 0, .slice none 0 0] 24)) w.heap.size (nU8 0) (.int .i64 0) (.int .i64 0) (.int .i64 0) (.slice none 0 0)) := box (pk5_new w 0 0 0 0 none 0 0 w.heap.size rfl)
  have KA := box kA
  have VV := value_any y hx256 (w.alloc (.cells #[.int .u8 0, .int .i64 0, .int .i64 0, .int .i64 0, .slice none 0 0] 24)) (hT2.below kA)
  rw [hv] at VV
  have VB := box VV
  have rg : w.heap.size ≠ g := Nat.ne_of_gt LG
  have rh : w.heap.size ≠ h := Nat.ne_of_gt LH
  have i1 := XB.out.c0
  clear hT2 x kA VV hv
  go_enter Tryd.func26, Tryd.ntmps26
  go_wp2_with fail
  refine VB.out.mono ?_
  rintro e w2 ⟨rfl, hw2⟩
  change w.alloc (.cells #[.int .u8 0, .int .i64 0, .int .i64 0, .int .i64 0, .slice none 0 0] 24) = w2 at hw2
  rw [hw2] at XB R KA i1
  clear hw2 VB
  go_wp2_with fail
  refine (discard_any g h ⟨true, xs, b⟩ hb w2 XB.out).mono ?_
  rintro e w4 ⟨rfl, x4, ap⟩
  rw [HS2.out] at x4
  obtain ⟨r0, r1, r2, r3, r4, rz⟩ := R.out.apart ap rg rh
  have R5 := box (R.out.apart ap rg rh)
  have KK := box ((Apart.ofBelow (g := g) (h := h) KA.out).trans ap)
  clear i1
  go_wp2_with fail
  have Y := pk5_put R5.out (nU8 0) (.int .i64 0) (.int .i64 0) (.int .i64 0) (.slice none 0 0)
  have A5 := (KK.out).put5 (Nat.le_refl _) (nU8 0) (.int .i64 0) (.int .i64 0) (.int .i64 0) (.slice none 0 0)
  have X5 := x4.far rg rh (nU8 0) (.int .i64 0) (.int .i64 0) (.int .i64 0) (.slice none 0 0)
  change bodyPost _ _ _ _ _ (put5 w4 w.heap.size (nU8 0) (.int .i64 0) (.int .i64 0) (.int .i64 0) (.slice none 0 0))
  generalize put5 w4 w.heap.size (nU8 0) (.int .i64 0) (.int .i64 0) (.int .i64 0) (.slice none 0 0) = w5 at Y A5 X5 ⊢
  clear r0 r1 r2 r3 r4 rz
  obtain ⟨z0, z1, z2, z3, z4, _⟩ := Y
  exact bodyPost_ret (v := .tuple #[pk0, .bool false]) (by simp [results, Tryd.results26, go_sem, z0, z1, z2, z3, z4]) rfl ⟨A5, X5, rfl⟩

set_option maxRecDepth 100000 in
set_option maxHeartbeats 8000000 in
theorem push_no (g h : Nat) (xs : List Nat) (b y : Nat) (hb : b < 1000000) (vv : Int) (hx256 : y < 256) (hv : valueV (idx y) = .tuple #[.int .i64 vv, .bool false, .int .i64 3]) (s2 : Sc) (hs2 : ⟨false, [], b + 1⟩ = s2) (w : World) (x : ScAt w g h ⟨true, xs, b⟩) (hT2 : HasTab w) :
    Calls Tryd.prog 26 #[.pointer (some ⟨g, 0, none⟩), nU8 y] w fun e w' => Apart g h w w' ∧ ScAt w' g h s2 ∧ e = .returned (.tuple #[pk0, .bool false]) := by
  have X := box x
  have HS2 := box hs2
  clear hs2
  have LG := x.lt
  have LH := x.lth
  have kA := (Below.refl w.heap.size w).alloc (Nat.le_refl _) (.cells #[.int .u8 0, .int .i64 0, .int .i64 0, .int .i64 0, .slice none 0 0] 24)
  have XB : Box (ScAt (w.alloc (.cells #[.int .u8 0, .int .i64 0, .int .i64 0, .int .i64 0, .slice none 0 0] 24)) g h ⟨true, xs, b⟩) := box (X.out.keep kA)
  have R : Box (Pk5 (w.alloc (.cells #[.int .u8 0, .int .i64 0, .int .i64 0, .int .i64 0, .slice none 0 0] 24)) w.heap.size (nU8 0) (.int .i64 0) (.int .i64 0) (.int .i64 0) (.slice none 0 0)) := box (pk5_new w 0 0 0 0 none 0 0 w.heap.size rfl)
  have KA := box kA
  have VV := value_any y hx256 (w.alloc (.cells #[.int .u8 0, .int .i64 0, .int .i64 0, .int .i64 0, .slice none 0 0] 24)) (hT2.below kA)
  rw [hv] at VV
  have VB := box VV
  have rg : w.heap.size ≠ g := Nat.ne_of_gt LG
  have rh : w.heap.size ≠ h := Nat.ne_of_gt LH
  have i1 := XB.out.c0
  clear hT2 x kA VV hv
  go_enter Tryd.func26, Tryd.ntmps26
  go_wp2_with fail
  refine VB.out.mono ?_
  rintro e w2 ⟨rfl, hw2⟩
  change w.alloc (.cells #[.int .u8 0, .int .i64 0, .int .i64 0, .int .i64 0, .slice none 0 0] 24) = w2 at hw2
  rw [hw2] at XB R KA i1
  clear hw2 VB
  go_wp2_with fail
  refine (discard_any g h ⟨true, xs, b⟩ hb w2 XB.out).mono ?_
  rintro e w4 ⟨rfl, x4, ap⟩
  rw [HS2.out] at x4
  obtain ⟨r0, r1, r2, r3, r4, rz⟩ := R.out.apart ap rg rh
  have R5 := box (R.out.apart ap rg rh)
  have KK := box ((Apart.ofBelow (g := g) (h := h) KA.out).trans ap)
  clear i1
  go_wp2_with fail
  have Y := pk5_put R5.out (nU8 0) (.int .i64 0) (.int .i64 0) (.int .i64 0) (.slice none 0 0)
  have A5 := (KK.out).put5 (Nat.le_refl _) (nU8 0) (.int .i64 0) (.int .i64 0) (.int .i64 0) (.slice none 0 0)
  have X5 := x4.far rg rh (nU8 0) (.int .i64 0) (.int .i64 0) (.int .i64 0) (.slice none 0 0)
  change bodyPost _ _ _ _ _ (put5 w4 w.heap.size (nU8 0) (.int .i64 0) (.int .i64 0) (.int .i64 0) (.slice none 0 0))
  generalize put5 w4 w.heap.size (nU8 0) (.int .i64 0) (.int .i64 0) (.int .i64 0) (.slice none 0 0) = w5 at Y A5 X5 ⊢
  clear r0 r1 r2 r3 r4 rz
  obtain ⟨z0, z1, z2, z3, z4, _⟩ := Y
  exact bodyPost_ret (v := .tuple #[pk0, .bool false]) (by simp [results, Tryd.results26, go_sem, z0, z1, z2, z3, z4]) rfl ⟨A5, X5, rfl⟩

end Go.Proofs.YthfoakomapmkeaaDoor
/- The scanner's Push, whole: its contract. -/
namespace Go.Proofs.YthfoakomapmkeaaDoor
open Go.RowKit

set_option maxRecDepth 100000 in
set_option maxHeartbeats 8000000 in
theorem push_end (g h : Nat) (xs : List Nat) (b : Nat) (hb : b < 1000000) (hx : ∀ x ∈ xs, idx x < 16 ∧ x < 256) (hl : xs.length ≤ 162) (w : World) (x : ScAt w g h ⟨true, xs, b⟩) (hT : Crc.HasTab w) (hT2 : HasTab w) :
    Calls Tryd.prog 26 #[.pointer (some ⟨g, 0, none⟩), nU8 50] w (EndPost g h xs b w) := by
  have X := box x
  have LG := x.lt
  have LH := x.lth
  have kA := (Below.refl w.heap.size w).alloc (Nat.le_refl _) (.cells #[.int .u8 0, .int .i64 0, .int .i64 0, .int .i64 0, .slice none 0 0] 24)
  have XB : Box (ScAt (w.alloc (.cells #[.int .u8 0, .int .i64 0, .int .i64 0, .int .i64 0, .slice none 0 0] 24)) g h ⟨true, xs, b⟩) := box (X.out.keep kA)
  have R : Box (Pk5 (w.alloc (.cells #[.int .u8 0, .int .i64 0, .int .i64 0, .int .i64 0, .slice none 0 0] 24)) w.heap.size (nU8 0) (.int .i64 0) (.int .i64 0) (.int .i64 0) (.slice none 0 0)) := box (pk5_new w 0 0 0 0 none 0 0 w.heap.size rfl)
  have KA := box kA
  have VV := value_any 50 (by omega) (w.alloc (.cells #[.int .u8 0, .int .i64 0, .int .i64 0, .int .i64 0, .slice none 0 0] 24)) (hT2.below kA)
  rw [show valueV (idx 50) = .tuple #[.int .i64 1, .bool true, .int .i64 0] by rw [idx50]; rfl] at VV
  have VB := box VV
  have rg : w.heap.size ≠ g := Nat.ne_of_gt LG
  have rh : w.heap.size ≠ h := Nat.ne_of_gt LH
  have i1 := XB.out.c0
  have EN := box (end_any g h xs b hb hx hl (w.alloc (.cells #[.int .u8 0, .int .i64 0, .int .i64 0, .int .i64 0, .slice none 0 0] 24)) XB.out (hT.below kA) (hT2.below kA))
  have LR : w.heap.size < (w.alloc (.cells #[.int .u8 0, .int .i64 0, .int .i64 0, .int .i64 0, .slice none 0 0] 24)).heap.size := World.block_lt_of_cell? _ ⟨w.heap.size, 0, none⟩ R.out.q0
  clear hT2 hT x kA VV hx hl hb
  go_enter Tryd.func26, Tryd.ntmps26
  go_wp2_with fail
  refine VB.out.mono ?_
  rintro e w2 ⟨rfl, hw2⟩
  change w.alloc (.cells #[.int .u8 0, .int .i64 0, .int .i64 0, .int .i64 0, .slice none 0 0] 24) = w2 at hw2
  rw [hw2] at XB R KA i1 EN LR
  clear hw2 VB
  have KK := box (Apart.ofBelow (g := g) (h := h) KA.out)
  go_wp2_with fail
  refine EN.out.mono ?_
  rintro e w4 ⟨ap, x4, hres⟩
  obtain ⟨r0, r1, r2, r3, r4, rz⟩ := R.out.apart ap rg rh
  have R5 := box (R.out.apart ap rg rh)
  replace KK := box (KK.out.trans ap)
  clear i1 EN
  rcases hres with ⟨hg, rfl⟩ | ⟨hg, a, l, c, rfl, hpl, hi, hn, hf⟩
  · have HF := fun w' (ap : Apart g h w w') (x : ScAt w' g h ⟨false, [], if goodS xs then b else b + 1⟩) => box (show EndPost g h xs b w (.returned (.tuple #[pk0, .bool false])) w' from ⟨ap, x, .inl ⟨hg, rfl⟩⟩)
    have X4 := box x4
    clear hg x4
    go_wp2_with fail
    have Y := pk5_put R5.out (nU8 0) (.int .i64 0) (.int .i64 0) (.int .i64 0) (.slice none 0 0)
    have F := HF (put5 w4 w.heap.size (nU8 0) (.int .i64 0) (.int .i64 0) (.int .i64 0) (.slice none 0 0)) (KK.out.put5 (Nat.le_refl _) _ _ _ _ _) (X4.out.far rg rh _ _ _ _ _)
    change bodyPost _ _ _ _ _ (put5 w4 w.heap.size (nU8 0) (.int .i64 0) (.int .i64 0) (.int .i64 0) (.slice none 0 0))
    generalize put5 w4 w.heap.size (nU8 0) (.int .i64 0) (.int .i64 0) (.int .i64 0) (.slice none 0 0) = w5 at Y F ⊢
    clear r0 r1 r2 r3 r4 rz
    obtain ⟨z0, z1, z2, z3, z4, _⟩ := Y
    exact bodyPost_ret (v := .tuple #[pk0, .bool false]) (by simp [results, Tryd.results26, go_sem, z0, z1, z2, z3, z4]) rfl F.out
  · have HG := box hg
    obtain ⟨p, hp⟩ : ∃ p, pktB (bytesS xs) = p := ⟨_, rfl⟩
    rw [hp] at hpl hi ⊢
    have HP := box hp
    have HF := fun w' (ap : Apart g h w w') (x : ScAt w' g h ⟨false, [], if goodS xs then b else b + 1⟩) (hi : In w' a p.pay) => box (show EndPost g h xs b w (.returned (.tuple #[pkV p.k p.c p.n p.v a l c, .bool true])) w' from ⟨ap, x, .inr ⟨HG.out, a, l, c, by rw [HP.out], by rw [HP.out]; exact hpl, by rw [HP.out]; exact hi, hn, fun q hq => Nat.le_trans (Nat.le_of_lt LR) (hf q hq)⟩⟩)
    have X4 := box x4
    have I4 := box hi
    have HF4 := box (fun q hq => Nat.lt_of_lt_of_le LR (hf q hq))
    clear hg hp x4 hi hf hpl HG HP
    obtain ⟨pk, pc, pn, pv, pp⟩ := p
    have V4 := box R5.out
    go_wp2_with fail
    have Y := pk5_put R5.out (nU8 pk) (.int .i64 pc) (.int .i64 pn) (.int .i64 pv) (.slice a l c)
    have F := HF (put5 w4 w.heap.size (nU8 pk) (.int .i64 pc) (.int .i64 pn) (.int .i64 pv) (.slice a l c)) (KK.out.put5 (Nat.le_refl _) _ _ _ _ _) (X4.out.far rg rh _ _ _ _ _) (put5_in I4.out w.heap.size (nU8 pk) (.int .i64 pc) (.int .i64 pn) (.int .i64 pv) (.slice a l c) (fun q hq => Nat.ne_of_lt (HF4.out q hq)))
    change bodyPost _ _ _ _ _ (put5 w4 w.heap.size (nU8 pk) (.int .i64 pc) (.int .i64 pn) (.int .i64 pv) (.slice a l c))
    generalize put5 w4 w.heap.size (nU8 pk) (.int .i64 pc) (.int .i64 pn) (.int .i64 pv) (.slice a l c) = w5 at Y F ⊢
    clear r0 r1 r2 r3 r4 rz
    obtain ⟨z0, z1, z2, z3, z4, _⟩ := Y
    exact bodyPost_ret (v := .tuple #[pkV pk pc pn pv a l c, .bool true]) (by simp [results, Tryd.results26, go_sem, z0, z1, z2, z3, z4]) rfl F.out

set_option maxRecDepth 100000 in
set_option maxHeartbeats 8000000 in
theorem push_nil (y : Nat) (w : World) :
    Calls Tryd.prog 26 #[.pointer none, nU8 y] w fun e w' => e = .returned (.tuple #[pk0, .bool false]) ∧ Below w.heap.size w w' := by
  go_enter Tryd.func26, Tryd.ntmps26
  go_wp2_with fail
  refine bodyPost_ret (v := .tuple #[pk0, .bool false]) (by simp [results, Tryd.results26, go_sem]) rfl ⟨rfl, ?_⟩
  exact (Below.refl _ _).alloc (Nat.le_refl _) _

theorem push_any (g h : Nat) (s : Sc) (hs : s.Ok) (hb : s.bad < 1000000) (y : Nat) (hy : y < 256) (w : World) (x : ScAt w g h s) (hT : Crc.HasTab w) (hT2 : HasTab w) :
    Calls Tryd.prog 26 #[.pointer (some ⟨g, 0, none⟩), nU8 y] w (PushPost g h s y w) := by
  by_cases h49 : y = 49
  · subst h49
    have hf : foundS s 49 = none := by unfold foundS; rw [if_neg (fun h => by omega)]
    have hst : stepS s 49 = ⟨true, [], if s.ins then s.bad + 1 else s.bad⟩ := by unfold stepS; rw [if_pos rfl]
    refine (push_start g h s hb hs.out (by omega) (by rw [idx49]; rfl) _ rfl w x hT2).mono ?_
    rintro e w' ⟨h1, h2, h3⟩
    exact ⟨h1, by rw [hst]; exact h2, by rw [hf]; exact h3⟩
  have n16 : idx y ≠ 16 := fun h => h49 (idx_49 y hy h)
  obtain ⟨i, xs, b⟩ := s
  cases i
  · have hf : foundS ⟨false, xs, b⟩ y = none := by unfold foundS; rw [if_neg (fun h => by cases h.2.1)]
    have hst : stepS ⟨false, xs, b⟩ y = ⟨false, xs, b⟩ := by unfold stepS; rw [if_neg h49, if_pos rfl]
    have fin : ∀ e w', Apart g h w w' ∧ ScAt w' g h ⟨false, xs, b⟩ ∧ e = .returned (.tuple #[pk0, .bool false]) → PushPost g h ⟨false, xs, b⟩ y w e w' := fun e w' ⟨h1, h2, h3⟩ => ⟨h1, by rw [hst]; exact h2, by rw [hf]; exact h3⟩
    by_cases c16 : idx y < 16
    · exact (push_out1 g h xs b y (idx y : Nat) 0 hy (by unfold valueV; rw [if_pos c16]) _ rfl w x hT2).mono fin
    by_cases c20 : idx y < 20
    · exact (push_out2 g h xs b y ((idx y : Nat) - 16) 0 hy (by unfold valueV; rw [if_neg c16, if_pos c20]) (by simp; omega) _ rfl w x hT2).mono fin
    · exact (push_out1 g h xs b y 0 3 hy (by unfold valueV; rw [if_neg c16, if_neg c20]) _ rfl w x hT2).mono fin
  by_cases h50 : y = 50
  · subst h50
    have hst : stepS ⟨true, xs, b⟩ 50 = ⟨false, [], if goodS xs then b else b + 1⟩ := by unfold stepS; rw [if_neg h49, if_neg (by simp), if_pos rfl]
    refine (push_end g h xs b hb hs.data hs.room w x hT hT2).mono ?_
    rintro e w' ⟨h1, h2, h3⟩
    refine ⟨h1, by rw [hst]; exact h2, ?_⟩
    rcases h3 with ⟨hg, h3⟩ | ⟨hg, h3⟩
    · have hf : foundS ⟨true, xs, b⟩ 50 = none := by unfold foundS; rw [if_neg (fun h => by rw [hg] at h; cases h.2.2)]
      rw [hf]; exact h3
    · have hf : foundS ⟨true, xs, b⟩ 50 = some (pktB (bytesS xs)) := by unfold foundS; rw [if_pos ⟨rfl, rfl, hg⟩]
      rw [hf]; exact h3
  have n17 : idx y ≠ 17 := fun h => h50 (idx_50 y hy h)
  have hf : foundS ⟨true, xs, b⟩ y = none := by unfold foundS; rw [if_neg (fun h => h50 h.1)]
  by_cases c16 : idx y < 16
  · have hst : stepS ⟨true, xs, b⟩ y = if xs.length < 162 then ⟨true, xs ++ [y], b⟩ else ⟨false, [], b + 1⟩ := by unfold stepS; rw [if_neg h49, if_neg (by simp), if_neg h50, if_pos c16]
    refine (push_data g h xs b y hb hs.room (idx y : Nat) hy (by unfold valueV; rw [if_pos c16]) _ rfl w x hT2).mono ?_
    rintro e w' ⟨h1, h2, h3⟩
    exact ⟨h1, by rw [hst]; exact h2, by rw [hf]; exact h3⟩
  have hst : stepS ⟨true, xs, b⟩ y = ⟨false, [], b + 1⟩ := by unfold stepS; rw [if_neg h49, if_neg (by simp), if_neg h50, if_neg c16]
  have fin : ∀ e w', Apart g h w w' ∧ ScAt w' g h ⟨false, [], b + 1⟩ ∧ e = .returned (.tuple #[pk0, .bool false]) → PushPost g h ⟨true, xs, b⟩ y w e w' := fun e w' ⟨h1, h2, h3⟩ => ⟨h1, by rw [hst]; exact h2, by rw [hf]; exact h3⟩
  by_cases c20 : idx y < 20
  · exact (push_ctl g h xs b y hb ((idx y : Nat) - 16) hy (by unfold valueV; rw [if_neg c16, if_pos c20]) (by simp; omega) (by simp; omega) _ rfl w x hT2).mono fin
  · exact (push_no g h xs b y hb 0 hy (by unfold valueV; rw [if_neg c16, if_neg c20]) _ rfl w x hT2).mono fin
end Go.Proofs.YthfoakomapmkeaaDoor
/- Lists of packets of the call's own. -/
namespace Go.Proofs.YthfoakomapmkeaaDoor
open Go.RowKit

/-- Some cells are those of some packets, whose payloads lie in no block of E. -/
def PkCells (w : World) (E : Nat → Prop) : List Value → List Pkt → Prop
  | cs, [] => cs = []
  | cs, p :: ps => ∃ (a : Option Addr) (l cap : Nat) (rest : List Value), cs = (pkC p.k p.c p.n p.v a l cap).toList ++ rest ∧ p.pay.length = l ∧ In w a p.pay ∧ (a = none → cap = 0) ∧ (p.pay ≠ [] → ∀ q, a = some q → ¬ E q.block) ∧ PkCells w E rest ps
theorem in_lt {w : World} {q : Addr} {xs : List Nat} (h : In w (some q) xs) (hx : xs ≠ []) : q.block < w.heap.size := by
  rcases h with h | ⟨b, e, h⟩
  · exact absurd h hx
  · cases e
    have := World.block_lt_of_cell? w _ (h 0 (List.length_pos_iff.2 hx))
    unfold Addr.add at this
    split at this <;> exact this
theorem in_same {w w' : World} {a : Option Addr} {xs : List Nat} (h : In w a xs) (hk : xs ≠ [] → ∀ q, a = some q → w'.heap[q.block]? = w.heap[q.block]?) : In w' a xs := by
  rcases h with h | ⟨b, rfl, h⟩
  · exact .inl h
  · by_cases hx : xs = []
    · exact .inl hx
    · refine .inr ⟨b, rfl, fun i hi => ?_⟩
      rw [World.cell?_of_block (a := b.add i) (w := w) (by rw [show (b.add i).block = b.block by unfold Addr.add; split <;> rfl]; exact hk hx b rfl)]
      exact h i hi
theorem PkCells.length {w : World} {E : Nat → Prop} : ∀ {ps : List Pkt} {cs : List Value}, PkCells w E cs ps → cs.length = ps.length * 5
  | [], cs, h => by have h : cs = [] := h; rw [h]; rfl
  | p :: ps, cs, ⟨a, l, cap, rest, hc, _, _, _, _, hr⟩ => by
    have := PkCells.length hr
    rw [hc, List.length_append, this]
    show 5 + ps.length * 5 = (ps.length + 1) * 5
    omega
theorem PkCells.keep {w w' : World} {E : Nat → Prop} (hk : ∀ k, k < w.heap.size → ¬ E k → w'.heap[k]? = w.heap[k]?) : ∀ {ps : List Pkt} {cs : List Value}, PkCells w E cs ps → PkCells w' E cs ps
  | [], _, h => h
  | p :: ps, cs, ⟨a, l, cap, rest, hc, hl, hi, hn, he, hr⟩ => ⟨a, l, cap, rest, hc, hl, in_same hi (fun hx q hq => hk _ (by subst hq; exact in_lt hi hx) (he hx q hq)), hn, he, PkCells.keep hk hr⟩
theorem PkCells.excl {w : World} {E E' : Nat → Prop} (hE : ∀ k, k < w.heap.size → E' k → E k) : ∀ {ps : List Pkt} {cs : List Value}, PkCells w E cs ps → PkCells w E' cs ps
  | [], _, h => h
  | p :: ps, cs, ⟨a, l, cap, rest, hc, hl, hi, hn, he, hr⟩ => ⟨a, l, cap, rest, hc, hl, hi, hn, fun hx q hq h => he hx q hq (hE _ (by subst hq; exact in_lt hi hx) h), PkCells.excl hE hr⟩
theorem PkCells.add {w : World} {E : Nat → Prop} {p : Pkt} {a : Option Addr} {l cap : Nat} (hl : p.pay.length = l) (hi : In w a p.pay) (hn : a = none → cap = 0) (he : p.pay ≠ [] → ∀ q, a = some q → ¬ E q.block) : ∀ {ps : List Pkt} {cs : List Value}, PkCells w E cs ps → PkCells w E (cs ++ (pkC p.k p.c p.n p.v a l cap).toList) (ps ++ [p])
  | [], cs, h => by
    have h : cs = [] := h
    subst h
    exact ⟨a, l, cap, [], by simp, hl, hi, hn, he, rfl⟩
  | p' :: ps, cs, ⟨a', l', cap', rest, hc, hl', hi', hn', he', hr⟩ => ⟨a', l', cap', rest ++ (pkC p.k p.c p.n p.v a l cap).toList, by rw [hc, List.append_assoc], hl', hi', hn', he', PkCells.add hl hi hn he hr⟩
theorem ScAt.same {w w' : World} {g h : Nat} {s : Sc} (x : ScAt w g h s) (e1 : w'.heap[g]? = w.heap[g]?) (e2 : w'.heap[h]? = w.heap[h]?) : ScAt w' g h s :=
  ⟨(World.cell?_of_block (a := ⟨g, 0, none⟩) e1).trans x.c0, (World.cell?_of_block (a := ⟨g, 1, none⟩) e1).trans x.c1, (World.cell?_of_block (a := ⟨g, 2, none⟩) e1).trans x.c2, fun j => (World.frozen?_of_block (a := ⟨g, j, none⟩) e1).trans (x.fr j), own_blk x.own e2, x.ne⟩
theorem Tryd.infoPk : (Tryd.prog.info? 24).map (fun i => (i.zero, i.size, i.bytes)) = some (some pk0, 5, 56) := by kernel_rfl
/-- A slice of packets of the call's own. -/
def OwnPks (B : Nat) (E : Nat → Prop) (w : World) (v : Value) (ps : List Pkt) : Prop := ∃ cs, w.ownsRow B 24 5 v ps.length cs ∧ PkCells w (fun b => E b ∨ some b = v.ownBlock) cs ps
theorem row_blk {B n sz : Nat} {e : TypeId} {w : World} {v : Value} {xs : List Value} (x : w.ownsRow B e sz v n xs) : ∀ g, v.ownBlock = some g → B ≤ g ∧ g < w.heap.size := by
  intro g hg
  rcases x.2 with ⟨rfl, _⟩ | ⟨g', cap, cur, rfl, hb, hh, _⟩
  · cases hg
  · cases hg
    exact ⟨hb, (Array.getElem?_eq_some_iff.1 hh).1⟩
theorem row_same {B n sz : Nat} {e : TypeId} {w w' : World} {v : Value} {xs : List Value} (x : w.ownsRow B e sz v n xs) (h : ∀ g, v.ownBlock = some g → w'.heap[g]? = w.heap[g]?) : w'.ownsRow B e sz v n xs := by
  refine ⟨x.1, ?_⟩
  rcases x.2 with h0 | ⟨g', cap, cur, rfl, hb, hh, hr⟩
  · exact .inl h0
  · exact .inr ⟨g', cap, cur, rfl, hb, (h g' rfl).trans hh, hr⟩
theorem OwnPks.below {B : Nat} {E : Nat → Prop} {w w' : World} {v : Value} {ps : List Pkt} (x : OwnPks B E w v ps) (hb : Below w.heap.size w w') : OwnPks B E w' v ps := by
  obtain ⟨cs, h1, h2⟩ := x
  exact ⟨cs, row_same h1 (fun g hg => hb.block g (row_blk h1 g hg).2), h2.keep (fun k hk _ => hb.block k hk)⟩
theorem OwnPks.apart {B g h : Nat} {w w' : World} {v : Value} {ps : List Pkt} (x : OwnPks B (fun b => b = g ∨ b = h) w v ps) (hg : g < B) (hh : h < B) (hb : Apart g h w w') : OwnPks B (fun b => b = g ∨ b = h) w' v ps := by
  obtain ⟨cs, h1, h2⟩ := x
  refine ⟨cs, row_same h1 (fun q hq => ?_), h2.keep (fun k hk hn => hb.block k hk (fun e => hn (.inl (.inl e))) (fun e => hn (.inl (.inr e))))⟩
  have := row_blk h1 q hq
  exact hb.block q this.2 (by omega) (by omega)
theorem OwnPks.low {B : Nat} {E : Nat → Prop} {w : World} {v : Value} {ps : List Pkt} (x : OwnPks B E w v ps) {B' : Nat} (h : B' ≤ B) : OwnPks B' (fun _ => False) w v ps := by
  obtain ⟨cs, h1, h2⟩ := x
  refine ⟨cs, ⟨h1.1, ?_⟩, h2.excl (fun k _ hk => .inr (hk.resolve_left id))⟩
  rcases h1.2 with h0 | ⟨g', cap, cur, hv, hb, hr⟩
  · exact .inl h0
  · exact .inr ⟨g', cap, cur, hv, Nat.le_trans h hb, hr⟩
theorem PkCells.at {w : World} {E : Nat → Prop} : ∀ {ps : List Pkt} {cs : List Value}, PkCells w E cs ps → ∀ (g i : Nat), (∀ j u, cs[j]? = some u → w.cell? ⟨g, i + j, none⟩ = some u) → PksAt w g i ps
  | [], _, _, _, _, _ => fun j hj => by simp at hj
  | p :: ps, cs, ⟨a, l, cap, rest, hc, hl, hi, hn, he, hr⟩, g, i, hcell => by
    intro j hj
    cases j with
    | zero =>
      refine ⟨a, l, cap, ?_, ?_, ?_, ?_, ?_, hl, hi⟩
      · simpa using hcell 0 _ (by rw [hc]; rfl)
      · simpa using hcell 1 _ (by rw [hc]; rfl)
      · simpa using hcell 2 _ (by rw [hc]; rfl)
      · simpa using hcell 3 _ (by rw [hc]; rfl)
      · simpa using hcell 4 _ (by rw [hc]; rfl)
    | succ j =>
      have := PkCells.at hr g (i + 5) (fun j' u hu => by
        have h := hcell (5 + j') u (by rw [hc, show 5 + j' = j' + 5 by omega]; exact hu)
        rwa [← Nat.add_assoc] at h) j (by simpa using hj)
      rw [show i + (j + 1) * 5 = i + 5 + j * 5 by omega]
      exact this
theorem OwnPks.form {B : Nat} {E : Nat → Prop} {w : World} {v : Value} {ps : List Pkt} (x : OwnPks B E w v ps) : ∃ (a : Option Addr) (c : Nat), v = .slice a ps.length c ∧ PksIn w a ps ∧ (a = none → c = 0) := by
  obtain ⟨cs, h1, h2⟩ := x
  rcases h1.2 with ⟨rfl, h0⟩ | ⟨g', cap, cur, rfl, hb, hh, hr⟩
  · rw [h0]
    exact ⟨none, 0, rfl, .inl (List.length_eq_zero_iff.1 h0), fun _ => rfl⟩
  · refine ⟨some ⟨g', 0, none⟩, cap, rfl, .inr ⟨g', 0, rfl, h2.at g' 0 (fun j u hu => ?_)⟩, fun h => by cases h⟩
    have hj : j < cs.length := (List.getElem?_eq_some_iff.1 hu).1
    rw [Nat.zero_add, h1.cellAt j (by rw [← h1.1]; exact hj)]
    exact hu
end Go.Proofs.YthfoakomapmkeaaDoor
/- The law's scan: its contract. -/
namespace Go.Proofs.YthfoakomapmkeaaDoor
open Go.RowKit

/-- A scanner's state and the packets that it found, behind the first symbols of some. -/
def scanTo (xs : List Nat) : Nat → Sc × List Pkt
  | 0 => (⟨false, [], 0⟩, [])
  | i + 1 => (stepS (scanTo xs i).1 (xs.getD i 0), (scanTo xs i).2 ++ (foundS (scanTo xs i).1 (xs.getD i 0)).toList)
theorem scanTo_ok {xs : List Nat} (hx : ∀ x ∈ xs, x < 256) : ∀ i ≤ xs.length, (scanTo xs i).1.Ok ∧ (scanTo xs i).1.bad ≤ i ∧ (scanTo xs i).2.length ≤ i
  | 0, _ => ⟨⟨fun y hy => (by cases hy), (by show 0 ≤ 162; omega), fun _ => rfl⟩, Nat.le_refl _, Nat.le_refl _⟩
  | i + 1, hi => by
    obtain ⟨h1, h2, h3⟩ := scanTo_ok hx i (by omega)
    refine ⟨h1.step (getD_lt hx (by omega)), Nat.le_trans (step_bad _ _) (by omega), ?_⟩
    rw [scanTo, List.length_append]
    have : (foundS (scanTo xs i).1 (xs.getD i 0)).toList.length ≤ 1 := by cases foundS (scanTo xs i).1 (xs.getD i 0) <;> simp
    show _ + _ ≤ _
    omega

/-- Appending a packet that was found. -/
theorem ownPks_add {B g h : Nat} {w w' : World} {v v' : Value} {ps : List Pkt} {cs : List Value} {p : Pkt} {a : Option Addr} {l cap : Nat}
    (h2 : PkCells w (fun b => (b = g ∨ b = h) ∨ some b = v.ownBlock) cs ps)
    (hl : p.pay.length = l) (hi : In w a p.pay) (hn : a = none → cap = 0) (he : ∀ q, a = some q → q.block ≠ g ∧ q.block ≠ h ∧ some q.block ≠ v.ownBlock)
    (h3 : w'.ownsRow B 24 5 v' (ps.length + 1) (cs ++ (pkC p.k p.c p.n p.v a l cap).toList)) (h4 : w.grownBy w' v.ownBlock) (h5 : v'.ownBlock = v.ownBlock ∨ v'.ownBlock = some w.heap.size) :
    OwnPks B (fun b => b = g ∨ b = h) w' v' (ps ++ [p]) := by
  refine ⟨_, by rw [List.length_append]; exact h3, ?_⟩
  have a1 := PkCells.add hl hi hn (fun _ q hq => fun hE => by
    have := he q hq
    rcases hE with (hE | hE) | hE
    · exact this.1 hE
    · exact this.2.1 hE
    · exact this.2.2 hE) h2
  have a2 : PkCells w (fun b => ((b = g ∨ b = h) ∨ some b = v.ownBlock) ∨ some b = v'.ownBlock) _ _ := a1.excl (fun k hk hE => by
    rcases hE with hE | hE
    · exact hE
    · rcases h5 with h5 | h5
      · rw [h5] at hE; exact .inr hE
      · rw [h5] at hE; cases hE; omega)
  have a3 := a2.keep (w' := w') (fun k hk hE => h4.block k hk (fun e => hE (.inl (.inr e))))
  exact a3.excl (fun k _ hE => by
    rcases hE with hE | hE
    · exact .inl (.inl hE)
    · exact .inr hE)

set_option maxRecDepth 100000 in
set_option maxHeartbeats 8000000 in
theorem scan_any (a : Option Addr) (n c : Nat) (xs : List Nat) (hn : xs.length = n) (hx : ∀ x ∈ xs, x < 256) (hbig : n ≤ 2000) (w : World) (hc : In w a xs) (hT : Crc.HasTab w) (hT2 : HasTab w) :
    Calls Tryd.prog 30 #[.slice a n c] w fun e w' => ∃ v, e = .returned (.tuple #[v, .int .i64 ((scanTo xs n).1.bad : Nat)]) ∧ OwnPks w.heap.size (fun _ => False) w' v (scanTo xs n).2 ∧ Below w.heap.size w w' := by
  have HT := box hT
  have HT2 := box hT2
  have HC := box hc
  have HX := box hx
  have HOK := box (scanTo_ok hx)
  obtain ⟨R, hR⟩ : ∃ R, scanTo xs n = R := ⟨_, rfl⟩
  have HR := box hR
  rw [hR]
  clear hT hT2 hc hx hR
  obtain ⟨i0, hi0, hz0, hz1, hz2⟩ := info_parts Tryd.infoPk
  go_enter Tryd.func30, Tryd.ntmps30
  go_wp2_with fail
  refine (new_any w).mono ?_
  rintro e w1 ⟨rfl, k, x1⟩
  have LG : w.heap.size + 1 < w1.heap.size := x1.lt
  have X := box x1
  obtain ⟨g, hg⟩ : ∃ g, w.heap.size + 1 = g := ⟨_, rfl⟩
  obtain ⟨h, hh⟩ : ∃ h, w.heap.size = h := ⟨_, rfl⟩
  have hgw : w.heap.size ≤ g := by omega
  have hhw : w.heap.size ≤ h := by omega
  have hg1 : g < w1.heap.size := by omega
  have hh1 : h < w1.heap.size := by omega
  rw [hg, hh] at X
  rw [hg]
  clear x1 hg hh LG
  have KS := k.size
  go_wp2_with fail
  go_loopw [5, 13] (fun t5 t13 wr => ∃ i : Nat, i ≤ n ∧ t13 = .int .i64 i ∧ Box (ScAt wr g h (scanTo xs i).1) ∧ Box (OwnPks w1.heap.size (fun b => b = g ∨ b = h) wr t5 (scanTo xs i).2) ∧ Below w.heap.size w wr ∧ w1.heap.size ≤ wr.heap.size) (fun _ t13 _ => n - (intOf t13).toNat)
  case atStart => exact ⟨0, by omega, rfl, X, box ⟨[], World.ownsRow_nil _ _ _ _, rfl⟩, k, Nat.le_refl _⟩
  case round =>
    obtain ⟨i, hi, rfl, hsc, hps, kr, ks⟩ := hrel
    by_cases hlt : i < n
    · have hz : (i : Int) < (n : Int) := by omega
      have HOKi := box (HOK.out i (by omega))
      obtain ⟨b2, rfl, cx⟩ := in_some (HC.out.below kr) (show i < xs.length by omega)
      have lx := getD_lt HX.out (show i < xs.length by omega)
      have HS := box (show scanTo xs (i + 1) = (stepS (scanTo xs i).1 (xs.getD i 0), (scanTo xs i).2 ++ (foundS (scanTo xs i).1 (xs.getD i 0)).toList) from rfl)
      have PU := box (push_any g h (scanTo xs i).1 HOKi.out.1 (by have := HOKi.out.2.1; omega) (xs.getD i 0) lx wr hsc.out (HT.out.below kr) (HT2.out.below kr))
      have HL := box (HOKi.out.2.2)
      generalize scanTo xs i = st at hsc hps HS PU HL
      clear HOKi
      generalize xs.getD i 0 = y at cx lx HS PU
      obtain ⟨f, hf⟩ : ∃ f, foundS st.1 y = f := ⟨_, rfl⟩
      have HF := box hf
      rw [hf] at HS
      have PV : Box (Calls Tryd.prog 26 #[.pointer (some ⟨g, 0, none⟩), nU8 y] wr fun e w' => Apart g h wr w' ∧ ScAt w' g h (stepS st.1 y) ∧ PushRes f wr.heap.size e w') := box (PU.out.mono fun e w' h => by rw [← HF.out]; exact h)
      clear hf PU
      go_wp2_with fail
      refine PV.out.mono ?_
      rintro e w2 ⟨ap, x2, hres⟩
      have k2 := ap.below kr kr.size hgw hhw
      have ks2 : w1.heap.size ≤ w2.heap.size := Nat.le_trans ks ap.size
      have P2 := box (hps.out.apart hg1 hh1 ap)
      have X2 := box x2
      have LR := box ap.size
      clear x2 PV
      cases f with
      | none =>
        obtain rfl : e = .returned (.tuple #[pk0, .bool false]) := hres
        have hb := (Below.refl w2.heap.size w2).alloc (Nat.le_refl _) (.cells #[.int .u8 0, .int .i64 0, .int .i64 0, .int .i64 0, .slice none 0 0] 24)
        have k3 := k2.trans (hb.mono k2.size)
        have X3 := box (X2.out.keep hb)
        have P3 := box (P2.out.below hb)
        have ks3 := Nat.le_trans ks2 hb.size
        clear hb X2 P2 ap
        go_wp2_with fail
        go_roundw
        case rel => exact ⟨i + 1, by omega, by go_num, box (by rw [HS.out]; exact X3.out), box (by rw [HS.out]; simpa using P3.out), k3, ks3⟩
        case measure => simp [intOf]; omega
      | some p =>
        obtain ⟨pa, pl, pc, rfl, hpl, hpi, hpn, hpf⟩ := hres
        have HPI := box hpi
        have HPF := box hpf
        have HPN := box hpn
        have HPL := box hpl
        obtain ⟨pk, pcl, pn, pv, pp⟩ := p
        clear hpi hpf hpn hpl ap
        have kA := (Below.refl w2.heap.size w2).alloc (Nat.le_refl _) (.cells (pkC pk pcl pn pv pa pl pc) 24)
        have ksA : (w2.alloc (.cells (pkC pk pcl pn pv pa pl pc) 24)).heap.size = w2.heap.size + 1 := by show (w2.heap.push _).size = _; rw [Array.size_push]
        have kB := (Below.refl (w2.alloc (.cells (pkC pk pcl pn pv pa pl pc) 24)).heap.size _).alloc (Nat.le_refl _) (.cells (pkC pk pcl pn pv pa pl pc) 24)
        have X3 : Box (ScAt ((w2.alloc (.cells (pkC pk pcl pn pv pa pl pc) 24)).alloc (.cells (pkC pk pcl pn pv pa pl pc) 24)) g h (stepS st.1 y)) := box ((X2.out.keep kA).keep kB)
        have P3 := (P2.out.below kA).below kB
        have k3 : Below w.heap.size w ((w2.alloc (.cells (pkC pk pcl pn pv pa pl pc) 24)).alloc (.cells (pkC pk pcl pn pv pa pl pc) 24)) := k2.trans ((kA.trans (kB.mono kA.size)).mono k2.size)
        have ks3 : w1.heap.size ≤ ((w2.alloc (.cells (pkC pk pcl pn pv pa pl pc) 24)).alloc (.cells (pkC pk pcl pn pv pa pl pc) 24)).heap.size := Nat.le_trans ks2 (kA.trans (kB.mono kA.size)).size
        have HPI3 := box ((HPI.out.below kA).below kB)
        obtain ⟨cs, o3, c3⟩ := P3
        have O3 : Box (((w2.alloc (.cells (pkC pk pcl pn pv pa pl pc) 24)).alloc (.cells (pkC pk pcl pn pv pa pl pc) 24)).ownsRow w1.heap.size 24 5 u5 st.2.length cs) := box o3
        have C3 : Box (PkCells ((w2.alloc (.cells (pkC pk pcl pn pv pa pl pc) 24)).alloc (.cells (pkC pk pcl pn pv pa pl pc) 24)) (fun b => (b = g ∨ b = h) ∨ some b = u5.ownBlock) cs st.2) := box c3
        have HNEW := box (Crc.lit_at (w2.alloc (.cells (pkC pk pcl pn pv pa pl pc) 24)) (pkC pk pcl pn pv pa pl pc).toList 24 (w2.heap.size + 1) ksA.symm)
        have hob : ∀ q, u5.ownBlock = some q → q < wr.heap.size := by
          obtain ⟨cs', o', _⟩ := hps.out
          exact fun q hq => (row_blk o' q hq).2
        have HE := box (show ∀ q, pa = some q → q.block ≠ g ∧ q.block ≠ h ∧ some q.block ≠ u5.ownBlock from fun q hq => by
          have h1 := HPF.out q hq
          have h2 := kr.size
          refine ⟨by omega, by omega, fun e => ?_⟩
          have := hob _ e.symm
          omega)
        have hl9 : st.2.length ≤ 2000 := by have := HL.out; omega
        have GNE := box (show ∀ q, u5.ownBlock = some q → w1.heap.size ≤ q from fun q hq => (row_blk o3 q hq).1)
        clear kA kB ksA o3 c3 hob P2 X2
        obtain ⟨L, hL⟩ : ∃ L, st.2.length = L := ⟨_, rfl⟩
        have HLL := box hL
        rw [hL] at O3 hl9
        clear hL
        go_wp2_with (at_builtin; refine wpList_append_own_at (o := ⟨some 27, _, _, _, _, _⟩) _ rfl (.tmp 24) (.tmp 26) 49 rfl w1.heap.size 24 i0 pk0 5 56 Tryd.underlying49 hi0 hz0 hz1 hz2 rfl (by decide) u5 L cs rfl O3.out ⟨w2.heap.size + 1, 0, none⟩ 1 1 (pkC pk pcl pn pv pa pl pc).toList rfl rfl HNEW.out (by intro u hu; simp at hu; rcases hu with rfl | rfl | rfl | rfl | rfl <;> rfl) (by unfold maxLen; omega) (by omega) ks3 ?_; intro v4 w4 o4 g4 _ e4)
        have A4 := ownPks_add (g := g) (h := h) (ps := st.2) (p := ⟨pk, pcl, pn, pv, pp⟩) C3.out HPL.out HPI3.out HPN.out HE.out (by rw [HLL.out]; exact o4) g4 e4
        have k4 : Below w.heap.size w w4 := k3.grown g4 k3.size (fun q hq => Nat.le_trans KS (GNE.out q hq))
        have X4 : ScAt w4 g h (stepS st.1 y) := X3.out.same (g4.block g X3.out.lt (fun e => by have := GNE.out g e.symm; omega)) (g4.block h X3.out.lth (fun e => by have := GNE.out h e.symm; omega))
        go_roundw
        case rel => exact ⟨i + 1, by omega, by go_num, box (by rw [HS.out]; exact X4), box (by rw [HS.out]; exact A4), k4, Nat.le_trans ks3 g4.size⟩
        case measure => simp [intOf]; omega
    · obtain rfl : i = n := by omega
      have HRI := HR.out
      rw [HRI] at hsc hps
      obtain ⟨⟨i1, xs1, b1⟩, ps1⟩ := R
      have BA := box (bad_any g h _ wr hsc.out)
      clear HRI
      go_wp2_with fail
      refine BA.out.mono ?_
      rintro e w2 ⟨rfl, rfl⟩
      go_wp2_with fail
      refine bodyPost_ret (v := .tuple #[u5, .int .i64 (b1 : Nat)]) (by simp [results, Tryd.results30, go_sem]) rfl ⟨u5, rfl, hps.out.low KS, kr⟩
end Go.Proofs.YthfoakomapmkeaaDoor
/- What a scanner finds, as plain mathematics. -/
namespace Go.Proofs.YthfoakomapmkeaaDoor

/-- A scanner behind some symbols, and what it found in them. -/
def runS (s : Sc) : List Nat → Sc × List Pkt
  | [] => (s, [])
  | x :: xs => ((runS (stepS s x) xs).1, (foundS s x).toList ++ (runS (stepS s x) xs).2)
theorem runS_append : ∀ (xs ys : List Nat) (s : Sc), runS s (xs ++ ys) = ((runS (runS s xs).1 ys).1, (runS s xs).2 ++ (runS (runS s xs).1 ys).2)
  | [], ys, s => by simp [runS]
  | x :: xs, ys, s => by
    rw [List.cons_append, runS, runS, runS_append xs ys]
    simp
abbrev sc0 : Sc := ⟨false, [], 0⟩
theorem scanTo_run (xs : List Nat) : ∀ i ≤ xs.length, scanTo xs i = runS sc0 (xs.take i)
  | 0, _ => by simp [scanTo, runS]
  | i + 1, hi => by
    have h1 : xs.take (i + 1) = xs.take i ++ [xs.getD i 0] := by
      rw [List.take_add_one, List.getElem?_eq_getElem (by omega), List.getD_eq_getElem?_getD, List.getElem?_eq_getElem (by omega)]; rfl
    rw [h1, runS_append, scanTo, scanTo_run xs i (by omega)]
    simp [runS]
theorem scan_run {xs : List Nat} {n : Nat} (hn : xs.length = n) : scanTo xs n = runS sc0 xs := by
  rw [scanTo_run xs n (by omega), List.take_of_length_le (by omega)]

/-- Outside, without a start symbol. -/
theorem run_out (b : Nat) : ∀ zs : List Nat, (∀ z ∈ zs, z ≠ 49) → runS ⟨false, [], b⟩ zs = (⟨false, [], b⟩, [])
  | [], _ => rfl
  | z :: zs, h => by
    have h1 : stepS ⟨false, [], b⟩ z = ⟨false, [], b⟩ := by unfold stepS; rw [if_neg (h z List.mem_cons_self), if_pos rfl]
    have h2 : foundS ⟨false, [], b⟩ z = none := by unfold foundS; rw [if_neg (fun h => by cases h.2.1)]
    rw [runS, h1, h2, run_out b zs (fun y hy => h y (List.mem_cons_of_mem _ hy))]
    rfl
/-- Inside, data symbols. -/
theorem run_data (b : Nat) : ∀ (zs ys : List Nat), (∀ z ∈ zs, idx z < 16) → ys.length + zs.length ≤ 162 → runS ⟨true, ys, b⟩ zs = (⟨true, ys ++ zs, b⟩, [])
  | [], ys, _, _ => by simp [runS]
  | z :: zs, ys, h, hl => by
    have hz := h z List.mem_cons_self
    have n49 : z ≠ 49 := fun e => by rw [e, idx49] at hz; omega
    have n50 : z ≠ 50 := fun e => by rw [e, idx50] at hz; omega
    have h1 : stepS ⟨true, ys, b⟩ z = ⟨true, ys ++ [z], b⟩ := by
      unfold stepS
      rw [if_neg n49, if_neg (by simp), if_neg n50, if_pos hz, if_pos (by show ys.length < 162; simp at hl; omega)]
    have h2 : foundS ⟨true, ys, b⟩ z = none := by unfold foundS; rw [if_neg (fun h => n50 h.1)]
    rw [runS, h1, h2, run_data b zs (ys ++ [z]) (fun y hy => h y (List.mem_cons_of_mem _ hy)) (by simp at hl ⊢; omega)]
    simp
theorem syms_dat : ∀ i < 16, idx (syms.getD i 0) = i ∧ syms.getD i 0 < 256 ∧ syms.getD i 0 ≠ 49 ∧ syms.getD i 0 ≠ 50 := by decide +kernel
theorem enc_data {bs : List Nat} (hb : ∀ x ∈ bs, x < 256) : ∀ z ∈ enc bs, idx z < 16 ∧ z ≠ 49 ∧ z ≠ 50 := by
  intro z hz
  obtain ⟨j, hj, rfl⟩ := List.mem_iff_getElem.1 hz
  rw [enc_length] at hj
  obtain ⟨i, hi, he⟩ := enc_sym hb j hj
  rw [List.getD_eq_getElem?_getD, List.getElem?_eq_getElem (by rw [enc_length]; exact hj)] at he
  obtain ⟨h1, h2, h3, h4⟩ := syms_dat i hi
  simp only [Option.getD_some] at he
  rw [he]
  exact ⟨by omega, h3, h4⟩
/-- The symbols of a packet: it is found, whatever came before. -/
theorem run_packet (k c n v : Nat) (pay : List Nat) (hk : k < 256) (hp : ∀ x ∈ pay, x < 256) (hok : okP k c n v pay.length = true) (s : Sc) :
    runS s (symsP k c n v pay) = (⟨false, [], if s.ins then s.bad + 1 else s.bad⟩, [⟨k, c, n, v, pay⟩]) := by
  obtain ⟨_, _, c1, _, n1, _, v1, l1⟩ := of_decide_eq_true hok
  have hlt := bytesP_lt (n := n) (v := v) hk (show c < 256 by omega) hp (by omega)
  have hd := enc_data hlt
  have hlen : (enc (bytesP k c n v pay)).length = 2 * (17 + pay.length) := by rw [enc_length, bytesP_length]
  unfold symsP
  rw [runS_append, runS_append]
  have h49 : runS s [49] = (⟨true, [], if s.ins then s.bad + 1 else s.bad⟩, []) := by
    have h1 : stepS s 49 = ⟨true, [], if s.ins then s.bad + 1 else s.bad⟩ := by unfold stepS; rw [if_pos rfl]
    have h2 : foundS s 49 = none := by unfold foundS; rw [if_neg (fun h => by omega)]
    rw [runS, h1, h2]; rfl
  rw [h49]
  simp only [List.nil_append]
  rw [run_data _ _ [] (fun z hz => (hd z hz).1) (by rw [hlen]; simp; omega)]
  simp only [List.nil_append]
  have hb : bytesS (enc (bytesP k c n v pay)) = bytesP k c n v pay := by
    unfold bytesS
    rw [hlen, show 2 * (17 + pay.length) / 2 = (bytesP k c n v pay).length by rw [bytesP_length]; omega]
    exact dec_enc hlt
  have hg : goodS (enc (bytesP k c n v pay)) = true := by
    refine decide_eq_true ⟨by omega, ?_⟩
    rw [hb]; exact dec_bytes k c n v pay hok
  have hpk : pktB (bytesP k c n v pay) = ⟨k, c, n, v, pay⟩ := by
    obtain ⟨f0, f1, f2, f3, f4, f5⟩ := bytes_fields k c n v pay (by omega) (by omega)
    unfold pktB
    rw [f0, f1, f3, f4, bytesP_length, Nat.add_sub_cancel_left, f5]
  generalize (if s.ins = true then s.bad + 1 else s.bad) = b
  have h1 : stepS ⟨true, enc (bytesP k c n v pay), b⟩ 50 = ⟨false, [], b⟩ := by
    unfold stepS
    rw [if_neg (by omega), if_neg (by simp), if_pos rfl]
    simp only [hg, if_pos]
  have h2 : foundS ⟨true, enc (bytesP k c n v pay), b⟩ 50 = some ⟨k, c, n, v, pay⟩ := by
    unfold foundS
    rw [if_pos ⟨rfl, rfl, hg⟩]
    simp only [hb, hpk]
  rw [runS, h1, h2]
  rfl
/-- A symbol that is not valid, inside. -/
theorem run_no (ys : List Nat) (b z : Nat) (hz : idx z = 20) : runS ⟨true, ys, b⟩ [z] = (⟨false, [], b + 1⟩, []) := by
  have n49 : z ≠ 49 := fun e => by rw [e, idx49] at hz; omega
  have n50 : z ≠ 50 := fun e => by rw [e, idx50] at hz; omega
  have h1 : stepS ⟨true, ys, b⟩ z = ⟨false, [], b + 1⟩ := by
    unfold stepS
    rw [if_neg n49, if_neg (by simp), if_neg n50, if_neg (by omega)]
  have h2 : foundS ⟨true, ys, b⟩ z = none := by unfold foundS; rw [if_neg (fun h => n50 h.1)]
  rw [runS, h1, h2]; rfl
theorem set_split {xs : List Nat} {j : Nat} (hj : j < xs.length) (z : Nat) : xs.set j z = xs.take j ++ [z] ++ xs.drop (j + 1) := by
  rw [List.set_eq_take_append_cons_drop, if_pos hj]
  simp
theorem syms_valid (k c n v : Nat) (pay : List Nat) (hk : k < 256) (hc : c < 256) (hp : ∀ x ∈ pay, x < 256) (hl : pay.length ≤ 64) : ∀ y ∈ symsP k c n v pay, ∃ i < 20, y = syms.getD i 0 := by
  intro y hy
  unfold symsP at hy
  have hlt := bytesP_lt (n := n) (v := v) hk hc hp (by omega)
  rcases List.mem_append.1 hy with hy | hy
  · rcases List.mem_append.1 hy with hy | hy
    · simp at hy; exact ⟨16, by omega, by rw [hy]; rfl⟩
    · obtain ⟨j, hj, rfl⟩ := List.mem_iff_getElem.1 hy
      rw [enc_length] at hj
      obtain ⟨i, hi, he⟩ := enc_sym hlt j hj
      rw [List.getD_eq_getElem?_getD, List.getElem?_eq_getElem (by rw [enc_length]; exact hj)] at he
      exact ⟨i, by omega, he⟩
  · simp at hy; exact ⟨17, by omega, by rw [hy]; rfl⟩
/-- One inverted bit: the scanner is outside, and discarded one packet at most. -/
theorem run_flipped (k c n v : Nat) (pay : List Nat) (hk : k < 256) (hp : ∀ x ∈ pay, x < 256) (hok : okP k c n v pay.length = true) (q : Nat) (hq : q < 6 * (36 + 2 * pay.length)) :
    ∃ b, b ≤ 1 ∧ runS sc0 (flipS (symsP k c n v pay) q) = (⟨false, [], b⟩, []) := by
  obtain ⟨_, _, c1, _, n1, _, v1, l1⟩ := of_decide_eq_true hok
  have hlt := bytesP_lt (n := n) (v := v) hk (show c < 256 by omega) hp (by omega)
  have hd := enc_data hlt
  have hsl := symsP_length (k := k) (c := c) (n := n) (v := v) (pay := pay)
  have hj : q / 6 < (symsP k c n v pay).length := by omega
  obtain ⟨i, hi, he⟩ := syms_valid k c n v pay hk (by omega) hp l1 _ (List.getElem_mem hj)
  have hz : idx ((symsP k c n v pay).getD (q / 6) 0 ^^^ 2 ^ (5 - q % 6)) = 20 := by
    rw [List.getD_eq_getElem?_getD, List.getElem?_eq_getElem hj]
    simp only [Option.getD_some]
    rw [he]
    exact flip_bad i hi (5 - q % 6) (by omega)
  unfold flipS
  rw [set_split hj]
  generalize (symsP k c n v pay).getD (q / 6) 0 ^^^ 2 ^ (5 - q % 6) = z at hz
  have n49 : z ≠ 49 := fun e => by rw [e, idx49] at hz; omega
  clear he hi
  have hS : symsP k c n v pay = 49 :: (enc (bytesP k c n v pay) ++ [50]) := rfl
  have hlen : (enc (bytesP k c n v pay)).length = 2 * (17 + pay.length) := by rw [enc_length, bytesP_length]
  rw [hS] at hj hsl ⊢
  generalize enc (bytesP k c n v pay) = es at hd hlen hj hsl ⊢
  have tail : ∀ (j b : Nat), runS ⟨false, [], b⟩ ((49 :: (es ++ [50])).drop (j + 1)) = (⟨false, [], b⟩, []) := by
    intro j b
    refine run_out b _ (fun y hy => ?_)
    have hy := List.mem_of_mem_drop (i := j) (by simpa using hy)
    rcases List.mem_append.1 hy with hy | hy
    · exact (hd y hy).2.1
    · simp at hy; omega
  generalize q / 6 = j at hj ⊢
  cases j with
  | zero =>
    refine ⟨0, by omega, ?_⟩
    rw [runS_append, List.take_zero, List.nil_append, run_out 0 [z] (fun y hy => by simp at hy; rw [hy]; exact n49), tail]
    rfl
  | succ j =>
    refine ⟨1, by omega, ?_⟩
    have hin : runS sc0 ((49 :: (es ++ [50])).take (j + 1)) = (⟨true, (es ++ [50]).take j, 0⟩, []) := by
      have hjl : j ≤ es.length := by simp at hj; omega
      rw [List.take_succ_cons, List.take_append_of_le_length hjl]
      have h1 : stepS sc0 49 = ⟨true, [], 0⟩ := by unfold stepS; rw [if_pos rfl]; rfl
      have h2 : foundS sc0 49 = none := by unfold foundS; rw [if_neg (fun h => by omega)]
      rw [runS, h1, h2, run_data 0 _ [] (fun y hy => (hd y (List.mem_of_mem_take hy)).1) (by simp; omega)]
      rfl
    rw [runS_append, runS_append, hin]
    simp only [run_no _ 0 z hz, Nat.zero_add, tail]
    rfl
end Go.Proofs.YthfoakomapmkeaaDoor
