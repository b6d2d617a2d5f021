/- The scanner's end: its contract. -/
import Derived.Test.YthfoakomapmkeaaDoorFrBa
import Derived.Test.YthfoakomapmkeaaDoorFrH
namespace Go.Proofs.YthfoakomapmkeaaDoor
open Go.RowKit

theorem put5_heap {w : World} {q h : Nat} (e : h ≠ q) (y0 y1 y2 y3 y4 : Value) : (put5 w q y0 y1 y2 y3 y4).heap[h]? = w.heap[h]? := by
  simp only [put5]
  repeat rw [heap_setCell_other _ ⟨q, _, none⟩ h _ e]
theorem Pk5.far {w : World} {q r : Nat} {v0 v1 v2 v3 v4 : Value} (x : Pk5 w r v0 v1 v2 v3 v4) (e : q ≠ r) (y0 y1 y2 y3 y4 : Value) : Pk5 (put5 w q y0 y1 y2 y3 y4) r v0 v1 v2 v3 v4 :=
  ⟨(put5_cell e _ _ _ _ _).trans x.q0, (put5_cell e _ _ _ _ _).trans x.q1, (put5_cell e _ _ _ _ _).trans x.q2, (put5_cell e _ _ _ _ _).trans x.q3, (put5_cell e _ _ _ _ _).trans x.q4, fun j => by simp only [put5, World.frozen?_setCell]; exact x.zq j⟩
theorem ScAt.far {w : World} {g h q : Nat} {s : Sc} (x : ScAt w g h s) (e : q ≠ g) (e2 : q ≠ h) (y0 y1 y2 y3 y4 : Value) : ScAt (put5 w q y0 y1 y2 y3 y4) g h s :=
  ⟨(put5_cell e _ _ _ _ _).trans x.c0, (put5_cell e _ _ _ _ _).trans x.c1, (put5_cell e _ _ _ _ _).trans x.c2, fun j => by simp only [put5, World.frozen?_setCell]; exact x.fr j, own_blk x.own (put5_heap e2.symm _ _ _ _ _), x.ne⟩
theorem Apart.put5 {g h q : Nat} {w w' : World} (x : Apart g h w w') (hq : w.heap.size ≤ q) (y0 y1 y2 y3 y4 : Value) : Apart g h w (put5 w' q y0 y1 y2 y3 y4) := by
  have b := put5_below (q := q) (Below.refl q w') (Nat.le_refl _) y0 y1 y2 y3 y4
  exact ⟨b.os.trans x.os, b.tape.trans x.tape, b.output.trans x.output, Nat.le_trans x.size b.size, fun k hk h1 h2 => (put5_heap (by omega) _ _ _ _ _).trans (x.block k hk h1 h2)⟩
theorem ScAt.inn {w : World} {g h : Nat} {s : Sc} (x : ScAt w g h s) : In w (some ⟨h, 0, none⟩) s.syms := own_in rfl x.own

/-- The bytes that a packet's data symbols encode. -/
def bytesS (xs : List Nat) : List Nat := decTo xs (xs.length / 2)
/-- Are some data symbols those of a valid packet? -/
def goodS (xs : List Nat) : Bool := decide (xs.length % 2 = 0 ∧ decE (bytesS xs) = 0)
/-- The packet with some bytes. -/
def pktB (bs : List Nat) : Pkt := ⟨bs.getD 0 0, (bs.getD 1 0 : Nat), (numAt bs 2 : Nat), (numAt bs 7 : Nat), (bs.drop 13).take (bs.length - 17)⟩

/-- What the end of a packet answers. -/
def EndPost (g h : Nat) (xs : List Nat) (b : Nat) (w : World) (e : Ending) (w' : World) : Prop :=
  Apart g h w w' ∧ ScAt w' g h ⟨false, [], if goodS xs then b else b + 1⟩ ∧
  ((goodS xs = false ∧ e = .returned (.tuple #[pk0, .bool false])) ∨
   (goodS xs = true ∧ ∃ (a : Option Addr) (l c : Nat), e = .returned (.tuple #[pkV (pktB (bytesS xs)).k (pktB (bytesS xs)).c (pktB (bytesS xs)).n (pktB (bytesS xs)).v a l c, .bool true]) ∧ (pktB (bytesS xs)).pay.length = l ∧ In w' a (pktB (bytesS xs)).pay ∧ (a = none → c = 0) ∧ (∀ q, a = some q → w.heap.size ≤ q.block)))

set_option maxRecDepth 100000 in
set_option maxHeartbeats 8000000 in
theorem end_any (g h : Nat) (xs : List Nat) (b : Nat) (hb : b < 1000000) (hx : ∀ x ∈ xs, idx x < 16 ∧ x < 256) (hl : xs.length ≤ 162) (w : World) (x : ScAt w g h ⟨true, xs, b⟩) (hT : Crc.HasTab w) (hT2 : HasTab w) :
    Calls Tryd.prog 48 #[.pointer (some ⟨g, 0, none⟩)] w (EndPost g h xs b w) := by
  have HT := box hT
  have HT2 := box hT2
  have X := box x
  have LG := x.lt
  have LH := x.lth
  have NE := x.ne
  have HXL := box (fun y hy => (hx y hy).2 : ∀ y ∈ xs, y < 256)
  have HOK := box (show okTo xs xs.length from fun j hj => (hx _ (by rw [List.getD_eq_getElem?_getD, List.getElem?_eq_getElem hj]; exact List.getElem_mem hj)).1)
  clear hT hT2 x hx
  go_enter Tryd.func48, Tryd.ntmps48
  have kA := (Below.refl w.heap.size w).alloc (Nat.le_refl _) (.cells #[.int .u8 0, .int .i64 0, .int .i64 0, .int .i64 0, .slice none 0 0] 24)
  have ksA : (w.alloc (.cells #[.int .u8 0, .int .i64 0, .int .i64 0, .int .i64 0, .slice none 0 0] 24)).heap.size = w.heap.size + 1 := by show (w.heap.push _).size = _; rw [Array.size_push]
  have kB := (Below.refl (w.alloc (.cells #[.int .u8 0, .int .i64 0, .int .i64 0, .int .i64 0, .slice none 0 0] 24)).heap.size _).alloc (Nat.le_refl _) (.cells #[.int .u8 0, .int .i64 0, .int .i64 0, .int .i64 0, .slice none 0 0] 24)
  have XB : Box (ScAt ((w.alloc (.cells #[.int .u8 0, .int .i64 0, .int .i64 0, .int .i64 0, .slice none 0 0] 24)).alloc (.cells #[.int .u8 0, .int .i64 0, .int .i64 0, .int .i64 0, .slice none 0 0] 24)) g h ⟨true, xs, b⟩) := box ((X.out.keep kA).keep kB)
  have R : Box (Pk5 ((w.alloc (.cells #[.int .u8 0, .int .i64 0, .int .i64 0, .int .i64 0, .slice none 0 0] 24)).alloc (.cells #[.int .u8 0, .int .i64 0, .int .i64 0, .int .i64 0, .slice none 0 0] 24)) w.heap.size (nU8 0) (.int .i64 0) (.int .i64 0) (.int .i64 0) (.slice none 0 0)) := box ((pk5_new w 0 0 0 0 none 0 0 w.heap.size rfl).keep kB)
  have Q : Box (Pk5 ((w.alloc (.cells #[.int .u8 0, .int .i64 0, .int .i64 0, .int .i64 0, .slice none 0 0] 24)).alloc (.cells #[.int .u8 0, .int .i64 0, .int .i64 0, .int .i64 0, .slice none 0 0] 24)) (w.heap.size + 1) (nU8 0) (.int .i64 0) (.int .i64 0) (.int .i64 0) (.slice none 0 0)) := box (pk5_new (w.alloc (.cells #[.int .u8 0, .int .i64 0, .int .i64 0, .int .i64 0, .slice none 0 0] 24)) 0 0 0 0 none 0 0 (w.heap.size + 1) ksA.symm)
  have k : Below w.heap.size w ((w.alloc (.cells #[.int .u8 0, .int .i64 0, .int .i64 0, .int .i64 0, .slice none 0 0] 24)).alloc (.cells #[.int .u8 0, .int .i64 0, .int .i64 0, .int .i64 0, .slice none 0 0] 24)) := kA.trans (kB.mono kA.size)
  clear kA kB ksA
  obtain ⟨l, hxl⟩ : ∃ l, xs.length = l := ⟨_, rfl⟩
  have b1 := XB.out.c1
  simp only [hxl] at b1
  rw [hxl] at hl
  go_wp2_with fail
  clear b1
  change Calls _ _ _ ((w.alloc (.cells #[.int .u8 0, .int .i64 0, .int .i64 0, .int .i64 0, .slice none 0 0] 24)).alloc (.cells #[.int .u8 0, .int .i64 0, .int .i64 0, .int .i64 0, .slice none 0 0] 24)) _
  generalize (w.alloc (.cells #[.int .u8 0, .int .i64 0, .int .i64 0, .int .i64 0, .slice none 0 0] 24)).alloc (.cells #[.int .u8 0, .int .i64 0, .int .i64 0, .int .i64 0, .slice none 0 0] 24) = wB at XB R Q k ⊢
  refine (decode_any (some ⟨h, 0, none⟩) l 163 xs hxl HXL.out (by omega) wB XB.out.inn (HT2.out.below k)).mono ?_
  rintro e w2 ⟨hb2, hcase⟩
  replace k := k.trans (hb2.mono k.size)
  replace XB := box (XB.out.keep hb2)
  replace R := box (R.out.keep hb2)
  replace Q := box (Q.out.keep hb2)
  clear hb2
  have LQ : w.heap.size + 2 ≤ w2.heap.size := World.block_lt_of_cell? w2 ⟨w.heap.size + 1, 0, none⟩ Q.out.q0
  have rg : w.heap.size ≠ g := Nat.ne_of_gt LG
  have rh : w.heap.size ≠ h := Nat.ne_of_gt LH
  have qg : w.heap.size + 1 ≠ g := by omega
  have qh : w.heap.size + 1 ≠ h := by omega
  have qr : w.heap.size + 1 ≠ w.heap.size := by omega
  rcases hcase with ⟨i, hi, _, h16, _⟩ | ⟨_, hodd, rfl⟩ | ⟨_, heven, v, rfl, hown⟩
  · exact absurd (HOK.out i (by omega)) (by omega)
  · have hg : goodS xs = false := decide_eq_false (fun h => by omega)
    have HF := fun w' (ap : Apart g h w w') (x : ScAt w' g h ⟨false, [], b + 1⟩) => box (show EndPost g h xs b w (.returned (.tuple #[pk0, .bool false])) w' from ⟨ap, by rw [hg]; exact x, .inl ⟨hg, rfl⟩⟩)
    have KA := box (Apart.ofBelow (g := g) (h := h) k)
    clear hg hodd k
    go_wp2_with fail
    refine (discard_any g h _ hb w2 XB.out).mono ?_
    rintro e w4 ⟨rfl, x4, ap⟩
    have R4 := R.out.apart ap rg rh
    obtain ⟨r0, r1, r2, r3, r4, rz⟩ := R4
    have R5 := box (R.out.apart ap rg rh)
    go_wp2_with fail
    have Y := pk5_put R5.out (nU8 0) (.int .i64 0) (.int .i64 0) (.int .i64 0) (.slice none 0 0)
    have F := HF (put5 w4 w.heap.size (nU8 0) (.int .i64 0) (.int .i64 0) (.int .i64 0) (.slice none 0 0)) ((KA.out.trans ap).put5 (Nat.le_refl _) _ _ _ _ _) (x4.far rg rh _ _ _ _ _)
    change bodyPost _ _ _ _ _ (put5 w4 w.heap.size (nU8 0) (.int .i64 0) (.int .i64 0) (.int .i64 0) (.slice none 0 0))
    generalize put5 w4 w.heap.size (nU8 0) (.int .i64 0) (.int .i64 0) (.int .i64 0) (.slice none 0 0) = w5 at Y F ⊢
    clear r0 r1 r2 r3 r4 rz
    obtain ⟨z0, z1, z2, z3, z4, _⟩ := Y
    exact bodyPost_ret (v := .tuple #[pk0, .bool false]) (by simp [results, Tryd.results48, go_sem, z0, z1, z2, z3, z4]) rfl F.out
  · obtain ⟨bs, hbs⟩ : ∃ bs, decTo xs (l / 2) = bs := ⟨_, rfl⟩
    have hbl : bs.length = l / 2 := by rw [← hbs, decTo_length]
    have HBL := box (show ∀ x ∈ bs, x < 256 from by rw [← hbs]; exact decTo_lt (fun j hj => HOK.out j (by omega)))
    have hgd : goodS xs = decide (decE bs = 0) := by unfold goodS bytesS; rw [hxl, hbs]; simp [heven]
    have hps : bytesS xs = bs := by unfold bytesS; rw [hxl, hbs]
    have HG := box hgd
    have HPS := box hps
    rw [hbs] at hown
    obtain ⟨ba, bc, rfl, hbi, _, hbc⟩ := own_form hbl hown
    have HBI := box hbi
    have HBIG := box (show l / 2 ≤ 10000 by omega)
    clear hbs hown hgd hps hbi heven
    obtain ⟨m, hm⟩ : ∃ m, l / 2 = m := ⟨_, rfl⟩
    rw [hm] at hbl hbc HBIG ⊢
    clear hm
    go_wp2_with fail
    refine (fdec_any ba m bc bs hbl HBL.out HBIG.out hbc w2 HBI.out (HT.out.below k)).mono ?_
    rintro e w3 ⟨hb3, hcase⟩
    have LW := k.size
    replace k := k.trans (hb3.mono k.size)
    replace XB := box (XB.out.keep hb3)
    replace R := box (R.out.keep hb3)
    replace Q := box (Q.out.keep hb3)
    clear hb3
    have KA := box (Apart.ofBelow (g := g) (h := h) k)
    rcases hcase with ⟨hne, rfl⟩ | ⟨h0, a9, c9, rfl, hi9, hn9, hc9, hf9⟩
    · obtain ⟨r, hr⟩ : ∃ r, decE bs = r := ⟨_, rfl⟩
      rw [hr] at hne ⊢
      have hg : goodS xs = false := by rw [HG.out]; exact decide_eq_false (by omega)
      have HF := fun w' (ap : Apart g h w w') (x : ScAt w' g h ⟨false, [], b + 1⟩) => box (show EndPost g h xs b w (.returned (.tuple #[pk0, .bool false])) w' from ⟨ap, by rw [hg]; exact x, .inl ⟨hg, rfl⟩⟩)
      have dn : ((r : Int) != 0) = true := by simp; omega
      obtain ⟨q0, q1, q2, q3, q4, qz⟩ := Q.out
      clear hg hr
      go_wp2_with fail
      have XP := XB.out.far qg qh (nU8 0) (.int .i64 0) (.int .i64 0) (.int .i64 0) (.slice none 0 0)
      have RP := R.out.far qr (nU8 0) (.int .i64 0) (.int .i64 0) (.int .i64 0) (.slice none 0 0)
      have KP := KA.out.put5 (q := w.heap.size + 1) (by omega) (nU8 0) (.int .i64 0) (.int .i64 0) (.int .i64 0) (.slice none 0 0)
      change Calls _ _ _ (put5 w3 (w.heap.size + 1) (nU8 0) (.int .i64 0) (.int .i64 0) (.int .i64 0) (.slice none 0 0)) _
      generalize put5 w3 (w.heap.size + 1) (nU8 0) (.int .i64 0) (.int .i64 0) (.int .i64 0) (.slice none 0 0) = wP at XP RP KP ⊢
      clear q0 q1 q2 q3 q4 qz
      refine (discard_any g h _ hb wP XP).mono ?_
      rintro e w4 ⟨rfl, x4, ap⟩
      obtain ⟨r0, r1, r2, r3, r4, rz⟩ := RP.apart ap rg rh
      have R5 := box (RP.apart ap rg rh)
      have K5 := box (KP.trans ap)
      clear RP XP KP
      go_wp2_with fail
      have Y := pk5_put R5.out (nU8 0) (.int .i64 0) (.int .i64 0) (.int .i64 0) (.slice none 0 0)
      have F := HF (put5 w4 w.heap.size (nU8 0) (.int .i64 0) (.int .i64 0) (.int .i64 0) (.slice none 0 0)) (K5.out.put5 (Nat.le_refl _) _ _ _ _ _) (x4.far rg rh _ _ _ _ _)
      change bodyPost _ _ _ _ _ (put5 w4 w.heap.size (nU8 0) (.int .i64 0) (.int .i64 0) (.int .i64 0) (.slice none 0 0))
      generalize put5 w4 w.heap.size (nU8 0) (.int .i64 0) (.int .i64 0) (.int .i64 0) (.slice none 0 0) = w5 at Y F ⊢
      clear r0 r1 r2 r3 r4 rz
      obtain ⟨z0, z1, z2, z3, z4, _⟩ := Y
      exact bodyPost_ret (v := .tuple #[pk0, .bool false]) (by simp [results, Tryd.results48, go_sem, z0, z1, z2, z3, z4]) rfl F.out
    · have hg : goodS xs = true := by rw [HG.out]; exact decide_eq_true h0
      rw [hbl] at hc9 ⊢
      have HPK := box (show pktB (bytesS xs) = ⟨bs.getD 0 0, (bs.getD 1 0 : Nat), (numAt bs 2 : Nat), (numAt bs 7 : Nat), (bs.drop 13).take (m - 17)⟩ from by rw [HPS.out]; unfold pktB; rw [hbl])
      have h17 := (bytes_dec HBL.out h0).2.1
      rw [hbl] at h17 hi9
      have hpl : ((bs.drop 13).take (m - 17)).length = m - 17 := by simp; omega
      generalize bs.getD 0 0 = p0 at HPK ⊢
      generalize bs.getD 1 0 = p1 at HPK ⊢
      generalize numAt bs 2 = p2 at HPK ⊢
      generalize numAt bs 7 = p3 at HPK ⊢
      generalize (bs.drop 13).take (m - 17) = py at HPK hi9 hpl
      generalize m - 17 = t at hpl hc9 ⊢
      have HF := fun w' (ap : Apart g h w w') (x : ScAt w' g h ⟨false, [], b⟩) (hi : In w' a9 py) => box (show EndPost g h xs b w (.returned (.tuple #[pkV p0 p1 p2 p3 a9 t c9, .bool true])) w' from ⟨ap, by rw [hg]; exact x, .inr ⟨hg, by rw [HPK.out]; exact ⟨a9, t, c9, rfl, hpl, hi, hn9, fun q hq => Nat.le_trans LW (hf9 q hq)⟩⟩⟩)
      have HI9 := box hi9
      have W2 : w.heap.size + 1 < w2.heap.size := LQ
      have HF9 := box hf9
      obtain ⟨q0, q1, q2, q3, q4, qz⟩ := Q.out
      clear hg hf9 hi9
      go_wp2_with fail
      have QA := fun (q : Addr) (hq : a9 = some q) => Nat.le_trans LQ (HF9.out q hq)
      have XP := XB.out.far qg qh (nU8 p0) (.int .i64 p1) (.int .i64 p2) (.int .i64 p3) (.slice a9 t c9)
      have RP := R.out.far qr (nU8 p0) (.int .i64 p1) (.int .i64 p2) (.int .i64 p3) (.slice a9 t c9)
      have QP := pk5_put Q.out (nU8 p0) (.int .i64 p1) (.int .i64 p2) (.int .i64 p3) (.slice a9 t c9)
      have KP := KA.out.put5 (q := w.heap.size + 1) (by omega) (nU8 p0) (.int .i64 p1) (.int .i64 p2) (.int .i64 p3) (.slice a9 t c9)
      have IP := put5_in HI9.out (w.heap.size + 1) (nU8 p0) (.int .i64 p1) (.int .i64 p2) (.int .i64 p3) (.slice a9 t c9) (fun q hq => by have := QA q hq; omega)
      change Calls _ _ _ (put5 w3 (w.heap.size + 1) (nU8 p0) (.int .i64 p1) (.int .i64 p2) (.int .i64 p3) (.slice a9 t c9)) _
      generalize put5 w3 (w.heap.size + 1) (nU8 p0) (.int .i64 p1) (.int .i64 p2) (.int .i64 p3) (.slice a9 t c9) = wP at XP RP QP KP IP ⊢
      clear q0 q1 q2 q3 q4 qz
      refine (leave_any g h _ wP XP).mono ?_
      rintro e w4 ⟨rfl, x4, ap⟩
      obtain ⟨r0, r1, r2, r3, r4, rz⟩ := RP.apart ap rg rh
      have R5 := box (RP.apart ap rg rh)
      obtain ⟨q0, q1, q2, q3, q4, qz⟩ := QP.apart ap qg qh
      have K5 := box (KP.trans ap)
      have I5 := box (ap.inn IP (fun q hq => ⟨by have := QA q hq; omega, by have := QA q hq; omega⟩))
      clear RP XP KP QP IP
      go_wp2_with fail
      have Y := pk5_put R5.out (nU8 p0) (.int .i64 p1) (.int .i64 p2) (.int .i64 p3) (.slice a9 t c9)
      have F := HF (put5 w4 w.heap.size (nU8 p0) (.int .i64 p1) (.int .i64 p2) (.int .i64 p3) (.slice a9 t c9)) (K5.out.put5 (Nat.le_refl _) _ _ _ _ _) (x4.far rg rh _ _ _ _ _) (put5_in I5.out w.heap.size (nU8 p0) (.int .i64 p1) (.int .i64 p2) (.int .i64 p3) (.slice a9 t c9) (fun q hq => by have := QA q hq; omega))
      change bodyPost _ _ _ _ _ (put5 w4 w.heap.size (nU8 p0) (.int .i64 p1) (.int .i64 p2) (.int .i64 p3) (.slice a9 t c9))
      generalize put5 w4 w.heap.size (nU8 p0) (.int .i64 p1) (.int .i64 p2) (.int .i64 p3) (.slice a9 t c9) = w5 at Y F ⊢
      clear r0 r1 r2 r3 r4 rz q0 q1 q2 q3 q4 qz
      obtain ⟨z0, z1, z2, z3, z4, _⟩ := Y
      exact bodyPost_ret (v := .tuple #[pkV p0 p1 p2 p3 a9 t c9, .bool true]) (by simp [results, Tryd.results48, go_sem, z0, z1, z2, z3, z4]) rfl F.out
end Go.Proofs.YthfoakomapmkeaaDoor
