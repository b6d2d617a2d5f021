/- The scanner in memory, New, and the law's awake. -/
import Derived.Test.YthfoakomapmkeaaDoorFrU
import Derived.Test.YthfoakomapmkeaaDoorFrG
import Derived.Test.YthfoakomapmkeaaDoorFrW
import Derived.Deep.DeepAppendRoom
namespace Go.Proofs.YthfoakomapmkeaaDoor
open Go.RowKit

/-- All but two blocks is as it was. -/
structure Apart (g h : Nat) (w w' : World) : Prop where
  os : w'.os = w.os
  tape : w'.tape = w.tape
  output : w'.output = w.output
  size : w.heap.size ≤ w'.heap.size
  block : ∀ k, k < w.heap.size → k ≠ g → k ≠ h → w'.heap[k]? = w.heap[k]?
theorem Apart.refl (g h : Nat) (w : World) : Apart g h w w := ⟨rfl, rfl, rfl, Nat.le_refl _, fun _ _ _ _ => rfl⟩
theorem Apart.trans {g h : Nat} {a b c : World} (x : Apart g h a b) (y : Apart g h b c) : Apart g h a c :=
  ⟨y.os.trans x.os, y.tape.trans x.tape, y.output.trans x.output, Nat.le_trans x.size y.size, fun k hk h1 h2 => (y.block k (Nat.lt_of_lt_of_le hk x.size) h1 h2).trans (x.block k hk h1 h2)⟩
theorem Apart.ofBelow {g h : Nat} {w w' : World} (hb : Below w.heap.size w w') : Apart g h w w' := ⟨hb.os, hb.tape, hb.output, hb.size, fun k hk _ _ => hb.block k hk⟩
theorem Apart.ofGrown {g h : Nat} {w w' : World} (hb : w.grownBy w' (some h)) : Apart g h w w' := ⟨hb.os, hb.tape, hb.output, hb.size, fun k hk _ h2 => hb.block k hk (fun e => h2 (Option.some.inj e))⟩
theorem Apart.setCell {g h : Nat} {w w' : World} (x : Apart g h w w') (j : Nat) (v : Value) : Apart g h w (w'.setCell ⟨g, j, none⟩ v) := by
  have e := (Below.refl g w').setCell (p := ⟨g, j, none⟩) (Nat.le_refl _) v
  refine ⟨e.os.trans x.os, e.tape.trans x.tape, e.output.trans x.output, Nat.le_trans x.size e.size, fun k hk h1 h2 => ?_⟩
  rw [← x.block k hk h1 h2]
  exact Below.heap_setCell w' ⟨g, j, none⟩ v k h1
theorem Apart.cell {g h : Nat} {w w' : World} (x : Apart g h w w') {a : Addr} {v : Value} (hc : w.cell? a = some v) (h1 : a.block ≠ g) (h2 : a.block ≠ h) : w'.cell? a = some v :=
  (World.cell?_of_block (x.block _ (World.block_lt_of_cell? w a hc) h1 h2)).trans hc
theorem Apart.frozen {g h : Nat} {w w' : World} (x : Apart g h w w') {a : Addr} (hc : a.block < w.heap.size) (h1 : a.block ≠ g) (h2 : a.block ≠ h) : w'.frozen? a = w.frozen? a :=
  World.frozen?_of_block (x.block _ hc h1 h2)
theorem Apart.inn {g h : Nat} {w w' : World} (x : Apart g h w w') {a : Option Addr} {xs : List Nat} (hi : In w a xs) (hn : ∀ b, a = some b → b.block ≠ g ∧ b.block ≠ h) : In w' a xs := by
  rcases hi with hi | ⟨b, rfl, hi⟩
  · exact .inl hi
  · refine .inr ⟨b, rfl, fun i hj => x.cell (hi i hj) ?_ ?_⟩
    · unfold Addr.add; split <;> exact (hn b rfl).1
    · unfold Addr.add; split <;> exact (hn b rfl).2
theorem Apart.below {g h B : Nat} {w0 w w' : World} (x : Apart g h w w') (hb : Below B w0 w) (hB : B ≤ w.heap.size) (hg : B ≤ g) (hh : B ≤ h) : Below B w0 w' :=
  ⟨x.os.trans hb.os, x.tape.trans hb.tape, x.output.trans hb.output, Nat.le_trans hb.size x.size, fun k hk => (x.block k (by omega) (by omega) (by omega)).trans (hb.block k hk)⟩

/-- A scanner's state: inside or not, its data symbols, how many packets it discarded. -/
structure Sc where
  ins : Bool
  syms : List Nat
  bad : Nat
/-- A scanner in memory. -/
structure ScAt (w : World) (g h : Nat) (s : Sc) : Prop where
  c0 : w.cell? ⟨g, 0, none⟩ = some (.bool s.ins)
  c1 : w.cell? ⟨g, 1, none⟩ = some (.slice (some ⟨h, 0, none⟩) s.syms.length 163)
  c2 : w.cell? ⟨g, 2, none⟩ = some (.int .i64 s.bad)
  fr : ∀ j, w.frozen? ⟨g, j, none⟩ = false
  own : Own h w (.slice (some ⟨h, 0, none⟩) s.syms.length 163) s.syms.length s.syms
  ne : g ≠ h
theorem ScAt.keep {w w' : World} {g h : Nat} {s : Sc} (x : ScAt w g h s) (hb : Below w.heap.size w w') : ScAt w' g h s :=
  ⟨keepc hb x.c0, keepc hb x.c1, keepc hb x.c2, fun j => by rw [hb.frozen (p := ⟨g, j, none⟩) (show g < w.heap.size from World.block_lt_of_cell? w ⟨g, 0, none⟩ x.c0)]; exact x.fr j, own_later x.own hb, x.ne⟩
theorem ScAt.lt {w : World} {g h : Nat} {s : Sc} (x : ScAt w g h s) : g < w.heap.size := World.block_lt_of_cell? w ⟨g, 0, none⟩ x.c0
theorem ScAt.lth {w : World} {g h : Nat} {s : Sc} (x : ScAt w g h s) : h < w.heap.size := by
  obtain ⟨_, hc⟩ := x.own
  rcases hc with ⟨h0, _⟩ | ⟨g', cap, cur, hv, _, hh, _⟩
  · cases h0
  · cases hv
    exact (Array.getElem?_eq_some_iff.1 hh).1

set_option maxRecDepth 100000 in
set_option maxHeartbeats 8000000 in
theorem new_any (w : World) :
    Calls Tryd.prog 25 #[] w fun e w' => e = .returned (.pointer (some ⟨w.heap.size + 1, 0, none⟩)) ∧ Below w.heap.size w w' ∧ ScAt w' (w.heap.size + 1) w.heap.size ⟨false, [], 0⟩ := by
  obtain ⟨i0, hi, hz0, hz1, hz2⟩ := info_parts Tryd.infoU8
  have hmk := run_make (P := Tryd.prog) w 22 5 i0 (.int .u8 0) Tryd.underlying22 hi hz0 .i64 .i64 0 163 (by omega) (by omega) (by rw [hz2]; omega) (by omega)
  rw [hz1] at hmk
  replace hmk := hmk.trans (show _ = .ok (.slice (some ⟨w.heap.size, 0, none⟩) 0 163) (w.alloc (.cells (madeCells #[Value.int .u8 0] 163) 5)) from rfl)
  have kb : Below w.heap.size w (w.alloc (.cells (madeCells #[Value.int .u8 0] 163) 5)) := (Below.refl _ _).alloc (Nat.le_refl _) _
  have HO : Box (Own w.heap.size (w.alloc (.cells (madeCells #[Value.int .u8 0] 163) 5)) (.slice (some ⟨w.heap.size, 0, none⟩) 0 163) 0 []) := box (World.ownsRow_made w _ _ (Nat.le_refl _) (by unfold maxLen; omega) (by rw [size_madeCells]))
  have ks : (w.alloc (.cells (madeCells #[Value.int .u8 0] 163) 5)).heap.size = w.heap.size + 1 := by show (w.heap.push _).size = _; rw [Array.size_push]
  generalize w.alloc (.cells (madeCells #[Value.int .u8 0] 163) 5) = w1 at hmk kb HO ks
  have KS := box ks
  go_enter Tryd.func25, Tryd.ntmps25
  go_wp2_with fail
  go_ret
  have kb2 : Below w1.heap.size w1 (w1.alloc (.cells #[.bool false, .slice (some ⟨w.heap.size, 0, none⟩) 0 163, .int .i64 0] 74)) := (Below.refl _ _).alloc (Nat.le_refl _) _
  have d0 := World.cell?_alloc_mark w1 #[.bool false, .slice (some ⟨w.heap.size, 0, none⟩) 0 163, .int .i64 0] 74 (0, 0) 0
  have d1 := World.cell?_alloc_mark w1 #[.bool false, .slice (some ⟨w.heap.size, 0, none⟩) 0 163, .int .i64 0] 74 (0, 0) 1
  have d2 := World.cell?_alloc_mark w1 #[.bool false, .slice (some ⟨w.heap.size, 0, none⟩) 0 163, .int .i64 0] 74 (0, 0) 2
  have d3 : ∀ j, (w1.alloc (.cells #[.bool false, .slice (some ⟨w.heap.size, 0, none⟩) 0 163, .int .i64 0] 74)).frozen? ⟨w1.heap.size, j, none⟩ = false := fun j => by
    unfold World.frozen?
    have h : (w1.alloc (.cells #[.bool false, .slice (some ⟨w.heap.size, 0, none⟩) 0 163, .int .i64 0] 74)).heap[w1.heap.size]? = some (.cells #[.bool false, .slice (some ⟨w.heap.size, 0, none⟩) 0 163, .int .i64 0] 74) := by show (w1.heap.push _)[w1.heap.size]? = _; simp
    rw [show (⟨w1.heap.size, j, none⟩ : Addr).block = w1.heap.size from rfl, h]
    simp
  rw [ks] at d0 d1 d2 d3
  exact ⟨rfl, kb.trans (kb2.mono kb.size), ⟨d0, d1, d2, d3, own_later HO.out kb2, Nat.succ_ne_self _⟩⟩

theorem in_take {w : World} {a : Option Addr} {xs : List Nat} (h : In w a xs) (k : Nat) : In w a (xs.take k) := by
  rcases h with rfl | ⟨b, rfl, h⟩
  · exact .inl (List.take_nil)
  · refine .inr ⟨b, rfl, fun i hi => ?_⟩
    rw [List.length_take] at hi
    rw [h i (by omega), take_getD _ _ _ (by omega)]

set_option maxRecDepth 100000 in
set_option maxHeartbeats 8000000 in
theorem awake_any (w : World) (hT : Crc.HasTab w) (hT2 : HasTab w) :
    Calls Tryd.prog 13 #[] w fun e w' => e = .returned (.bool true) ∧ Below w.heap.size w w' := by
  have HT := box hT
  have HT2 := box hT2
  clear hT hT2
  have hok : okP 2 (1 : Nat) (258 : Nat) (3 : Nat) 1 = true := by decide
  go_enter Tryd.func13, Tryd.ntmps13
  go_wp2_with fail
  have ks : (w.alloc (.cells #[Value.int .u8 9] 5)).heap.size = w.heap.size + 1 := by show (w.heap.push _).size = _; rw [Array.size_push]
  have kb1 : Below w.heap.size w (w.alloc (.cells #[Value.int .u8 9] 5)) := (Below.refl _ _).alloc (Nat.le_refl _) _
  have HI : Box (In (w.alloc (.cells #[Value.int .u8 9] 5)) (some ⟨w.heap.size, 0, none⟩) [9]) := box (in_mark w [9] 5 (0, 0) _ rfl)
  generalize w.alloc (.cells #[Value.int .u8 9] 5) = w1 at ks kb1 HI ⊢
  have P := pk5_new w1 2 (1 : Nat) (258 : Nat) (3 : Nat) (some ⟨w.heap.size, 0, none⟩) 1 1 (w.heap.size + 1) ks.symm
  have kb2 : Below w1.heap.size w1 (w1.alloc (.cells (pkC 2 (1 : Nat) (258 : Nat) (3 : Nat) (some ⟨w.heap.size, 0, none⟩) 1 1) 24)) := (Below.refl _ _).alloc (Nat.le_refl _) _
  have HI2 := box (HI.out.below kb2)
  have kw := kb1.trans (kb2.mono kb1.size)
  change Calls _ _ #[pkV 2 (1 : Nat) (258 : Nat) (3 : Nat) (some ⟨w.heap.size, 0, none⟩) 1 1] (w1.alloc (.cells (pkC 2 (1 : Nat) (258 : Nat) (3 : Nat) (some ⟨w.heap.size, 0, none⟩) 1 1) 24)) _
  generalize w1.alloc (.cells (pkC 2 (1 : Nat) (258 : Nat) (3 : Nat) (some ⟨w.heap.size, 0, none⟩) 1 1) 24) = w2 at P kb2 HI2 kw ⊢
  have PB := box P
  clear P kb1 kb2 HI ks
  refine (fencode_pk 2 1 258 3 _ 1 1 [9] rfl (by omega) hok (by simp) (fun h => by cases h) w2 HI2.out (HT.out.below kw)).mono ?_
  rintro e w3 ⟨u, rfl, ho, hb⟩
  obtain ⟨ua, uc, rfl, hin, hnil, hcap, _⟩ := own_form2 (n := 17 + 1) (by simp [bytesP_length]) ho
  have HB := box (in_take hin 14)
  have kw3 := kw.trans (hb.mono kw.size)
  have PB3 := box (PB.out.keep hb)
  have HI3 := box (HI2.out.below hb)
  have ua' : ∃ g, ua = some g := by
    rcases hin with h | ⟨g, h, _⟩
    · have := congrArg List.length h; rw [bytesP_length] at this; simp at this
    · exact ⟨g, h⟩
  obtain ⟨g, rfl⟩ := ua'
  clear ho hin hnil hb PB HI2
  obtain ⟨q0, q1, q2, q3, q4, zq⟩ := PB3.out
  go_wp2_with fail
  refine (fsymbols_pk 2 1 258 3 _ 1 1 [9] rfl (by omega) hok (by simp) (fun h => by cases h) w3 HI3.out (HT.out.below kw3) (HT2.out.below kw3)).mono ?_
  rintro e w4 ⟨u, rfl, ho, hb⟩
  obtain ⟨va, vc, rfl, hin, _, _⟩ := own_form (n := 36 + 2 * 1) (by simp [symsP_length]) ho
  have HB4 := box (HB.out.below hb)
  have kw4 := kw3.trans (hb.mono kw3.size)
  clear ho hin hb HB q0 q1 q2 q3 q4 zq PB3 HI3
  have hc14 : (14 : Int) ≤ (uc : Int) := by omega
  go_wp2_with fail
  have kl : Below w4.heap.size w4 (w4.alloc (.cells (([2, 1, 0, 0, 0, 1, 2, 0, 0, 0, 0, 3, 1, 9] : List Nat).map nU8).toArray 5)) := (Below.refl _ _).alloc (Nat.le_refl _) _
  have HL := in_mark w4 [2, 1, 0, 0, 0, 1, 2, 0, 0, 0, 0, 3, 1, 9] 5 (0, 0) _ rfl
  have EQ := equal_any (some g) (some ⟨w4.heap.size, 0, none⟩) 14 14 uc 14 ((bytesP 2 1 258 3 [9]).take 14) [2, 1, 0, 0, 0, 1, 2, 0, 0, 0, 0, 3, 1, 9] (by simp [bytesP_length]) rfl (fun x h => bytesP_lt (by omega) (by omega) (by simp) (by simp) x (List.mem_of_mem_take h)) (by decide) (by omega) (by omega) _ (HB4.out.below kl) HL true (decide_eq_true (by unfold bytesP; rw [List.take_append_of_le_length (by decide)]; decide))
  refine EQ.mono ?_
  rintro e w5 ⟨rfl, t, rfl⟩
  have kw5 := kw4.trans ((kl.trans ((drewN_below _ t).mono kl.size)).mono kw4.size)
  clear HL EQ HB4
  go_wp2_with fail
  refine (new_any _).mono ?_
  rintro e w6 ⟨rfl, hb6, _⟩
  have kw6 := kw5.trans (hb6.mono kw5.size)
  go_wp2_with fail
  go_ret
  exact ⟨by simp, kw6⟩
end Go.Proofs.YthfoakomapmkeaaDoor
