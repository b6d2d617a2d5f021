/- frame.Decode: its contracts where the packet is not read. -/
import Derived.Test.YthfoakomapmkeaaDoorFrU
import Derived.Test.YthfoakomapmkeaaDoorFrF
import Derived.Test.YthfoakomapmkeaaDoorCrcS
import Derived.Test.YthfoakomapmkeaaDoorCrcQ
import Derived.Laws.IdiomCopy
import Derived.Laws.BitsLemmas
namespace Go.Proofs.YthfoakomapmkeaaDoor
open Go.RowKit

theorem or_shift (q x : Nat) (hq : q < 1099511627776) (hx : x < 256) : bits .or .i64 ((q : Int) * 256) (x : Int) = ((256 * q + x : Nat) : Int) := by
  have h := bits_join .i64 63 (by decide) (fun n h0 h1 => by rw [IntKind.wrap_i64]; omega) 8 ((q : Int) * 256) (x : Int) (by omega) (by omega) (by omega) (by omega) (by omega) (by omega)
  rw [h]; omega

set_option maxHeartbeats 4000000 in
theorem readnum_any (b : Addr) (m c : Nat) (xs : List Nat) (hm : xs.length = m) (h5 : 5 ≤ m) (hx : ∀ x ∈ xs, x < 256) (w : World) (hc : At w b xs) :
    Calls Tryd.prog 44 #[.slice (some b) m c] w fun e w' => e = .returned (.int .i64 (numTo xs 5 : Nat)) ∧ w = w' := by
  have HX := box hx
  have HC := box hc
  obtain ⟨r, hr⟩ : ∃ r, numTo xs 5 = r := ⟨_, rfl⟩
  have HR := box hr
  rw [hr]
  clear hx hc hr
  go_enter Tryd.func44, Tryd.ntmps44
  go_wp2_with fail
  go_loop [3, 5] (fun t3 t5 => ∃ j q : Nat, j ≤ 5 ∧ t5 = .int .i64 j ∧ t3 = .int .i64 q ∧ q < 1099511627776 ∧ Box (numTo xs j = q)) (fun _ t5 => 5 - (intOf t5).toNat)
  case atStart => exact ⟨0, 0, by omega, rfl, rfl, by omega, box rfl⟩
  case round =>
    obtain ⟨j, q, hj, rfl, rfl, hq, hnum⟩ := hrel
    by_cases hlt : j < 5
    · have c1 := HC.out j (by omega)
      have HN := box (show numTo xs (j + 1) = 256 * q + xs.getD j 0 by simp only [numTo]; rw [hnum.out])
      have lx : xs.getD j 0 < 256 := by rw [List.getD_eq_getElem?_getD, List.getElem?_eq_getElem (by omega)]; exact HX.out _ (List.getElem_mem _)
      have lq : numTo xs (j + 1) < 1099511627776 := by
        have h1 := numTo_lt HX.out (j + 1) (by omega)
        have h2 : 256 ^ (j + 1) ≤ 256 ^ 5 := Nat.pow_le_pow_right (by decide) (by omega)
        have h3 : (256 : Nat) ^ 5 = 1099511627776 := by decide
        omega
      have hz : (j : Int) < (m : Int) := by omega
      generalize xs.getD j 0 = x at c1 HN lx
      have ho := or_shift q x hq lx
      go_wp2_with fail
      go_round
      case rel => exact ⟨j + 1, 256 * q + x, by omega, by go_num, by go_num, by rw [← HN.out]; exact lq, HN⟩
      case measure => simp [intOf]; omega
    · obtain rfl : j = 5 := by omega
      have HV := box (show r = q from HR.out.symm.trans hnum.out)
      go_wp2_with fail
      go_ret
      exact ⟨by rw [HV.out]; rfl, rfl⟩

/-- A string ends with its check sum exactly if it has the seal's check sum. -/
theorem seal_cases {xs : List Nat} (hx : ∀ x ∈ xs, x < 256) (h4 : 4 ≤ xs.length) : Crc.crc xs = 558161692 ↔ xs.drop (xs.length - 4) = Crc.le4 (Crc.crc (xs.take (xs.length - 4))) := by
  rw [Crc.sealed_iff hx h4]
  constructor
  · intro h
    have := congrArg (List.drop (xs.length - 4)) h
    rw [this]
    conv => lhs; rw [List.drop_append_of_le_length (by simp)]
    simp
  · intro h
    rw [← h, List.take_append_drop]

set_option maxRecDepth 100000 in
set_option maxHeartbeats 8000000 in
theorem fdec_short (a : Option Addr) (n c : Nat) (xs : List Nat) (hn : xs.length = n) (h17 : n < 17) (w : World) :
    Calls Tryd.prog 22 #[.slice a n c] w (RDec xs w) := by
  have he : decE xs = 4 := by unfold decE; rw [if_pos (by omega)]
  have d1 : decide ((n : Int) < 17) = true := decide_eq_true (by omega)
  have kb : Below w.heap.size w (w.alloc (.cells (pkC 0 0 0 0 none 0 0) 24)) := (Below.refl _ _).alloc (Nat.le_refl _) _
  have HF := fun w' (h : Below w.heap.size w w') => box (show RDec xs w (.returned (.tuple #[pk0, .int .i64 4])) w' from ⟨h, .inl ⟨by omega, by rw [he]; rfl⟩⟩)
  clear he
  go_enter Tryd.func22, Tryd.ntmps22
  go_wp2_with fail
  refine bodyPost_ret (v := .tuple #[pk0, .int .i64 4]) (by simp [results, Tryd.results22, go_sem]) rfl (HF _ ?_).out
  exact kb

set_option maxRecDepth 100000 in
set_option maxHeartbeats 8000000 in
theorem fdec_form (b : Addr) (n c : Nat) (xs : List Nat) (hbig : n ≤ 10000) (hn : xs.length = n) (hx : ∀ x ∈ xs, x < 256) (h17 : ¬ n < 17) (hf : 64 < xs.getD 12 0 ∨ xs.getD 12 0 + 17 ≠ n) (w : World) (hc : At w b xs) :
    Calls Tryd.prog 22 #[.slice (some b) n c] w (RDec xs w) := by
  have w64 : wrap64 ((n : Int) - 17) = (n : Int) - 17 := by unfold wrap64; omega
  have he : decE xs = 3 := by unfold decE; rw [if_neg (by omega), if_pos (by rw [hn]; exact hf)]
  have d1 : decide ((n : Int) < 17) = false := decide_eq_false (by omega)
  have kb : Below w.heap.size w (w.alloc (.cells (pkC 0 0 0 0 none 0 0) 24)) := (Below.refl _ _).alloc (Nat.le_refl _) _
  have HF := fun w' (h : Below w.heap.size w w') => box (show RDec xs w (.returned (.tuple #[pk0, .int .i64 3])) w' from ⟨h, .inl ⟨by omega, by rw [he]; rfl⟩⟩)
  have c1 := at_pos hc 12 (by omega) (by omega)
  have lb : b.block < w.heap.size := World.block_lt_of_cell? w ⟨b.block, b.off + 12, none⟩ c1
  have z1 : (12 : Int) < (n : Int) := by omega
  have lx := getD_lt hx (show 12 < xs.length by omega)
  clear he hc hx hbig
  generalize xs.getD 12 0 = x at hf c1 lx
  by_cases h64 : 64 < x
  · have d2 : decide ((64 : Int) < (x : Int)) = true := decide_eq_true (by omega)
    clear hf h64 w64
    go_enter Tryd.func22, Tryd.ntmps22
    go_wp2_with fail
    refine bodyPost_ret (v := .tuple #[pk0, .int .i64 3]) (by simp [results, Tryd.results22, go_sem]) rfl (HF _ ?_).out
    exact kb
  · have d2 : decide ((64 : Int) < (x : Int)) = false := decide_eq_false (by omega)
    have d3 : ((x : Int) != wrap64 ((n : Int) - 17)) = true := by rw [w64]; simp; omega
    clear hf h64 w64
    go_enter Tryd.func22, Tryd.ntmps22
    go_wp2_with fail
    refine bodyPost_ret (v := .tuple #[pk0, .int .i64 3]) (by simp [results, Tryd.results22, go_sem]) rfl (HF _ ?_).out
    exact kb


set_option maxRecDepth 100000 in
set_option maxHeartbeats 8000000 in
theorem fdec_sum (b : Addr) (n c : Nat) (xs : List Nat) (hn : xs.length = n) (hx : ∀ x ∈ xs, x < 256) (h17 : ¬ n < 17) (hf : ¬ (64 < xs.getD 12 0 ∨ xs.getD 12 0 + 17 ≠ n)) (hs : Crc.crc xs ≠ 558161692) (w : World) (hc : At w b xs) (hT : Crc.HasTab w) :
    Calls Tryd.prog 22 #[.slice (some b) n c] w (RDec xs w) := by
  have w64 : wrap64 ((n : Int) - 17) = (n : Int) - 17 := by unfold wrap64; omega
  have he : decE xs = 9 := by unfold decE; rw [if_neg (by omega), if_neg (by rw [hn]; exact hf), if_pos (fun h => hs ((seal_cases hx (by omega)).2 h))]
  have d1 : decide ((n : Int) < 17) = false := decide_eq_false (by omega)
  have kb : Below w.heap.size w (w.alloc (.cells (pkC 0 0 0 0 none 0 0) 24)) := (Below.refl _ _).alloc (Nat.le_refl _) _
  have HF := fun w' (h : Below w.heap.size w w') => box (show RDec xs w (.returned (.tuple #[pk0, .int .i64 9])) w' from ⟨h, .inl ⟨by omega, by rw [he]; rfl⟩⟩)
  have c1 := at_pos hc 12 (by omega) (by omega)
  have lb : b.block < w.heap.size := World.block_lt_of_cell? w ⟨b.block, b.off + 12, none⟩ c1
  have z1 : (12 : Int) < (n : Int) := by omega
  have lx := getD_lt hx (show 12 < xs.length by omega)
  have HK := fun w' (h : Below w.heap.size w w') => box (Crc.check_bad (some b) n c xs hn hx (by omega) (by omega) hs w' (.inr ⟨b, rfl, fun i hi => keepc h (hc i hi)⟩) (hT.below h))
  have d2 : decide ((64 : Int) < (xs.getD 12 0 : Int)) = false := decide_eq_false (by omega)
  have d3 : ((xs.getD 12 0 : Int) != wrap64 ((n : Int) - 17)) = false := by rw [w64, bne_eq_false_iff_eq]; omega
  clear he hc hx hs hf hT w64
  generalize xs.getD 12 0 = x at c1 lx d2 d3
  go_enter Tryd.func22, Tryd.ntmps22
  go_wp2_with fail
  refine (HK _ kb).out.mono ?_
  rintro e w2 ⟨rfl, rfl⟩
  go_wp2_with fail
  refine bodyPost_ret (v := .tuple #[pk0, .int .i64 9]) (by simp [results, Tryd.results22, go_sem]) rfl (HF _ ?_).out
  exact kb

/-- A packet's five cells. -/
structure Pk5 (w : World) (g : Nat) (y0 y1 y2 y3 y4 : Value) : Prop where
  q0 : w.cell? ⟨g, 0, none⟩ = some y0
  q1 : w.cell? ⟨g, 1, none⟩ = some y1
  q2 : w.cell? ⟨g, 2, none⟩ = some y2
  q3 : w.cell? ⟨g, 3, none⟩ = some y3
  q4 : w.cell? ⟨g, 4, none⟩ = some y4
  zq : ∀ j, w.frozen? ⟨g, j, none⟩ = false
theorem Pk5.keep {w w' : World} {g : Nat} {y0 y1 y2 y3 y4 : Value} (h : Pk5 w g y0 y1 y2 y3 y4) (hb : Below w.heap.size w w') : Pk5 w' g y0 y1 y2 y3 y4 :=
  ⟨keepc hb h.q0, keepc hb h.q1, keepc hb h.q2, keepc hb h.q3, keepc hb h.q4, fun j => by rw [hb.frozen (p := ⟨g, j, none⟩) (show g < w.heap.size from World.block_lt_of_cell? w ⟨g, 0, none⟩ h.q0)]; exact h.zq j⟩
theorem pk5_new (w : World) (k : Nat) (c n v : Int) (a : Option Addr) (l cap : Nat) (g : Nat) (hg : g = w.heap.size) : Pk5 (w.alloc (.cells (pkC k c n v a l cap) 24)) g (nU8 k) (.int .i64 c) (.int .i64 n) (.int .i64 v) (.slice a l cap) := by
  subst hg
  exact ⟨World.cell?_alloc_mark w (pkC k c n v a l cap) 24 (0, 0) 0, World.cell?_alloc_mark w (pkC k c n v a l cap) 24 (0, 0) 1, World.cell?_alloc_mark w (pkC k c n v a l cap) 24 (0, 0) 2, World.cell?_alloc_mark w (pkC k c n v a l cap) 24 (0, 0) 3, World.cell?_alloc_mark w (pkC k c n v a l cap) 24 (0, 0) 4, fun j => by
    unfold World.frozen?
    have h : (w.alloc (.cells (pkC k c n v a l cap) 24)).heap[w.heap.size]? = some (.cells (pkC k c n v a l cap) 24) := by show (w.heap.push _)[w.heap.size]? = _; simp
    rw [show (⟨w.heap.size, j, none⟩ : Addr).block = w.heap.size from rfl, h]
    simp⟩
/-- Five values laid in five cells. -/
abbrev put5 (w : World) (q : Nat) (y0 y1 y2 y3 y4 : Value) : World := ((((w.setCell ⟨q, 0, none⟩ y0).setCell ⟨q, 1, none⟩ y1).setCell ⟨q, 2, none⟩ y2).setCell ⟨q, 3, none⟩ y3).setCell ⟨q, 4, none⟩ y4
theorem pk5_put {w : World} {q : Nat} {v0 v1 v2 v3 v4 : Value} (h : Pk5 w q v0 v1 v2 v3 v4) (y0 y1 y2 y3 y4 : Value) : Pk5 (put5 w q y0 y1 y2 y3 y4) q y0 y1 y2 y3 y4 := by
  have e : put5 w q y0 y1 y2 y3 y4 = w.setCells q 0 [y0, y1, y2, y3, y4] := rfl
  have hQ := World.cell?_setCells_in q [y0, y1, y2, y3, y4] 0 w (by
    intro j hj
    rcases (by simp at hj; omega : j = 0 ∨ j = 1 ∨ j = 2 ∨ j = 3 ∨ j = 4) with rfl | rfl | rfl | rfl | rfl
    · rw [show 0 + 0 = 0 from rfl, h.q0]; rfl
    · rw [show 0 + 1 = 1 from rfl, h.q1]; rfl
    · rw [show 0 + 2 = 2 from rfl, h.q2]; rfl
    · rw [show 0 + 3 = 3 from rfl, h.q3]; rfl
    · rw [show 0 + 4 = 4 from rfl, h.q4]; rfl)
  refine ⟨?_, ?_, ?_, ?_, ?_, ?_⟩
  · rw [e]; exact hQ 0 (by simp)
  · rw [e]; exact hQ 1 (by simp)
  · rw [e]; exact hQ 2 (by simp)
  · rw [e]; exact hQ 3 (by simp)
  · rw [e]; exact hQ 4 (by simp)
  · intro j; simp only [put5, World.frozen?_setCell]; exact h.zq j
theorem put5_below {B : Nat} {w0 w : World} {q : Nat} (h : Below B w0 w) (hq : B ≤ q) (y0 y1 y2 y3 y4 : Value) : Below B w0 (put5 w q y0 y1 y2 y3 y4) :=
  ((((h.setCell hq _).setCell hq _).setCell hq _).setCell hq _).setCell hq _
theorem put5_cell {w : World} {q : Nat} {p : Addr} (h : q ≠ p.block) (y0 y1 y2 y3 y4 : Value) : (put5 w q y0 y1 y2 y3 y4).cell? p = w.cell? p := by
  simp only [put5]
  repeat rw [World.cell?_setCell_far _ _ p _ (by exact h)]
theorem put5_in {w : World} {p : Option Addr} {xs : List Nat} (h : In w p xs) (q : Nat) (y0 y1 y2 y3 y4 : Value) (hq : ∀ g, p = some g → q ≠ g.block) : In (put5 w q y0 y1 y2 y3 y4) p xs := by
  rcases h with h | ⟨g, rfl, h⟩
  · exact .inl h
  · exact .inr ⟨g, rfl, fun i hi => (put5_cell (by have := hq g rfl; unfold Addr.add; split <;> exact this) _ _ _ _ _).trans (h i hi)⟩
end Go.Proofs.YthfoakomapmkeaaDoor
