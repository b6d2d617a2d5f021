/- frame.Decode by what it answers; rows of bytes that a loop changes. -/
import Derived.Test.YthfoakomapmkeaaDoorFrX
import Derived.Test.YthfoakomapmkeaaDoorFrN
import Derived.Laws.Rows
namespace Go.Proofs.YthfoakomapmkeaaDoor
open Go.RowKit

theorem fdec_err (a : Option Addr) (n c : Nat) (xs : List Nat) (hn : xs.length = n) (hx : ∀ x ∈ xs, x < 256) (hbig : n ≤ 10000) (hcap : n ≤ c) (r : Nat) (hr : decE xs = r) (hr0 : r ≠ 0) (w : World) (hc : In w a xs) (hT : Crc.HasTab w) :
    Calls Tryd.prog 22 #[.slice a n c] w fun e w' => e = .returned (.tuple #[pk0, .int .i64 (r : Nat)]) ∧ Below w.heap.size w w' := by
  refine (fdec_any a n c xs hn hx hbig hcap w hc hT).mono ?_
  rintro e w' ⟨hb, h | h⟩
  · exact ⟨by rw [h.2, hr], hb⟩
  · exact absurd (hr.symm.trans h.1) hr0
theorem fdec_ok (a : Option Addr) (n c : Nat) (xs : List Nat) (hn : xs.length = n) (hx : ∀ x ∈ xs, x < 256) (hbig : n ≤ 10000) (hcap : n ≤ c) (hr : decE xs = 0) (w : World) (hc : In w a xs) (hT : Crc.HasTab w) :
    Calls Tryd.prog 22 #[.slice a n c] w fun e w' => ∃ (a' : Option Addr) (c' : Nat), e = .returned (.tuple #[pkV (xs.getD 0 0) (xs.getD 1 0 : Nat) (numAt xs 2 : Nat) (numAt xs 7 : Nat) a' (n - 17) c', .int .i64 0]) ∧ Box (In w' a' ((xs.drop 13).take (n - 17))) ∧ (a' = none → c' = 0) ∧ n - 17 ≤ c' ∧ Box (∀ g, a' = some g → w.heap.size ≤ g.block) ∧ Below w.heap.size w w' := by
  refine (fdec_any a n c xs hn hx hbig hcap w hc hT).mono ?_
  rintro e w' ⟨hb, h | ⟨_, a', c', h1, h2, h3, h4, h5⟩⟩
  · exact absurd hr h.1
  · rw [hn] at h1 h2 h4
    exact ⟨a', c', h1, box h2, h3, h4, box h5, hb⟩
theorem fdec_enc (k c n v : Nat) (pay : List Nat) (a : Option Addr) (l m cap : Nat) (hl : pay.length = l) (hm : m = 17 + l) (hok : okP k c n v l = true) (hk : k < 256) (hp : ∀ x ∈ pay, x < 256) (hcap : 17 + l ≤ cap) (w : World) (hc : In w a (bytesP k c n v pay)) (hT : Crc.HasTab w) :
    Calls Tryd.prog 22 #[.slice a m cap] w fun e w' => ∃ (a' : Option Addr) (c' : Nat), e = .returned (.tuple #[pkV k c n v a' l c', .int .i64 0]) ∧ Box (In w' a' pay) ∧ (a' = none → c' = 0) ∧ l ≤ c' ∧ Box (∀ g, a' = some g → w.heap.size ≤ g.block) ∧ Below w.heap.size w w' := by
  subst hl hm
  obtain ⟨_, _, c1, _, n1, _, v1, l1⟩ := of_decide_eq_true hok
  have hlen := bytesP_length (k := k) (c := c) (n := n) (v := v) (pay := pay)
  obtain ⟨f0, f1, f2, f3, f4, f5⟩ := bytes_fields k c n v pay (by omega) (by omega)
  refine (fdec_ok a (17 + pay.length) cap _ hlen (bytesP_lt hk (by omega) hp (by omega)) (by omega) hcap (dec_bytes k c n v pay hok) w hc hT).mono ?_
  rintro e w' ⟨a', c', h1, h2, h3, h4, h5, h6⟩
  rw [f0, f1, f3, f4, Nat.add_sub_cancel_left] at h1
  rw [Nat.add_sub_cancel_left, f5] at h2
  exact ⟨a', c', h1, h2, h3, by omega, h5, h6⟩

/-- A block holds some bytes. -/
def RowIs (w : World) (g : Nat) (ys : List Nat) : Prop := ∃ cur, w.heap[g]? = some (.cells cur 5 (0, 0)) ∧ ∀ i < ys.length, cur[i]? = some (nU8 (ys.getD i 0))
theorem RowIs.cell {w : World} {g : Nat} {ys : List Nat} (h : RowIs w g ys) (i : Nat) (hi : i < ys.length) : w.cell? ⟨g, i, none⟩ = some (nU8 (ys.getD i 0)) := by
  obtain ⟨cur, hc, hv⟩ := h
  rw [cell_of_row w g i _ _ _ hc, hv i hi]
theorem RowIs.free {w : World} {g : Nat} {ys : List Nat} (h : RowIs w g ys) (i : Nat) : w.frozen? ⟨g, i, none⟩ = false := by
  obtain ⟨cur, hc, _⟩ := h
  exact frozen_of_row w g i _ _ hc
theorem RowIs.inn {w : World} {g : Nat} {ys : List Nat} (h : RowIs w g ys) : In w (some ⟨g, 0, none⟩) ys := .inr ⟨_, rfl, fun i hi => by rw [add_off]; exact h.cell i hi⟩
theorem RowIs.set {w : World} {g : Nat} {ys : List Nat} (h : RowIs w g ys) (i y : Nat) (hi : i < ys.length) : RowIs (w.setCell ⟨g, i, none⟩ (nU8 y)) g (ys.set i y) := by
  obtain ⟨cur, hc, hv⟩ := h
  refine ⟨_, heap_setCell_same w g i cur _ (nU8 y) hc, fun j hj => ?_⟩
  simp at hj
  have hs : i < cur.size := (Array.getElem?_eq_some_iff.1 (hv i hi)).1
  by_cases e : i = j
  · subst e
    simp [hs, List.getD_eq_getElem?_getD, hj]
  · rw [Array.getElem?_setIfInBounds, if_neg e, hv j hj]
    simp [List.getD_eq_getElem?_getD, e]
theorem RowIs.below {w w' : World} {g : Nat} {ys : List Nat} (h : RowIs w g ys) (hb : Below w.heap.size w w') : RowIs w' g ys := by
  obtain ⟨cur, hc, hv⟩ := h
  exact ⟨cur, (hb.block g (Array.getElem?_eq_some_iff.1 hc).1).trans hc, hv⟩
theorem RowIs.lt {w : World} {g : Nat} {ys : List Nat} (h : RowIs w g ys) : g < w.heap.size := by
  obtain ⟨cur, hc, _⟩ := h
  exact (Array.getElem?_eq_some_iff.1 hc).1
theorem row_of_own {B n c : Nat} {w : World} {g : Nat} {ys : List Nat} (h : Own B w (.slice (some ⟨g, 0, none⟩) n c) n ys) : RowIs w g ys := by
  obtain ⟨hl, hc⟩ := h
  rcases hc with ⟨h0, _⟩ | ⟨g', cap, cur, hv, hg, hh, hnc, hcap, hsz, htake⟩
  · cases h0
  · cases hv
    refine ⟨cur, hh, fun i hi => ?_⟩
    have := congrArg (fun l => l[i]?) htake
    simp only [List.getElem?_take, List.length_map] at this hl
    rw [if_pos (by omega)] at this
    simpa [List.getD_eq_getElem?_getD, List.getElem?_eq_getElem hi] using this
theorem Pk5.apart {w w' : World} {g h p : Nat} {y0 y1 y2 y3 y4 : Value} (x : Pk5 w p y0 y1 y2 y3 y4) (hb : Apart g h w w') (h1 : p ≠ g) (h2 : p ≠ h) : Pk5 w' p y0 y1 y2 y3 y4 :=
  ⟨hb.cell x.q0 h1 h2, hb.cell x.q1 h1 h2, hb.cell x.q2 h1 h2, hb.cell x.q3 h1 h2, hb.cell x.q4 h1 h2, fun j => by rw [hb.frozen (a := ⟨p, j, none⟩) (show p < w.heap.size from World.block_lt_of_cell? w ⟨p, 0, none⟩ x.q0) h1 h2]; exact x.zq j⟩
/-- An own slice that is not empty, as a block. -/
theorem own_row {B n : Nat} {w : World} {v : Value} {xs : List Nat} (h : Own B w v n xs) (h0 : 0 < n) : ∃ (g c : Nat), v = .slice (some ⟨g, 0, none⟩) n c ∧ Box (RowIs w g xs) ∧ n ≤ c ∧ B ≤ g := by
  have hc := h
  obtain ⟨_, hcase⟩ := h
  rcases hcase with ⟨rfl, h1⟩ | ⟨g, cap, cur, rfl, hg, hh, hnc, hcap, hsz, htake⟩
  · omega
  · exact ⟨g, cap, rfl, box (row_of_own hc), hnc, hg⟩
end Go.Proofs.YthfoakomapmkeaaDoor
