/- Lists of packets in memory; the law's same on equal lists. -/
import Derived.Test.YthfoakomapmkeaaDoorFrF
namespace Go.Proofs.YthfoakomapmkeaaDoor
open Go.RowKit

/-- A packet's contents. -/
structure Pkt where
  k : Nat
  c : Int
  n : Int
  v : Int
  pay : List Nat
/-- A packet lies at an address: its five cells, and its payload. -/
def PkAt (w : World) (g i : Nat) (p : Pkt) : Prop := ∃ (a : Option Addr) (l cap : Nat), w.cell? ⟨g, i, none⟩ = some (nU8 p.k) ∧ w.cell? ⟨g, i + 1, none⟩ = some (.int .i64 p.c) ∧ w.cell? ⟨g, i + 2, none⟩ = some (.int .i64 p.n) ∧ w.cell? ⟨g, i + 3, none⟩ = some (.int .i64 p.v) ∧ w.cell? ⟨g, i + 4, none⟩ = some (.slice a l cap) ∧ p.pay.length = l ∧ In w a p.pay
/-- The packets ps lie from cell i on. -/
def PksAt (w : World) (g i : Nat) (ps : List Pkt) : Prop := ∀ j (h : j < ps.length), PkAt w g (i + j * 5) ps[j]
theorem PkAt.below {w w' : World} {g i : Nat} {p : Pkt} (h : PkAt w g i p) (hb : Below w.heap.size w w') : PkAt w' g i p := by
  obtain ⟨a, l, cap, h0, h1, h2, h3, h4, h5, h6⟩ := h
  exact ⟨a, l, cap, keepc hb h0, keepc hb h1, keepc hb h2, keepc hb h3, keepc hb h4, h5, h6.below hb⟩
theorem PksAt.below {w w' : World} {g i : Nat} {ps : List Pkt} (h : PksAt w g i ps) (hb : Below w.heap.size w w') : PksAt w' g i ps := fun j hj => (h j hj).below hb

set_option maxRecDepth 100000 in
set_option maxHeartbeats 8000000 in
theorem equalFunc_at (g i h j n ca cb : Nat) (ps : List Pkt) (hn : ps.length = n) (hbig : n ≤ 1000) (w : World) (ha : PksAt w g i ps) (hb : PksAt w h j ps) :
    Calls Tryd.prog 53 #[.slice (some ⟨g, i, none⟩) n ca, .slice (some ⟨h, j, none⟩) n cb, .func (.func 24) #[] #[]] w fun e w' => e = .returned (.bool true) ∧ Below w.heap.size w w' := by
  have HA := box ha
  have HB := box hb
  clear ha hb
  go_enter Tryd.func53, Tryd.ntmps53
  go_wp2_with fail
  go_loopw [17] (fun t17 wr => ∃ k : Nat, k ≤ n ∧ t17 = .int .i64 k ∧ Below w.heap.size w wr) (fun t17 _ => n - (intOf t17).toNat)
  case atStart => exact ⟨0, by omega, rfl, Below.refl _ _⟩
  case round =>
    obtain ⟨k, hk, rfl, kb⟩ := hrel
    by_cases hlt : k < n
    · obtain ⟨a1, l1, p1, x0, x1, x2, x3, x4, x5, x6⟩ := (HA.out k (by omega)).below kb
      obtain ⟨a2, l2, p2, y0, y1, y2, y3, y4, y5, y6⟩ := (HB.out k (by omega)).below kb
      generalize ps[k]'(by omega) = p at x0 x1 x2 x3 x4 x5 x6 y0 y1 y2 y3 y4 y5 y6
      obtain rfl : l1 = l2 := x5.symm.trans y5
      have lx := World.block_lt_of_cell? wr ⟨g, i + k * 5, none⟩ x0
      have ly := World.block_lt_of_cell? wr ⟨h, j + k * 5, none⟩ y0
      have X6 := box x6
      have Y6 := box y6
      have X5 := box x5
      clear x6 y6 x5 y5
      have k2 : Below wr.heap.size wr ((wr.alloc (.cells (pkC p.k p.c p.n p.v a1 l1 p1) 24)).alloc (.cells (pkC p.k p.c p.n p.v a2 l1 p2) 24)) := ((Below.refl _ _).alloc (Nat.le_refl _) _).alloc (size_alloc _ _ (Nat.le_refl _)) _
      go_wp2_with fail
      refine (psame_any p.k p.c p.n p.v a1 a2 l1 p1 p2 p.pay X5.out _ (X6.out.below k2) (Y6.out.below k2)).mono ?_
      rintro e w3 ⟨rfl, hb3⟩
      have kb3 : Below w.heap.size w w3 := (kb.trans (k2.mono kb.size)).trans (hb3.mono (Nat.le_trans kb.size k2.size))
      go_wp2_with fail
      go_roundw
      case rel => exact ⟨k + 1, by omega, by go_num, kb3⟩
      case measure => simp [intOf]; omega
    · obtain rfl : k = n := by omega
      go_wp2_with fail
      go_ret
      exact ⟨rfl, kb⟩

/-- The packets ps as a slice's elements. -/
def PksIn (w : World) (a : Option Addr) (ps : List Pkt) : Prop := ps = [] ∨ ∃ g i, a = some ⟨g, i, none⟩ ∧ PksAt w g i ps
theorem PksIn.below {w w' : World} {a : Option Addr} {ps : List Pkt} (h : PksIn w a ps) (hb : Below w.heap.size w w') : PksIn w' a ps := by
  rcases h with h | ⟨g, i, e, h⟩
  · exact .inl h
  · exact .inr ⟨g, i, e, h.below hb⟩

set_option maxRecDepth 100000 in
set_option maxHeartbeats 8000000 in
theorem equalFunc_any (a b : Option Addr) (n ca cb : Nat) (ps : List Pkt) (hn : ps.length = n) (hbig : n ≤ 1000) (w : World) (ha : PksIn w a ps) (hb : PksIn w b ps) :
    Calls Tryd.prog 53 #[.slice a n ca, .slice b n cb, .func (.func 24) #[] #[]] w fun e w' => e = .returned (.bool true) ∧ Below w.heap.size w w' := by
  by_cases h0 : n = 0
  · subst h0
    clear ha hb
    go_enter Tryd.func53, Tryd.ntmps53
    go_wp2_with fail
    go_loop [17] (fun t17 => t17 = .int .i64 0) (fun _ => 0)
    case atStart => rfl
    case round =>
      obtain rfl := hrel
      go_wp2_with fail
      go_ret
      exact ⟨rfl, Below.refl _ _⟩
  · rcases ha with h | ⟨g, i, rfl, ha⟩
    · subst h; simp at hn; omega
    rcases hb with h | ⟨h, j, rfl, hb⟩
    · subst h; simp at hn; omega
    exact equalFunc_at g i h j n ca cb ps hn hbig w ha hb

set_option maxHeartbeats 4000000 in
theorem lsame_any (a b : Option Addr) (n ca cb : Nat) (ps : List Pkt) (hn : ps.length = n) (hbig : n ≤ 1000) (w : World) (ha : PksIn w a ps) (hb : PksIn w b ps) :
    Calls Tryd.prog 31 #[.slice a n ca, .slice b n cb] w fun e w' => e = .returned (.bool true) ∧ Below w.heap.size w w' := by
  have E := box (equalFunc_any a b n ca cb ps hn hbig w ha hb)
  clear ha hb
  go_enter Tryd.func31, Tryd.ntmps31
  go_wp2_with fail
  refine E.out.mono ?_
  rintro e w2 ⟨rfl, hb2⟩
  go_wp2_with fail
  go_ret
  exact ⟨rfl, hb2⟩
end Go.Proofs.YthfoakomapmkeaaDoor
