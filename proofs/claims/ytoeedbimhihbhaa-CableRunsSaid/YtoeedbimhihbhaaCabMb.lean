/- Operations and rows of slices in memory; the reference's Same. -/
import Derived.Test.YtoeedbimhihbhaaCabM
namespace Go.Proofs.Ytoeedbimhihbhaa
open Go.RowKit

/-- An operation on a cable. -/
structure Op where
  kind : Int
  data : List Nat
instance : Inhabited Op := ⟨⟨0, []⟩⟩
def OpAt (w : World) (g i : Nat) (o : Op) : Prop := ∃ (a : Option Addr) (l c : Nat), w.cell? ⟨g, i, none⟩ = some (.int .i64 o.kind) ∧ w.cell? ⟨g, i + 1, none⟩ = some (.slice a l c) ∧ o.data.length = l ∧ In w a o.data ∧ (a = none → c = 0)
def OpsAt (w : World) (g i : Nat) (l : List Op) : Prop := ∀ j (h : j < l.length), OpAt w g (i + j * 2) l[j]
def OpsIn (w : World) (a : Option Addr) (l : List Op) : Prop := l = [] ∨ ∃ g i, a = some ⟨g, i, none⟩ ∧ OpsAt w g i l
theorem OpAt.below {w w' : World} {g i : Nat} {p : Op} (h : OpAt w g i p) (hb : Below w.heap.size w w') : OpAt w' g i p := by
  obtain ⟨a, l, cap, h0, h1, h2, h3, h4⟩ := h
  exact ⟨a, l, cap, keepc hb h0, keepc hb h1, h2, h3.below hb, h4⟩
theorem OpsIn.below {w w' : World} {a : Option Addr} {l : List Op} (h : OpsIn w a l) (hb : Below w.heap.size w w') : OpsIn w' a l := by
  rcases h with h | ⟨g, i, e, h⟩
  · exact .inl h
  · exact .inr ⟨g, i, e, fun j hj => (h j hj).below hb⟩
theorem OpsIn.at {w : World} {a : Option Addr} {l : List Op} (h : OpsIn w a l) {j : Nat} (hj : j < l.length) : ∃ g i, a = some ⟨g, i, none⟩ ∧ OpAt w g (i + j * 2) l[j] := by
  rcases h with h | ⟨g, i, rfl, h⟩
  · subst h; simp at hj
  · exact ⟨g, i, rfl, h j hj⟩
/-- A row of slices of bytes. -/
def BsAt (w : World) (g i : Nat) (l : List (List Nat)) : Prop := ∀ j (h : j < l.length), ∃ (a : Option Addr) (n c : Nat), w.cell? ⟨g, i + j, none⟩ = some (.slice a n c) ∧ l[j].length = n ∧ In w a l[j] ∧ (a = none → c = 0)
def BsIn (w : World) (a : Option Addr) (l : List (List Nat)) : Prop := l = [] ∨ ∃ g i, a = some ⟨g, i, none⟩ ∧ BsAt w g i l
theorem BsIn.below {w w' : World} {a : Option Addr} {l : List (List Nat)} (h : BsIn w a l) (hb : Below w.heap.size w w') : BsIn w' a l := by
  rcases h with h | ⟨g, i, e, h⟩
  · exact .inl h
  · refine .inr ⟨g, i, e, fun j hj => ?_⟩
    obtain ⟨a, n, c, h1, h2, h3, h4⟩ := h j hj
    exact ⟨a, n, c, keepc hb h1, h2, h3.below hb, h4⟩
theorem BsIn.at {w : World} {a : Option Addr} {l : List (List Nat)} (h : BsIn w a l) {j : Nat} (hj : j < l.length) : ∃ g i b n c, a = some ⟨g, i, none⟩ ∧ w.cell? ⟨g, i + j, none⟩ = some (.slice b n c) ∧ l[j].length = n ∧ In w b l[j] ∧ (b = none → c = 0) := by
  rcases h with h | ⟨g, i, rfl, h⟩
  · subst h; simp at hj
  · obtain ⟨b, n, c, h1⟩ := h j hj
    exact ⟨g, i, b, n, c, rfl, h1⟩

theorem drewN_two (w : World) (t q : Nat) : (w.drewN t).drewN q = w.drewN (t + q) := by
  unfold World.drewN
  simp [Nat.add_assoc]

set_option maxRecDepth 100000 in
set_option maxHeartbeats 8000000 in
theorem same_any (a b : Option Addr) (n ca cb : Nat) (l : List (List Nat)) (hn : l.length = n) (hbig : n ≤ 100000) (w : World) (ha : BsIn w a l) (hb : BsIn w b l) :
    Calls Try.prog 21 #[.slice a n ca, .slice b n cb] w fun e w' => e = .returned (.bool true) ∧ Below w.heap.size w w' := by
  have HA := box ha
  have HB := box hb
  clear ha hb
  go_enter Try.func21, Try.ntmps21
  go_wp2_with fail
  go_loopw [5] (fun t5 wr => ∃ (k : Nat), k ≤ n ∧ t5 = .int .i64 k ∧ Box (∃ t, wr = w.drewN t)) (fun t5 _ => n - (intOf t5).toNat)
  case atStart => exact ⟨0, by omega, rfl, box ⟨0, rfl⟩⟩
  case round =>
    obtain ⟨k, hk, rfl, hwr⟩ := hrel
    by_cases hlt : k < n
    · obtain ⟨t, ht⟩ := hwr.out
      obtain ⟨g1, i1, b1, n1, c1, rfl, x1, x2, x3, x4⟩ := HA.out.at (show k < l.length by omega)
      obtain ⟨g2, i2, b2, n2, c2, rfl, y1, y2, y3, y4⟩ := HB.out.at (show k < l.length by omega)
      generalize l[k]'(by omega) = xs at x2 x3 y2 y3
      obtain rfl : n1 = n2 := x2.symm.trans y2
      have cv1 : ∀ q, (convert 36 9 (.slice b1 n1 c1)).run Try.prog (w.drewN q) = .ok (.string (strOf xs)) (w.drewN q) := fun q => conv_any x2 (x3.below ⟨rfl, rfl, rfl, Nat.le_refl _, fun _ _ => rfl⟩)
      have cv2 : ∀ q, (convert 36 9 (.slice b2 n1 c2)).run Try.prog (w.drewN q) = .ok (.string (strOf xs)) (w.drewN q) := fun q => conv_any y2 (y3.below ⟨rfl, rfl, rfl, Nat.le_refl _, fun _ _ => rfl⟩)
      have l1 := World.block_lt_of_cell? w ⟨g1, i1 + k, none⟩ x1
      have l2 := World.block_lt_of_cell? w ⟨g2, i2 + k, none⟩ y1
      have hbe : ((strOf xs).toList != (strOf xs).toList) = false := by simp
      have HT := box ht
      subst ht
      clear x2 x3 x4 y2 y3 y4
      go_wp2_with fail
      go_quiet (fail)
      go_wp2_with fail
      go_roundw
      case rel => exact ⟨k + 1, by omega, by go_num, box ⟨t + nq, rfl⟩⟩
      case measure => simp [intOf]; omega
    · obtain rfl : k = n := by omega
      go_wp2_with fail
      go_ret
      obtain ⟨t, ht⟩ := hwr.out
      exact ⟨rfl, by rw [ht]; exact drewN_below w t⟩
end Go.Proofs.Ytoeedbimhihbhaa
