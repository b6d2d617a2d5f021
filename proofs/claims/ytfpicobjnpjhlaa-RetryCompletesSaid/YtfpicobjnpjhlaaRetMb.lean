/- The operations of a law in memory; great. -/
import Derived.Test.YtfpicobjnpjhlaaRetAw
namespace Go.Proofs.Ytfpicobjnpjhlaa
open Go.RowKit

/-- An operation. -/
structure Op where
  kind : Int
  n : Int
  data : List Nat
instance : Inhabited Op := ⟨⟨0, 0, []⟩⟩
def OpAt (w : World) (g i : Nat) (o : Op) : Prop := ∃ (a : Option Addr) (l c : Nat), w.cell? ⟨g, i, none⟩ = some (.int .i64 o.kind) ∧ w.cell? ⟨g, i + 1, none⟩ = some (.int .i64 o.n) ∧ w.cell? ⟨g, i + 2, none⟩ = some (.slice a l c) ∧ o.data.length = l ∧ In w a o.data ∧ (a = none → c = 0)
def OpsAt (w : World) (g i : Nat) (l : List Op) : Prop := ∀ j (h : j < l.length), OpAt w g (i + j * 3) l[j]
def OpsIn (w : World) (a : Option Addr) (l : List Op) : Prop := l = [] ∨ ∃ g i, a = some ⟨g, i, none⟩ ∧ OpsAt w g i l
theorem OpAt.below {w w' : World} {g i : Nat} {p : Op} (h : OpAt w g i p) (hb : Below w.heap.size w w') : OpAt w' g i p := by
  obtain ⟨a, l, cap, h0, h1, h2, h3, h4, h5⟩ := h
  exact ⟨a, l, cap, keepc hb h0, keepc hb h1, keepc hb h2, h3, h4.below hb, h5⟩
theorem OpsIn.below {w w' : World} {a : Option Addr} {l : List Op} (h : OpsIn w a l) (hb : Below w.heap.size w w') : OpsIn w' a l := by
  rcases h with h | ⟨g, i, e, h⟩
  · exact .inl h
  · exact .inr ⟨g, i, e, fun j hj => (h j hj).below hb⟩
theorem OpsIn.at {w : World} {a : Option Addr} {l : List Op} (h : OpsIn w a l) {j : Nat} (hj : j < l.length) : ∃ g i, a = some ⟨g, i, none⟩ ∧ OpAt w g (i + j * 3) l[j] := by
  rcases h with h | ⟨g, i, rfl, h⟩
  · subst h; simp at hj
  · exact ⟨g, i, rfl, h j hj⟩

/-- What great answers. -/
def greatPost (l : List Op) (n : Nat) (e : Ending) : Prop := ∃ r, e = .returned (.bool r) ∧ (r = false → (∀ o ∈ l, o.data.length ≤ 100) ∧ n ≤ 400)

set_option maxRecDepth 100000 in
set_option maxHeartbeats 4000000 in
theorem great_any (a : Option Addr) (n c : Nat) (l : List Op) (hn : l.length = n) (hbig : n ≤ maxLen) (w : World) (hc : OpsIn w a l) :
    Calls Try.prog 12 #[.slice a n c] w fun e w' => greatPost l n e ∧ Below w.heap.size w w' := by
  have HC := box hc
  clear hc
  have hb : n ≤ 9223372036854775807 := by unfold maxLen at hbig; omega
  clear hbig
  go_enter Try.func12, Try.ntmps12
  go_wp2_with fail
  go_loopw [7] (fun t7 wr => ∃ (k : Nat), k ≤ n ∧ t7 = .int .i64 k ∧ Box (∀ i (h : i < l.length), i < k → l[i].data.length ≤ 100) ∧ Below w.heap.size w wr) (fun t7 _ => n - (intOf t7).toNat)
  case atStart => exact ⟨0, by omega, rfl, box (fun i h h2 => by omega), Below.refl _ _⟩
  case round =>
    obtain ⟨k, hk, rfl, hd, kb⟩ := hrel
    by_cases hlt : k < n
    · obtain ⟨g, i, rfl, a1, l1, c1, x0, x1, x2, x3, x4, x5⟩ := (HC.out.below kb).at (show k < l.length by omega)
      have lx := World.block_lt_of_cell? wr ⟨g, i + k * 3, none⟩ x0
      have HO := box (show ∃ o, l[k]'(by omega) = o from ⟨_, rfl⟩)
      obtain ⟨o, ho⟩ := HO.out
      have HOO := box ho
      rw [ho] at x0 x1 x3 x4
      have HX2 := box x3
      have ka : Below w.heap.size w (wr.alloc (.cells #[.int .i64 o.kind, .int .i64 o.n, .slice a1 l1 c1] 34)) := kb.alloc kb.size _
      clear HO ho x3 x4 x5
      by_cases h60 : 100 < l1
      · have d1 : decide ((100 : Int) < (l1 : Int)) = true := decide_eq_true (by omega)
        go_wp2_with fail
        go_ret
        exact ⟨⟨true, rfl, fun h => by cases h⟩, ka⟩
      · have d1 : decide ((100 : Int) < (l1 : Int)) = false := decide_eq_false (by omega)
        have H60 := box h60
        go_wp2_with fail
        go_roundw
        case rel =>
          refine ⟨k + 1, by omega, by go_num, box (fun j h hj => ?_), ka⟩
          rcases Nat.lt_or_ge j k with h1 | h1
          · exact hd.out j h h1
          · obtain rfl : j = k := by omega
            rw [HOO.out, HX2.out]; have := H60.out; omega
        case measure => simp [intOf]; omega
    · have hkn : k = n := by omega
      have HKN := box hkn
      clear hkn
      by_cases h4 : n ≤ 400
      · go_wp2_with fail
        go_ret
        refine ⟨⟨false, by first | (simp; done) | (simp; omega), fun _ => ⟨fun o ho => ?_, h4⟩⟩, kb⟩
        obtain ⟨j, hj, rfl⟩ := List.getElem_of_mem ho
        exact hd.out j hj (by have := HKN.out; omega)
      · go_wp2_with fail
        go_ret
        exact ⟨⟨true, by first | (simp; done) | (simp; omega), fun h => by cases h⟩, kb⟩
end Go.Proofs.Ytfpicobjnpjhlaa
