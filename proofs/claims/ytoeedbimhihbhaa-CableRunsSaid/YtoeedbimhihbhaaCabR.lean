/- few; what Send counts. -/
import Derived.Test.YtoeedbimhihbhaaCabMb
namespace Go.Proofs.Ytoeedbimhihbhaa
open Go.RowKit

/-- What few answers. -/
def fewPost (l : List Op) (n m : Nat) (e : Ending) : Prop := ∃ r, e = .returned (.bool r) ∧ (r = true → (∀ o ∈ l, o.data.length ≤ 60) ∧ n ≤ 150 ∧ m ≤ 150)

set_option maxRecDepth 100000 in
set_option maxHeartbeats 8000000 in
theorem few_any (a : Option Addr) (n c : Nat) (l : List Op) (hn : l.length = n) (hbig : n ≤ maxLen) (b : Option Addr) (m c2 : Nat) (w : World) (hc : OpsIn w a l) :
    Calls Try.prog 17 #[.slice a n c, .slice b m c2] w fun e w' => fewPost l n m e ∧ Below w.heap.size w w' := by
  have HC := box hc
  clear hc
  have hb : n ≤ 9223372036854775807 := by unfold maxLen at hbig; omega
  clear hbig
  go_enter Try.func17, Try.ntmps17
  go_wp2_with fail
  go_loopw [9] (fun t9 wr => ∃ (k : Nat), k ≤ n ∧ t9 = .int .i64 k ∧ Box (∀ i (h : i < l.length), i < k → l[i].data.length ≤ 60) ∧ Below w.heap.size w wr) (fun t9 _ => n - (intOf t9).toNat)
  case atStart => exact ⟨0, by omega, rfl, box (fun i h h2 => by omega), Below.refl _ _⟩
  case round =>
    obtain ⟨k, hk, rfl, hd, kb⟩ := hrel
    by_cases hlt : k < n
    · obtain ⟨g, i, rfl, a1, l1, c1, x0, x1, x2, x3, x4⟩ := (HC.out.below kb).at (show k < l.length by omega)
      have lx := World.block_lt_of_cell? wr ⟨g, i + k * 2, none⟩ x0
      have HO := box (show ∃ o, l[k]'(by omega) = o from ⟨_, rfl⟩)
      obtain ⟨o, ho⟩ := HO.out
      have HOO := box ho
      rw [ho] at x0 x2 x3
      have HX2 := box x2
      have ka : Below w.heap.size w (wr.alloc (.cells #[.int .i64 o.kind, .slice a1 l1 c1] 38)) := kb.alloc kb.size _
      clear HO ho x2 x3 x4
      by_cases h60 : 60 < l1
      · have d1 : decide ((60 : Int) < (l1 : Int)) = true := decide_eq_true (by omega)
        go_wp2_with fail
        go_ret
        exact ⟨⟨false, rfl, fun h => by cases h⟩, ka⟩
      · have d1 : decide ((60 : Int) < (l1 : Int)) = false := decide_eq_false (by omega)
        have H60 := box h60
        go_wp2_with fail
        go_roundw
        case rel =>
          refine ⟨k + 1, by omega, by go_num, box (fun j h hj => ?_), ka⟩
          rcases Nat.lt_or_ge j k with h1 | h1
          · exact hd.out j h h1
          · obtain rfl : j = k := by omega
            rw [HOO.out, HX2.out]; have := H60.out; omega
        case measure => simp [intOf]; omega
    · have hkn : k = n := by omega
      have HKN := box hkn
      clear hkn
      by_cases h150 : n ≤ 150
      · by_cases m150 : m ≤ 150
        · go_wp2_with fail
          go_ret
          refine ⟨⟨true, by first | (simp; done) | (simp; omega), fun _ => ⟨fun o ho => ?_, h150, m150⟩⟩, kb⟩
          obtain ⟨i, hi, rfl⟩ := List.getElem_of_mem ho
          exact hd.out i hi (by have := HKN.out; omega)
        · go_wp2_with fail
          go_ret
          exact ⟨⟨false, by first | (simp; done) | (simp; omega), fun h => by cases h⟩, kb⟩
      · go_wp2_with fail
        go_ret
        exact ⟨⟨false, by first | (simp; done) | (simp; omega), fun h => by cases h⟩, kb⟩

/-- What Send counts. -/
theorem sendR_counts {s s' : Cab} {xs : List Nat} {code : Int} (h : sendR s xs s' code) (hl : s.fl.length ≤ 64) : ∃ j i, (j = 0 ∧ i = 1 ∨ j = 1 ∧ i = 0 ∨ j = 2 ∧ i = 0) ∧ s'.fl.length = s.fl.length + j ∧ s'.lost = s.lost + i ∧ s'.time = s.time ∧ s'.sent = s.sent + 1 ∧ s'.d = s.d ∧ s'.fs = s.fs ∧ s'.fa = s.fa ∧ s'.fc = s.fc ∧ s'.up = s.up ∧ s'.fl.length ≤ 64 := by
  unfold sendR at h
  by_cases c1 : s.up = false ∨ (theF s.fs s.sent).kind = 1
  · rw [if_pos c1] at h
    obtain ⟨rfl, _⟩ := h
    exact ⟨0, 1, by omega, rfl, rfl, rfl, rfl, rfl, rfl, rfl, rfl, rfl, hl⟩
  rw [if_neg c1] at h
  by_cases c2 : 64 < s.fl.length + (if (theF s.fs s.sent).kind = 3 then 2 else 1)
  · rw [if_pos c2] at h
    obtain ⟨rfl, _⟩ := h
    exact ⟨0, 1, by omega, rfl, rfl, rfl, rfl, rfl, rfl, rfl, rfl, rfl, hl⟩
  rw [if_neg c2] at h
  obtain ⟨news, h1, _, rfl, _⟩ := h
  by_cases c3 : (theF s.fs s.sent).kind = 3
  · rw [if_pos c3] at h1 c2
    exact ⟨2, 0, by omega, by simp [h1], rfl, rfl, rfl, rfl, rfl, rfl, rfl, rfl, by simp; omega⟩
  · rw [if_neg c3] at h1 c2
    exact ⟨1, 0, by omega, by simp [h1], rfl, rfl, rfl, rfl, rfl, rfl, rfl, rfl, by simp; omega⟩
end Go.Proofs.Ytoeedbimhihbhaa
