/- Faults: lists of them in memory, cable.valid, the reference's Valid, the clone of a list. -/
import Derived.Test.YtoeedbimhihbhaaCabA
namespace Go.Proofs.Ytoeedbimhihbhaa
open Go.RowKit

/-- A fault. -/
structure Ft where
  at_ : Int
  kind : Int
  arg : Int
/-- The faults fs lie from an address on. -/
def FtsAt (w : World) (b o : Nat) (fs : List Ft) : Prop := ∀ i (h : i < fs.length), w.cell? ⟨b, o + i * 3, none⟩ = some (.int .i64 fs[i].at_) ∧ w.cell? ⟨b, o + i * 3 + 1, none⟩ = some (.int .i64 fs[i].kind) ∧ w.cell? ⟨b, o + i * 3 + 2, none⟩ = some (.int .i64 fs[i].arg)
def FtsIn (w : World) (a : Option Addr) (fs : List Ft) : Prop := fs = [] ∨ ∃ b o, a = some ⟨b, o, none⟩ ∧ FtsAt w b o fs
theorem FtsAt.lt {w : World} {b o : Nat} {fs : List Ft} (h : FtsAt w b o fs) (hn : fs ≠ []) : b < w.heap.size := World.block_lt_of_cell? w ⟨b, _, none⟩ (h 0 (List.length_pos_iff.2 hn)).1
theorem FtsIn.same {w w' : World} {a : Option Addr} {fs : List Ft} (h : FtsIn w a fs) (hk : fs ≠ [] → ∀ q, a = some q → w'.heap[q.block]? = w.heap[q.block]?) : FtsIn w' a fs := by
  rcases h with h | ⟨b, o, rfl, h⟩
  · exact .inl h
  · by_cases hx : fs = []
    · exact .inl hx
    · have e := hk hx _ rfl
      refine .inr ⟨b, o, rfl, fun i hi => ?_⟩
      have q : ∀ j, w'.cell? ⟨b, j, none⟩ = w.cell? ⟨b, j, none⟩ := fun j => World.cell?_of_block (a := ⟨b, j, none⟩) e
      rw [q, q, q]
      exact h i hi
theorem FtsIn.below {w w' : World} {a : Option Addr} {fs : List Ft} (h : FtsIn w a fs) (hb : Below w.heap.size w w') : FtsIn w' a fs := by
  rcases h with h | ⟨b, o, rfl, h⟩
  · exact .inl h
  · exact .inr ⟨b, o, rfl, fun i hi => ⟨keepc hb (h i hi).1, keepc hb (h i hi).2.1, keepc hb (h i hi).2.2⟩⟩
theorem FtsIn.at {w : World} {a : Option Addr} {fs : List Ft} (h : FtsIn w a fs) {i : Nat} (hi : i < fs.length) : ∃ b o, a = some ⟨b, o, none⟩ ∧ w.cell? ⟨b, o + i * 3, none⟩ = some (.int .i64 fs[i].at_) ∧ w.cell? ⟨b, o + i * 3 + 1, none⟩ = some (.int .i64 fs[i].kind) ∧ w.cell? ⟨b, o + i * 3 + 2, none⟩ = some (.int .i64 fs[i].arg) := by
  rcases h with h | ⟨b, o, rfl, h⟩
  · subst h; simp at hi
  · exact ⟨b, o, rfl, h i hi⟩

/-- Faults are valid, from an index on that is not permitted any more. -/
def okOne (last : Int) (f : Ft) : Bool := decide (last < f.at_) && ((f.kind == 1 || f.kind == 2 || f.kind == 3) && decide (0 ≤ f.arg))
def okFrom (last : Int) : List Ft → Bool
  | [] => true
  | f :: r => okOne last f && okFrom f.at_ r
abbrev okF (fs : List Ft) : Bool := okFrom (-1) fs
/-- The index of the fault before the k-th one. -/
def lastOf (fs : List Ft) (k : Nat) : Int := match k with
  | 0 => -1
  | k + 1 => match fs[k]? with
    | some f => f.at_
    | none => -1
theorem drop_eq {α : Type} {l : List α} {k : Nat} (h : k < l.length) : l.drop k = l[k] :: l.drop (k + 1) := List.drop_eq_getElem_cons h
theorem okFrom_step {fs : List Ft} {k : Nat} (h : k < fs.length) : okFrom (lastOf fs k) (fs.drop k) = (okOne (lastOf fs k) fs[k] && okFrom (lastOf fs (k + 1)) (fs.drop (k + 1))) := by
  rw [drop_eq h]
  show (_ && _) = _
  simp [lastOf, List.getElem?_eq_getElem h]

set_option maxRecDepth 100000 in
set_option maxHeartbeats 8000000 in
theorem valid_any (a : Option Addr) (n c : Nat) (fs : List Ft) (hn : fs.length = n) (hbig : n ≤ 1000) (w : World) (hc : FtsIn w a fs) :
    Calls Try.prog 26 #[.slice a n c] w fun e w' => e = .returned (.bool (okF fs)) ∧ Below w.heap.size w w' := by
  have HC := box hc
  clear hc
  obtain ⟨res, hres⟩ : ∃ res, okF fs = res := ⟨_, rfl⟩
  have HR := box hres
  rw [hres]
  clear hres
  go_enter Try.func26, Try.ntmps26
  go_wp2_with fail
  go_loopw [3, 9] (fun t3 t9 wr => ∃ (k : Nat) (la : Int), k ≤ n ∧ t9 = .int .i64 k ∧ t3 = .int .i64 la ∧ Box (lastOf fs k = la) ∧ Box (okFrom la (fs.drop k) = res) ∧ Below w.heap.size w wr) (fun _ t9 _ => n - (intOf t9).toNat)
  case atStart => exact ⟨0, -1, by omega, rfl, rfl, box rfl, box HR.out, Below.refl _ _⟩
  case round =>
    obtain ⟨k, la, hk, rfl, rfl, hla, hok, kb⟩ := hrel
    by_cases hlt : k < n
    · obtain ⟨b, o, rfl, x0, x1, x2⟩ := (HC.out.below kb).at (show k < fs.length by omega)
      have HS := box (okFrom_step (show k < fs.length by omega))
      have HL := box (show lastOf fs (k + 1) = (fs[k]'(by omega)).at_ by simp [lastOf, List.getElem?_eq_getElem (show k < fs.length by omega)])
      have HOK := box (show okFrom la (fs.drop k) = (okOne la (fs[k]'(by omega)) && okFrom (fs[k]'(by omega)).at_ (fs.drop (k + 1))) by rw [← hla.out, HS.out, HL.out])
      clear HS
      generalize fs[k]'(by omega) = f at x0 x1 x2 HL HOK
      obtain ⟨fa, fk, fg⟩ := f
      have HOK2 := box (show okFrom la (fs.drop k) = ((decide (la < fa) && ((fk == 1 || fk == 2 || fk == 3) && decide (0 ≤ fg))) && okFrom fa (fs.drop (k + 1))) from HOK.out)
      have HL2 := box (show lastOf fs (k + 1) = fa from HL.out)
      simp only at x0 x1 x2
      clear HL HOK
      have lx := World.block_lt_of_cell? wr ⟨b, o + k * 3, none⟩ x0
      have ka : Below w.heap.size w (wr.alloc (.cells #[.int .i64 fa, .int .i64 fk, .int .i64 fg] 53)) := kb.alloc kb.size _
      by_cases h1 : fk = 1
      all_goals by_cases h2 : fk = 2
      all_goals by_cases h3 : fk = 3
      all_goals try omega
      all_goals by_cases hal : fa ≤ la
      all_goals by_cases hg : fg < 0
      all_goals
        have e1 : decide (fa ≤ la) = decide (fa ≤ la) := rfl
        try (have d1 : (fk == 1) = true := by simp [h1])
        try (have d1 : (fk == 1) = false := by simp [h1])
        try (have d2 : (fk == 2) = true := by simp [h2])
        try (have d2 : (fk == 2) = false := by simp [h2])
        try (have d3 : (fk == 3) = true := by simp [h3])
        try (have d3 : (fk == 3) = false := by simp [h3])
        try (have d4 : decide (fa ≤ la) = true := decide_eq_true hal)
        try (have d4 : decide (fa ≤ la) = false := decide_eq_false hal)
        try (have d5 : decide (fg < 0) = true := decide_eq_true hg)
        try (have d5 : decide (fg < 0) = false := decide_eq_false hg)
        clear e1
        have D6 := box (show decide (la < fa) = !decide (fa ≤ la) by rw [← decide_not]; exact decide_eq_decide.2 (by omega))
        have D7 := box (show decide (0 ≤ fg) = !decide (fg < 0) by rw [← decide_not]; exact decide_eq_decide.2 (by omega))
        have HV := box (show okFrom la (fs.drop k) = _ from by rw [HOK2.out, D6.out, D7.out, d1, d2, d3, d4, d5])
        clear h1 h2 h3 hal hg D6 D7
      all_goals go_wp2_with fail
      all_goals first
        | (go_ret; exact ⟨by rw [← hok.out, HV.out]; rfl, ka⟩)
        | (go_roundw
           case rel => exact ⟨k + 1, fa, by omega, by go_num, rfl, HL2, box (by rw [← hok.out, HV.out]; rfl), ka⟩
           case measure => simp [intOf]; omega)
    · obtain rfl : k = n := by omega
      have HV := box (show res = true by rw [← hok.out, ← hn, List.drop_length]; rfl)
      go_wp2_with fail
      go_ret
      exact ⟨by rw [HV.out]; rfl, kb⟩
end Go.Proofs.Ytoeedbimhihbhaa
