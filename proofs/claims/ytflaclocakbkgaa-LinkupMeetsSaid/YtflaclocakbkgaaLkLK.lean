/- Opening the arguments of layer 8's laws. -/
import Derived.Test.YtflaclocakbkgaaLkR
import Derived.Test.YtflaclocakbkgaaRows
import Derived.ProofKit
import Derived.OpenShut
import Derived.ChangeSame
import Derived.Lib.SmallJoins
import Derived.Deep.Slices
namespace Go.Proofs.Ytflaclocakbkgaa
open Go.ChangeShapes Go.WideShapes Go.ChangeAt Go.RowKit Go.Joins

theorem Try.own : ownKnob Try.prog.godebug = none := by kernel_rfl
theorem Try.laidOut : laidOutB Try.prog = true := by kernel_rfl
theorem Try.cellsU8 : Try.prog.cellsOf 5 = 1 := by kernel_rfl
theorem Try.cellsInt : Try.prog.cellsOf 3 = 1 := by kernel_rfl
theorem Try.cellsBool : Try.prog.cellsOf 4 = 1 := by kernel_rfl
theorem Try.cellsAct : Try.prog.cellsOf 34 = 3 := by kernel_rfl
theorem Try.cellsGr : Try.prog.cellsOf 32 = 2 := by kernel_rfl

/-- A slice of bytes that came in. -/
theorem bytes_of {H : Type} {enc : TypeId × Value → H} {w : World} {base : Nat} {spare : Nat → Bool} {held : Bool} {fuel : Nat} {v : Value} {x : DataW H × List MemPlace}
    (h : DataW.trod enc Try.prog w base spare held fuel 43 [v] = some x) : ∃ (a : Option Addr) (len cap : Nat) (xs : List Nat), v = .slice a len cap ∧ xs.length = len ∧ (∀ x ∈ xs, x < 256) ∧ In w a xs ∧ len ≤ cap ∧ (a = none → cap = 0) := by
  rcases open_ints Try.underlying43 Try.underlying5 Try.cellsU8 h with ⟨hcs, _⟩ | ⟨b, len', cap', zs, hcs, _, hl, hm, hz, _, hcell, hwz⟩
  · simp at hcs
    exact ⟨none, 0, 0, [], hcs, rfl, by simp, .inl rfl, Nat.le_refl _, fun _ => rfl⟩
  · simp at hcs
    have hlz : len' ≤ zs.length := by rw [hz]; split <;> omega
    have wz : ∀ z ∈ zs, 0 ≤ z ∧ z < 256 := fun z hz' => by
      have := hwz z hz'
      simp [Lit.wf, IntKind.min, IntKind.max, IntKind.signed, IntKind.bits] at this
      omega
    refine ⟨some b, len', cap', (zs.take len').map Int.toNat, hcs, by simp; omega, ?_, .inr ⟨b, rfl, ?_⟩, hl, fun h => by cases h⟩
    · intro x hx
      obtain ⟨z, hz', rfl⟩ := List.mem_map.1 hx
      have := wz z (List.mem_of_mem_take hz')
      omega
    · intro i hi
      simp at hi
      have hi' : i < zs.length := by omega
      rw [hcell i hi']
      have h1 := wz _ (List.getElem_mem hi')
      simp [List.getD_eq_getElem?_getD, hi', show i < len' by omega]
      omega

theorem mapM_of {α : Type} {f : Nat → Option α} : ∀ (l : List Nat) {ys : List α}, l.mapM f = some ys → ys.length = l.length ∧ ∀ (i x : Nat), l[i]? = some x → f x = ys[i]?
  | [], ys, h => by simp at h; subst h; exact ⟨rfl, fun i x hx => by simp at hx⟩
  | x :: l, ys, h => by
    rw [List.mapM_cons] at h
    cases hx : f x with
    | none => simp [hx] at h
    | some y =>
      cases hl : l.mapM f with
      | none => simp [hx, hl] at h
      | some zs =>
        simp [hx, hl] at h
        subst h
        obtain ⟨h1, h2⟩ := mapM_of l hl
        refine ⟨by simp [h1], fun i z hz => ?_⟩
        cases i with
        | zero => simp at hz; subst hz; simpa using hx
        | succ i => simpa using h2 i z (by simpa using hz)
theorem spot_none {w : World} {a : Addr} {v : Value} (h : w.cell? a = some v) : a.spot = none := by
  unfold World.cell? at h
  split at h
  · split at h
    · cases h
    · next hs => simpa using hs
  · cases h

/-- A number of kind int that came in. -/
def I64 (x : Int) : Prop := -9223372036854775808 ≤ x ∧ x ≤ 9223372036854775807
theorem i64_of_wf {x : Int} (h : (Lit.int .i64 x).wf = true) : I64 x := by
  simp [Lit.wf, IntKind.min, IntKind.max, IntKind.signed, IntKind.bits] at h
  exact ⟨by omega, by omega⟩

/-- The fields of a greeting, out of its cells. -/
theorem gr_cells {H : Type} {enc : TypeId × Value → H} {w : World} {base : Nat} {spare : Nat → Bool} {held : Bool} {fuel : Nat} {v0 v1 : Value} {x : DataW H × List MemPlace}
    (h : DataW.trod enc Try.prog w base spare held fuel 32 [v0, v1] = some x) : ∃ m y : Int, v0 = .int .i64 m ∧ v1 = .int .i64 y ∧ I64 m ∧ I64 y := by
  obtain ⟨ys, m', _, _, _, hyl, hf⟩ := DataW.trod_struct Try.underlying32 h
  have e0 : DataW.trod enc Try.prog w base spare held m' 3 [v0] = ys[0]? := by simpa [Try.cellsInt] using hf 0 _ rfl
  have e1 : DataW.trod enc Try.prog w base spare held m' 3 [v1] = ys[1]? := by simpa [Try.cellsInt] using hf 1 _ rfl
  clear hf
  match ys, hyl with
  | [y0, y1], _ =>
    obtain ⟨z0, r0, _, w0⟩ := DataW.trod_int Try.underlying3 (x := y0) (by simpa using e0)
    obtain ⟨z1, r1, _, w1⟩ := DataW.trod_int Try.underlying3 (x := y1) (by simpa using e1)
    simp at r0 r1
    exact ⟨z0, z1, r0, r1, i64_of_wf w0, i64_of_wf w1⟩
/-- An act that came in; acts in memory. -/
structure Act8 where
  greet : Bool
  m : Int
  y : Int
instance : Inhabited Act8 := ⟨⟨false, 0, 0⟩⟩
def Acts8 (w : World) (a : Option Addr) (l : List Act8) : Prop := l = [] ∨ ∃ g o, a = some ⟨g, o, none⟩ ∧ ∀ j (h : j < l.length), w.cell? ⟨g, o + j * 3, none⟩ = some (.bool l[j].greet) ∧ w.cell? ⟨g, o + j * 3 + 1, none⟩ = some (.int .i64 l[j].m) ∧ w.cell? ⟨g, o + j * 3 + 2, none⟩ = some (.int .i64 l[j].y)
theorem acts8_at {w : World} {a : Option Addr} {l : List Act8} (h : Acts8 w a l) {j : Nat} (hj : j < l.length) : ∃ g o, a = some ⟨g, o, none⟩ ∧ w.cell? ⟨g, o + j * 3, none⟩ = some (.bool l[j].greet) ∧ w.cell? ⟨g, o + j * 3 + 1, none⟩ = some (.int .i64 l[j].m) ∧ w.cell? ⟨g, o + j * 3 + 2, none⟩ = some (.int .i64 l[j].y) := by
  rcases h with rfl | ⟨g, o, e, h⟩
  · cases hj
  · exact ⟨g, o, e, h j hj⟩
/-- A slice of acts that came in. -/
theorem acts8_of {H : Type} {enc : TypeId × Value → H} {w : World} {base : Nat} {spare : Nat → Bool} {held : Bool} {fuel : Nat} {v : Value} {x : DataW H × List MemPlace}
    (h : DataW.trod enc Try.prog w base spare held fuel 22 [v] = some x) : ∃ (a : Option Addr) (len cap : Nat) (l : List Act8), v = .slice a len cap ∧ l.length = len ∧ (∀ o ∈ l, I64 o.m ∧ I64 o.y) ∧ Acts8 w a l ∧ len ≤ cap ∧ cap ≤ maxLen ∧ (a = none → cap = 0) := by
  rcases Go.Deep.open_slice Try.underlying22 h with ⟨hcs, _⟩ | ⟨a, len, cap, m, n, D, Pl, hcs, _, hl, hmx, hm, _, hel⟩
  · simp at hcs
    exact ⟨none, 0, 0, [], hcs, rfl, (fun p hp => by cases hp), .inl rfl, Nat.le_refl _, Nat.zero_le _, fun _ => rfl⟩
  · simp at hcs
    have hlm : len ≤ m := by rw [hm]; split <;> omega
    have hE : ∀ i, i < len → ∃ o : Act8, (I64 o.m ∧ I64 o.y) ∧ w.cell? (a.add (i * 3 + 0)) = some (.bool o.greet) ∧ w.cell? (a.add (i * 3 + 1)) = some (.int .i64 o.m) ∧ w.cell? (a.add (i * 3 + 2)) = some (.int .i64 o.y) := by
      intro i hi
      obtain ⟨cs, h1, h2⟩ := hel i (by omega)
      rw [Try.cellsAct] at h1
      unfold World.cells? at h1
      split at h1
      · obtain ⟨hlen, hc⟩ := mapM_of _ h1
        have hlen : cs.length = 3 := by simpa using hlen
        match cs, hlen with
        | [v0, v1, v2], _ =>
          obtain ⟨ys, m', _, _, _, hyl, hf⟩ := DataW.trod_struct Try.underlying34 h2
          have e0 : DataW.trod enc Try.prog w base spare held m' 4 [v0] = ys[0]? := by simpa [Try.cellsBool] using hf 0 _ rfl
          have e1 : DataW.trod enc Try.prog w base spare held m' 32 [v1, v2] = ys[1]? := by simpa [Try.cellsBool, Try.cellsGr] using hf 1 _ rfl
          clear hf
          match ys, hyl with
          | [y0, y1], _ =>
            obtain ⟨b, r0, _⟩ := DataW.trod_bool Try.underlying4 (x := y0) (by simpa using e0)
            obtain ⟨z1, z2, r1, r2, w1, w2⟩ := gr_cells (x := y1) (by simpa using e1)
            simp at r0
            subst r0 r1 r2
            have g := fun j (hj : j < 3) => hc j j (by simp [hj])
            simp only [Go.Deep.add_add] at g
            exact ⟨⟨b, z1, z2⟩, ⟨w1, w2⟩, by simpa using g 0 (by omega), by simpa using g 1 (by omega), by simpa using g 2 (by omega)⟩
      · cases h1
    obtain ⟨f, hf⟩ := Go.Deep.choose_lt hE
    refine ⟨some a, len, cap, (List.range len).map f, hcs, by simp, ?_, ?_, hl, hmx, fun h => by cases h⟩
    · intro p hp
      obtain ⟨i, hi, rfl⟩ := List.mem_map.1 hp
      exact (hf i (by simpa using hi)).1
    by_cases h0 : len = 0
    · subst h0; exact .inl rfl
    obtain ⟨_, q0, _, _⟩ := hf 0 (by omega)
    have hs : a.spot = none := spot_none (a := a) (by simpa [Addr.add] using q0)
    obtain ⟨g, o, s⟩ := a
    obtain rfl : s = none := hs
    refine .inr ⟨g, o, rfl, fun j hj => ?_⟩
    have hj' : j < len := by simpa using hj
    obtain ⟨_, r0, r1, r2⟩ := hf j hj'
    simp only [add_at, ← Nat.add_assoc, Nat.add_zero] at r0 r1 r2
    have e : ((List.range len).map f)[j] = f j := by simp
    rw [e]
    exact ⟨r0, r1, r2⟩
/-- Greetings in memory. -/
def Grs (w : World) (a : Option Addr) (l : List (Int × Int)) : Prop := l = [] ∨ ∃ g o, a = some ⟨g, o, none⟩ ∧ ∀ j (h : j < l.length), w.cell? ⟨g, o + j * 2, none⟩ = some (.int .i64 l[j].1) ∧ w.cell? ⟨g, o + j * 2 + 1, none⟩ = some (.int .i64 l[j].2)
/-- A slice of greetings that came in. -/
theorem grs_of {H : Type} {enc : TypeId × Value → H} {w : World} {base : Nat} {spare : Nat → Bool} {held : Bool} {fuel : Nat} {v : Value} {x : DataW H × List MemPlace}
    (h : DataW.trod enc Try.prog w base spare held fuel 52 [v] = some x) : ∃ (a : Option Addr) (len cap : Nat) (l : List (Int × Int)), v = .slice a len cap ∧ l.length = len ∧ (∀ o ∈ l, I64 o.1 ∧ I64 o.2) ∧ Grs w a l ∧ len ≤ cap ∧ cap ≤ maxLen ∧ (a = none → cap = 0) := by
  rcases Go.Deep.open_slice Try.underlying52 h with ⟨hcs, _⟩ | ⟨a, len, cap, m, n, D, Pl, hcs, _, hl, hmx, hm, _, hel⟩
  · simp at hcs
    exact ⟨none, 0, 0, [], hcs, rfl, (fun p hp => by cases hp), .inl rfl, Nat.le_refl _, Nat.zero_le _, fun _ => rfl⟩
  · simp at hcs
    have hlm : len ≤ m := by rw [hm]; split <;> omega
    have hE : ∀ i, i < len → ∃ o : Int × Int, (I64 o.1 ∧ I64 o.2) ∧ w.cell? (a.add (i * 2 + 0)) = some (.int .i64 o.1) ∧ w.cell? (a.add (i * 2 + 1)) = some (.int .i64 o.2) := by
      intro i hi
      obtain ⟨cs, h1, h2⟩ := hel i (by omega)
      rw [Try.cellsGr] at h1
      unfold World.cells? at h1
      split at h1
      · obtain ⟨hlen, hc⟩ := mapM_of _ h1
        have hlen : cs.length = 2 := by simpa using hlen
        match cs, hlen with
        | [v0, v1], _ =>
          obtain ⟨z1, z2, r1, r2, w1, w2⟩ := gr_cells h2
          subst r1 r2
          have g := fun j (hj : j < 2) => hc j j (by simp [hj])
          simp only [Go.Deep.add_add] at g
          exact ⟨⟨z1, z2⟩, ⟨w1, w2⟩, by simpa using g 0 (by omega), by simpa using g 1 (by omega)⟩
      · cases h1
    obtain ⟨f, hf⟩ := Go.Deep.choose_lt hE
    refine ⟨some a, len, cap, (List.range len).map f, hcs, by simp, ?_, ?_, hl, hmx, fun h => by cases h⟩
    · intro p hp
      obtain ⟨i, hi, rfl⟩ := List.mem_map.1 hp
      exact (hf i (by simpa using hi)).1
    by_cases h0 : len = 0
    · subst h0; exact .inl rfl
    obtain ⟨_, q0, _⟩ := hf 0 (by omega)
    have hs : a.spot = none := spot_none (a := a) (by simpa [Addr.add] using q0)
    obtain ⟨g, o, s⟩ := a
    obtain rfl : s = none := hs
    refine .inr ⟨g, o, rfl, fun j hj => ?_⟩
    have hj' : j < len := by simpa using hj
    obtain ⟨_, r0, r1⟩ := hf j hj'
    simp only [add_at, ← Nat.add_assoc, Nat.add_zero] at r0 r1
    have e : ((List.range len).map f)[j] = f j := by simp
    rw [e]
    exact ⟨r0, r1⟩
end Go.Proofs.Ytflaclocakbkgaa
