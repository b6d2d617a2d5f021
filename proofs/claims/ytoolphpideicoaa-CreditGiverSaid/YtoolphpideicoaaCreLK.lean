/- Opening the arguments of layer 7's laws. -/
import Derived.Test.YtoolphpideicoaaCreG
import Derived.Test.YtoolphpideicoaaRows
import Derived.ProofKit
import Derived.OpenShut
import Derived.ChangeSame
import Derived.Lib.SmallJoins
import Derived.Deep.Slices
namespace Go.Proofs.Ytoolphpideicoaa
open Go.ChangeShapes Go.WideShapes Go.ChangeAt Go.RowKit Go.Joins

theorem Try.own : ownKnob Try.prog.godebug = none := by kernel_rfl
theorem Try.laidOut : laidOutB Try.prog = true := by kernel_rfl
theorem Try.cellsU8 : Try.prog.cellsOf 5 = 1 := by kernel_rfl
theorem Try.cellsInt : Try.prog.cellsOf 3 = 1 := by kernel_rfl
theorem Try.cellsAct : Try.prog.cellsOf 43 = 3 := by kernel_rfl

theorem trodAll_five {H : Type} {enc : TypeId × Value → H} {P : Program} {w : World} {base : Nat} {spare : Nat → Bool} {held : Bool} {t t' t'' t3 t4 : TypeId} {args : Array Value} {ds : List (DataW H)} {ps : List MemPlace} (h : DataW.TrodAll enc P w base spare held [t, t', t'', t3, t4] args.toList ds ps) :
    ∃ v v' v'' v3 v4 d d' d'' d3 d4 p p' p'' p3 p4, args = #[v, v', v'', v3, v4] ∧ ds = [d, d', d'', d3, d4] ∧ ps = p ++ p' ++ p'' ++ p3 ++ p4 ∧ DataW.Trod enc P w base spare held t v d p ∧ DataW.Trod enc P w base spare held t' v' d' p' ∧ DataW.Trod enc P w base spare held t'' v'' d'' p'' ∧ DataW.Trod enc P w base spare held t3 v3 d3 p3 ∧ DataW.Trod enc P w base spare held t4 v4 d4 p4 := by
  obtain ⟨v, vs, d, ds', p, q, hargs, rfl, rfl, hd, hrest⟩ := trodAll_cons h
  obtain ⟨v', vs', d', ds'', p', q', rfl, rfl, rfl, hd', hrest'⟩ := trodAll_cons hrest
  obtain ⟨v'', vs'', d'', ds''', p'', q'', rfl, rfl, rfl, hd'', hrest''⟩ := trodAll_cons hrest'
  obtain ⟨v3, vs3, d3, ds3, p3, q3, rfl, rfl, rfl, hd3, hrest3⟩ := trodAll_cons hrest''
  obtain ⟨v4, vs4, d4, ds4, p4, q4, rfl, rfl, rfl, hd4, hrest4⟩ := trodAll_cons hrest3
  obtain ⟨rfl, rfl, rfl⟩ := trodAll_nil hrest4
  exact ⟨v, v', v'', v3, v4, d, d', d'', d3, d4, p, p', p'', p3, p4, by cases args; simp_all, rfl, by simp, hd, hd', hd'', hd3, hd4⟩

/-- A slice of bytes that came in. -/
theorem bytes_of {H : Type} {enc : TypeId × Value → H} {w : World} {base : Nat} {spare : Nat → Bool} {held : Bool} {fuel : Nat} {v : Value} {x : DataW H × List MemPlace}
    (h : DataW.trod enc Try.prog w base spare held fuel 57 [v] = some x) : ∃ (a : Option Addr) (len cap : Nat) (xs : List Nat), v = .slice a len cap ∧ xs.length = len ∧ (∀ x ∈ xs, x < 256) ∧ In w a xs ∧ len ≤ cap ∧ (a = none → cap = 0) := by
  rcases open_ints Try.underlying57 Try.underlying5 Try.cellsU8 h with ⟨hcs, _⟩ | ⟨b, len', cap', zs, hcs, _, hl, hm, hz, _, hcell, hwz⟩
  · simp at hcs
    exact ⟨none, 0, 0, [], hcs, rfl, by simp, .inl rfl, Nat.le_refl _, fun _ => rfl⟩
  · simp at hcs
    have hlz : len' ≤ zs.length := by rw [hz]; split <;> omega
    have wz : ∀ z ∈ zs, 0 ≤ z ∧ z < 256 := fun z hz' => by
      have := hwz z hz'
      simp [Lit.wf, IntKind.min, IntKind.max, IntKind.signed, IntKind.bits] at this
      omega
    refine ⟨some b, len', cap', (zs.take len').map Int.toNat, hcs, by simp; omega, ?_, .inr ⟨b, rfl, ?_⟩, hl, fun h => by cases h⟩
    · intro x hx
      obtain ⟨z, hz', rfl⟩ := List.mem_map.1 hx
      have := wz z (List.mem_of_mem_take hz')
      omega
    · intro i hi
      simp at hi
      have hi' : i < zs.length := by omega
      rw [hcell i hi']
      have h1 := wz _ (List.getElem_mem hi')
      simp [List.getD_eq_getElem?_getD, hi', show i < len' by omega]
      omega

theorem mapM_of {α : Type} {f : Nat → Option α} : ∀ (l : List Nat) {ys : List α}, l.mapM f = some ys → ys.length = l.length ∧ ∀ (i x : Nat), l[i]? = some x → f x = ys[i]?
  | [], ys, h => by simp at h; subst h; exact ⟨rfl, fun i x hx => by simp at hx⟩
  | x :: l, ys, h => by
    rw [List.mapM_cons] at h
    cases hx : f x with
    | none => simp [hx] at h
    | some y =>
      cases hl : l.mapM f with
      | none => simp [hx, hl] at h
      | some zs =>
        simp [hx, hl] at h
        subst h
        obtain ⟨h1, h2⟩ := mapM_of l hl
        refine ⟨by simp [h1], fun i z hz => ?_⟩
        cases i with
        | zero => simp at hz; subst hz; simpa using hx
        | succ i => simpa using h2 i z (by simpa using hz)
theorem spot_none {w : World} {a : Addr} {v : Value} (h : w.cell? a = some v) : a.spot = none := by
  unfold World.cell? at h
  split at h
  · split at h
    · cases h
    · next hs => simpa using hs
  · cases h

/-- A number of kind int that came in. -/
def I64 (x : Int) : Prop := -9223372036854775808 ≤ x ∧ x ≤ 9223372036854775807
theorem i64_of_wf {x : Int} (h : (Lit.int .i64 x).wf = true) : I64 x := by
  simp [Lit.wf, IntKind.min, IntKind.max, IntKind.signed, IntKind.bits] at h
  exact ⟨by omega, by omega⟩

/-- A slice of ints that came in. -/
theorem ints_of {H : Type} {enc : TypeId × Value → H} {w : World} {base : Nat} {spare : Nat → Bool} {held : Bool} {fuel : Nat} {v : Value} {x : DataW H × List MemPlace}
    (h : DataW.trod enc Try.prog w base spare held fuel 22 [v] = some x) : ∃ (a : Option Addr) (len cap : Nat) (xs : List Int), v = .slice a len cap ∧ xs.length = len ∧ (∀ x ∈ xs, I64 x) ∧ Ints w a xs ∧ len ≤ cap ∧ cap ≤ maxLen ∧ (a = none → cap = 0) := by
  rcases open_ints Try.underlying22 Try.underlying3 Try.cellsInt h with ⟨hcs, _⟩ | ⟨b, len', cap', zs, hcs, _, hl, hm, hz, _, hcell, hwz⟩
  · simp at hcs
    exact ⟨none, 0, 0, [], hcs, rfl, by simp, .inl rfl, Nat.le_refl _, Nat.zero_le _, fun _ => rfl⟩
  · simp at hcs
    have hlz : len' ≤ zs.length := by rw [hz]; split <;> omega
    by_cases h0 : len' = 0
    · subst h0
      exact ⟨some b, 0, cap', [], hcs, rfl, by simp, .inl rfl, Nat.zero_le _, hm, fun h => by cases h⟩
    have c0 := hcell 0 (by omega)
    have hs : b.spot = none := spot_none (a := b) (by simpa [Addr.add] using c0)
    obtain ⟨g, o, s⟩ := b
    obtain rfl : s = none := hs
    refine ⟨some ⟨g, o, none⟩, len', cap', zs.take len', hcs, by simp; omega, ?_, .inr ⟨g, o, rfl, fun j hj => ?_⟩, hl, hm, fun h => by cases h⟩
    · intro z hz'
      exact i64_of_wf (hwz z (List.mem_of_mem_take hz'))
    · have hj' : j < len' := by simp at hj; omega
      have := hcell j (by omega)
      rw [add_at] at this
      rw [List.getElem_take, this]
      simp [List.getD_eq_getElem?_getD, List.getElem?_eq_getElem (show j < zs.length by omega)]

/-- A call that came in. -/
structure Act' where
  kind : Int
  cls : Int
  num : Int
instance : Inhabited Act' := ⟨⟨0, 0, 0⟩⟩
/-- Calls in memory. -/
def Acts (w : World) (a : Option Addr) (l : List Act') : Prop := l = [] ∨ ∃ g o, a = some ⟨g, o, none⟩ ∧ ∀ j (h : j < l.length), w.cell? ⟨g, o + j * 3, none⟩ = some (.int .i64 l[j].kind) ∧ w.cell? ⟨g, o + j * 3 + 1, none⟩ = some (.int .i64 l[j].cls) ∧ w.cell? ⟨g, o + j * 3 + 2, none⟩ = some (.int .i64 l[j].num)
/-- A slice of calls that came in. -/
theorem acts_of {H : Type} {enc : TypeId × Value → H} {w : World} {base : Nat} {spare : Nat → Bool} {held : Bool} {fuel : Nat} {v : Value} {x : DataW H × List MemPlace}
    (h : DataW.trod enc Try.prog w base spare held fuel 38 [v] = some x) : ∃ (a : Option Addr) (len cap : Nat) (l : List Act'), v = .slice a len cap ∧ l.length = len ∧ (∀ o ∈ l, I64 o.cls ∧ I64 o.num) ∧ Acts w a l ∧ len ≤ cap ∧ cap ≤ maxLen ∧ (a = none → cap = 0) := by
  rcases Go.Deep.open_slice Try.underlying38 h with ⟨hcs, _⟩ | ⟨a, len, cap, m, n, D, Pl, hcs, _, hl, hmx, hm, _, hel⟩
  · simp at hcs
    exact ⟨none, 0, 0, [], hcs, rfl, (fun p hp => by cases hp), .inl rfl, Nat.le_refl _, Nat.zero_le _, fun _ => rfl⟩
  · simp at hcs
    have hlm : len ≤ m := by rw [hm]; split <;> omega
    have hE : ∀ i, i < len → ∃ o : Act', (I64 o.cls ∧ I64 o.num) ∧ w.cell? (a.add (i * 3 + 0)) = some (.int .i64 o.kind) ∧ w.cell? (a.add (i * 3 + 1)) = some (.int .i64 o.cls) ∧ w.cell? (a.add (i * 3 + 2)) = some (.int .i64 o.num) := by
      intro i hi
      obtain ⟨cs, h1, h2⟩ := hel i (by omega)
      rw [Try.cellsAct] at h1
      unfold World.cells? at h1
      split at h1
      · obtain ⟨hlen, hc⟩ := mapM_of _ h1
        have hlen : cs.length = 3 := by simpa using hlen
        match cs, hlen with
        | [v0, v1, v2], _ =>
          obtain ⟨ys, m', _, _, _, hyl, hf⟩ := DataW.trod_struct Try.underlying43 h2
          have e0 : DataW.trod enc Try.prog w base spare held m' 3 [v0] = ys[0]? := by simpa [Try.cellsInt] using hf 0 _ rfl
          have e1 : DataW.trod enc Try.prog w base spare held m' 3 [v1] = ys[1]? := by simpa [Try.cellsInt] using hf 1 _ rfl
          have e2 : DataW.trod enc Try.prog w base spare held m' 3 [v2] = ys[2]? := by simpa [Try.cellsInt] using hf 2 _ rfl
          clear hf
          match ys, hyl with
          | [y0, y1, y2], _ =>
            obtain ⟨z0, r0, _, _⟩ := DataW.trod_int Try.underlying3 (x := y0) (by simpa using e0)
            obtain ⟨z1, r1, _, w1⟩ := DataW.trod_int Try.underlying3 (x := y1) (by simpa using e1)
            obtain ⟨z2, r2, _, w2⟩ := DataW.trod_int Try.underlying3 (x := y2) (by simpa using e2)
            simp at r0 r1 r2
            subst r0 r1 r2
            have g := fun j (hj : j < 3) => hc j j (by simp [hj])
            simp only [Go.Deep.add_add] at g
            exact ⟨⟨z0, z1, z2⟩, ⟨i64_of_wf w1, i64_of_wf w2⟩, by simpa using g 0 (by omega), by simpa using g 1 (by omega), by simpa using g 2 (by omega)⟩
      · cases h1
    obtain ⟨f, hf⟩ := Go.Deep.choose_lt hE
    refine ⟨some a, len, cap, (List.range len).map f, hcs, by simp, ?_, ?_, hl, hmx, fun h => by cases h⟩
    · intro p hp
      obtain ⟨i, hi, rfl⟩ := List.mem_map.1 hp
      exact (hf i (by simpa using hi)).1
    by_cases h0 : len = 0
    · subst h0; exact .inl rfl
    obtain ⟨_, q0, _, _⟩ := hf 0 (by omega)
    have hs : a.spot = none := spot_none (a := a) (by simpa [Addr.add] using q0)
    obtain ⟨g, o, s⟩ := a
    obtain rfl : s = none := hs
    refine .inr ⟨g, o, rfl, fun j hj => ?_⟩
    have hj' : j < len := by simpa using hj
    obtain ⟨_, r0, r1, r2⟩ := hf j hj'
    simp only [add_at, ← Nat.add_assoc, Nat.add_zero] at r0 r1 r2
    have e : ((List.range len).map f)[j] = f j := by simp
    rw [e]
    exact ⟨r0, r1, r2⟩
end Go.Proofs.Ytoolphpideicoaa
