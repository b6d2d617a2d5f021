/- Opening packets and bytes that came in as arguments. -/
import Derived.Test.YthfoakomapmkeaaDoorMrC
import Derived.ProofKit
import Derived.OpenShut
import Derived.ChangeSame
import Derived.Lib.SmallJoins
namespace Go.Proofs.YthfoakomapmkeaaDoor
open Go.ChangeShapes Go.WideShapes Go.ChangeAt Go.RowKit Go.Joins

theorem Tryd.cellsU8 : Tryd.prog.cellsOf 5 = 1 := by kernel_rfl
theorem Tryd.cellsInt : Tryd.prog.cellsOf 3 = 1 := by kernel_rfl
theorem Tryd.cellsSl : Tryd.prog.cellsOf 22 = 1 := by kernel_rfl
theorem Tryd.cellsPk : Tryd.prog.cellsOf 24 = 5 := by kernel_rfl

/-- A slice of bytes that came in. -/
theorem bytes_of {H : Type} {enc : TypeId × Value → H} {w : World} {base : Nat} {spare : Nat → Bool} {held : Bool} {fuel : Nat} {v : Value} {x : DataW H × List MemPlace}
    (h : DataW.trod enc Tryd.prog w base spare held fuel 22 [v] = some x) : ∃ (a : Option Addr) (len cap : Nat) (xs : List Nat), v = .slice a len cap ∧ xs.length = len ∧ (∀ x ∈ xs, x < 256) ∧ In w a xs ∧ len ≤ cap ∧ (a = none → cap = 0) := by
  rcases open_ints Tryd.underlying22 Tryd.underlying5 Tryd.cellsU8 h with ⟨hcs, _⟩ | ⟨b, len', cap', zs, hcs, _, hl, hm, hz, _, hcell, hwz⟩
  · simp at hcs
    exact ⟨none, 0, 0, [], hcs, rfl, by simp, .inl rfl, Nat.le_refl _, fun _ => rfl⟩
  · simp at hcs
    have hlz : len' ≤ zs.length := by rw [hz]; split <;> omega
    have wz : ∀ z ∈ zs, 0 ≤ z ∧ z < 256 := fun z hz' => by
      have := hwz z hz'
      simp [Lit.wf, IntKind.min, IntKind.max, IntKind.signed, IntKind.bits] at this
      omega
    refine ⟨some b, len', cap', (zs.take len').map Int.toNat, hcs, by simp; omega, ?_, .inr ⟨b, rfl, ?_⟩, hl, fun h => by cases h⟩
    · intro x hx
      obtain ⟨z, hz', rfl⟩ := List.mem_map.1 hx
      have := wz z (List.mem_of_mem_take hz')
      omega
    · intro i hi
      simp at hi
      have hi' : i < zs.length := by omega
      rw [hcell i hi']
      have h1 := wz _ (List.getElem_mem hi')
      simp [List.getD_eq_getElem?_getD, hi', show i < len' by omega]
      omega

/-- The fields of a packet, out of its cells. -/
theorem pk_cells {H : Type} {enc : TypeId × Value → H} {w : World} {base : Nat} {spare : Nat → Bool} {held : Bool} {fuel : Nat} {v0 v1 v2 v3 v4 : Value} {x : DataW H × List MemPlace}
    (h : DataW.trod enc Tryd.prog w base spare held fuel 24 [v0, v1, v2, v3, v4] = some x) :
    ∃ (k : Nat) (c n v : Int) (a : Option Addr) (l cap : Nat) (pay : List Nat), [v0, v1, v2, v3, v4] = (pkC k c n v a l cap).toList ∧ k < 256 ∧ (-9223372036854775808 ≤ c ∧ c ≤ 9223372036854775807) ∧ (-9223372036854775808 ≤ n ∧ n ≤ 9223372036854775807) ∧ (-9223372036854775808 ≤ v ∧ v ≤ 9223372036854775807) ∧
      pay.length = l ∧ (∀ x ∈ pay, x < 256) ∧ In w a pay ∧ l ≤ cap ∧ (a = none → cap = 0) := by
  obtain ⟨ys, m, _, _, _, hyl, hf⟩ := DataW.trod_struct Tryd.underlying24 h
  have e0 : DataW.trod enc Tryd.prog w base spare held m 5 [v0] = ys[0]? := by simpa [Tryd.cellsU8] using hf 0 _ rfl
  have e1 : DataW.trod enc Tryd.prog w base spare held m 3 [v1] = ys[1]? := by simpa [Tryd.cellsInt] using hf 1 _ rfl
  have e2 : DataW.trod enc Tryd.prog w base spare held m 3 [v2] = ys[2]? := by simpa [Tryd.cellsInt] using hf 2 _ rfl
  have e3 : DataW.trod enc Tryd.prog w base spare held m 3 [v3] = ys[3]? := by simpa [Tryd.cellsInt] using hf 3 _ rfl
  have e4 : DataW.trod enc Tryd.prog w base spare held m 22 [v4] = ys[4]? := by simpa [Tryd.cellsSl] using hf 4 _ rfl
  clear hf
  match ys, hyl with
  | [y0, y1, y2, y3, y4], _ =>
    obtain ⟨z0, r0, _, w0⟩ := DataW.trod_int Tryd.underlying5 (x := y0) (by simpa using e0)
    obtain ⟨z1, r1, _, w1⟩ := DataW.trod_int Tryd.underlying3 (x := y1) (by simpa using e1)
    obtain ⟨z2, r2, _, w2⟩ := DataW.trod_int Tryd.underlying3 (x := y2) (by simpa using e2)
    obtain ⟨z3, r3, _, w3⟩ := DataW.trod_int Tryd.underlying3 (x := y3) (by simpa using e3)
    obtain ⟨a, l, cap, pay, r4, hl, hp, hin, hc, hn⟩ := bytes_of (x := y4) (by simpa using e4)
    simp at r0 r1 r2 r3
    subst r0 r1 r2 r3 r4
    simp [Lit.wf, IntKind.min, IntKind.max, IntKind.signed, IntKind.bits] at w0 w1 w2 w3
    refine ⟨z0.toNat, z1, z2, z3, a, l, cap, pay, ?_, by omega, by omega, by omega, by omega, hl, hp, hin, hc, hn⟩
    have : ((z0.toNat : Nat) : Int) = z0 := by omega
    simp [nU8, this]

/-- A packet that came in by value. -/
theorem pk_open {H : Type} {enc : TypeId × Value → H} {w : World} {base : Nat} {spare : Nat → Bool} {held : Bool} {r : Reach} {b0 : Nat} {u : Value} {d : DataW H} {p : List MemPlace}
    (hv : Value.okWide Tryd.prog w r b0 24 u) (h : DataW.Trod enc Tryd.prog w base spare held 24 u d p) :
    ∃ (k : Nat) (c n v : Int) (a : Option Addr) (l cap : Nat) (pay : List Nat), u = pkV k c n v a l cap ∧ k < 256 ∧ (-9223372036854775808 ≤ c ∧ c ≤ 9223372036854775807) ∧ (-9223372036854775808 ≤ n ∧ n ≤ 9223372036854775807) ∧ (-9223372036854775808 ≤ v ∧ v ≤ 9223372036854775807) ∧
      pay.length = l ∧ (∀ x ∈ pay, x < 256) ∧ In w a pay ∧ l ≤ cap ∧ (a = none → cap = 0) := by
  obtain ⟨cs, rfl, hsz⟩ := okWide_struct Tryd.underlying24 hv
  obtain ⟨fuel, hf⟩ := h
  obtain ⟨l⟩ := cs
  have hl5 : l.length = 5 := by simpa using hsz.trans Tryd.cellsPk
  match l, hl5 with
  | [v0, v1, v2, v3, v4], _ =>
    obtain ⟨k, c, n, v, a, l, cap, pay, he, h⟩ := pk_cells (v0 := v0) (v1 := v1) (v2 := v2) (v3 := v3) (v4 := v4) (by simpa [Value.cells] using hf)
    exact ⟨k, c, n, v, a, l, cap, pay, by rw [he], h⟩
end Go.Proofs.YthfoakomapmkeaaDoor
