/- Opening a Talk that came in by value. -/
import Derived.Test.YtfpicobjnpjhlaaRetLK
namespace Go.Proofs.Ytfpicobjnpjhlaa
open Go.ChangeShapes Go.WideShapes Go.ChangeAt Go.RowKit Go.Joins

theorem Try.cellsBool : Try.prog.cellsOf 4 = 1 := by kernel_rfl
theorem Try.cellsTalk : Try.prog.cellsOf 52 = 7 := by kernel_rfl
theorem talk_cells {H : Type} {enc : TypeId × Value → H} {w : World} {base : Nat} {spare : Nat → Bool} {held : Bool} {fuel : Nat} {v0 v1 v2 v3 v4 v5 v6 : Value} {x : DataW H × List MemPlace}
    (h : DataW.trod enc Try.prog w base spare held fuel 52 [v0, v1, v2, v3, v4, v5, v6] = some x) :
    ∃ (W τ d : Int) (a1 : Option Addr) (l1 c1 : Nat) (xs1 : List Nat) (a2 : Option Addr) (l2 c2 : Nat) (xs2 : List Nat) (a3 : Option Addr) (l3 c3 : Nat) (xs3 : List Nat) (nk : Bool), [v0, v1, v2, v3, v4, v5, v6] = [.int .i64 W, .int .i64 τ, .int .i64 d, .slice a1 l1 c1, .slice a2 l2 c2, .slice a3 l3 c3, .bool nk] ∧
      xs1.length = l1 ∧ xs2.length = l2 ∧ xs3.length = l3 ∧ (∀ x ∈ xs1, x < 256) ∧ (∀ x ∈ xs2, x < 256) ∧ (∀ x ∈ xs3, x < 256) ∧ In w a1 xs1 ∧ In w a2 xs2 ∧ In w a3 xs3 := by
  obtain ⟨ys, m, _, _, _, hyl, hf⟩ := DataW.trod_struct Try.underlying52 h
  have e0 : DataW.trod enc Try.prog w base spare held m 3 [v0] = ys[0]? := by simpa [Try.cellsInt] using hf 0 _ rfl
  have e1 : DataW.trod enc Try.prog w base spare held m 3 [v1] = ys[1]? := by simpa [Try.cellsInt] using hf 1 _ rfl
  have e2 : DataW.trod enc Try.prog w base spare held m 3 [v2] = ys[2]? := by simpa [Try.cellsInt] using hf 2 _ rfl
  have e3 : DataW.trod enc Try.prog w base spare held m 32 [v3] = ys[3]? := by simpa [Try.cellsInt, Try.cellsSl] using hf 3 _ rfl
  have e4 : DataW.trod enc Try.prog w base spare held m 32 [v4] = ys[4]? := by simpa [Try.cellsInt, Try.cellsSl] using hf 4 _ rfl
  have e5 : DataW.trod enc Try.prog w base spare held m 32 [v5] = ys[5]? := by simpa [Try.cellsInt, Try.cellsSl] using hf 5 _ rfl
  have e6 : DataW.trod enc Try.prog w base spare held m 4 [v6] = ys[6]? := by simpa [Try.cellsInt, Try.cellsSl, Try.cellsBool] using hf 6 _ rfl
  clear hf
  match ys, hyl with
  | [y0, y1, y2, y3, y4, y5, y6], _ =>
    obtain ⟨z0, r0, _, _⟩ := DataW.trod_int Try.underlying3 (x := y0) (by simpa using e0)
    obtain ⟨z1, r1, _, _⟩ := DataW.trod_int Try.underlying3 (x := y1) (by simpa using e1)
    obtain ⟨z2, r2, _, _⟩ := DataW.trod_int Try.underlying3 (x := y2) (by simpa using e2)
    obtain ⟨a1, l1, c1, xs1, r3, hl1, hx1, hi1, _, _⟩ := bytes_of (x := y3) (by simpa using e3)
    obtain ⟨a2, l2, c2, xs2, r4, hl2, hx2, hi2, _, _⟩ := bytes_of (x := y4) (by simpa using e4)
    obtain ⟨a3, l3, c3, xs3, r5, hl3, hx3, hi3, _, _⟩ := bytes_of (x := y5) (by simpa using e5)
    obtain ⟨nk, r6, _⟩ := DataW.trod_bool Try.underlying4 (x := y6) (by simpa using e6)
    simp at r0 r1 r2 r6
    subst r0 r1 r2 r3 r4 r5 r6
    exact ⟨z0, z1, z2, a1, l1, c1, xs1, a2, l2, c2, xs2, a3, l3, c3, xs3, nk, rfl, hl1, hl2, hl3, hx1, hx2, hx3, hi1, hi2, hi3⟩
theorem talk_open {H : Type} {enc : TypeId × Value → H} {w : World} {base : Nat} {spare : Nat → Bool} {held : Bool} {r : Reach} {b0 : Nat} {u : Value} {d : DataW H} {p : List MemPlace}
    (hv : Value.okWide Try.prog w r b0 52 u) (h : DataW.Trod enc Try.prog w base spare held 52 u d p) :
    ∃ (W τ d : Int) (a1 : Option Addr) (l1 c1 : Nat) (xs1 : List Nat) (a2 : Option Addr) (l2 c2 : Nat) (xs2 : List Nat) (a3 : Option Addr) (l3 c3 : Nat) (xs3 : List Nat) (nk : Bool), u = .agg #[.int .i64 W, .int .i64 τ, .int .i64 d, .slice a1 l1 c1, .slice a2 l2 c2, .slice a3 l3 c3, .bool nk] ∧
      xs1.length = l1 ∧ xs2.length = l2 ∧ xs3.length = l3 ∧ (∀ x ∈ xs1, x < 256) ∧ (∀ x ∈ xs2, x < 256) ∧ (∀ x ∈ xs3, x < 256) ∧ In w a1 xs1 ∧ In w a2 xs2 ∧ In w a3 xs3 := by
  obtain ⟨cs, rfl, hsz⟩ := okWide_struct Try.underlying52 hv
  obtain ⟨fuel, hf⟩ := h
  obtain ⟨l⟩ := cs
  have hl7 : l.length = 7 := by simpa using hsz.trans Try.cellsTalk
  match l, hl7 with
  | [v0, v1, v2, v3, v4, v5, v6], _ =>
    obtain ⟨W, τ, d, a1, l1, c1, xs1, a2, l2, c2, xs2, a3, l3, c3, xs3, nk, he, h⟩ := talk_cells (v0 := v0) (v1 := v1) (v2 := v2) (v3 := v3) (v4 := v4) (v5 := v5) (v6 := v6) (by simpa [Value.cells] using hf)
    exact ⟨W, τ, d, a1, l1, c1, xs1, a2, l2, c2, xs2, a3, l3, c3, xs3, nk, by rw [he], h⟩
end Go.Proofs.Ytfpicobjnpjhlaa
