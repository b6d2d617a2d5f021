/- A slice of packets that came in as an argument, opened. -/
import Derived.Test.YthfoakomapmkeaaDoorMrDm
import Derived.Test.YthfoakomapmkeaaDoorMrK
import Derived.Deep.Slices
namespace Go.Proofs.YthfoakomapmkeaaDoor
open Go.ChangeShapes Go.WideShapes Go.ChangeAt Go.RowKit Go.Joins

theorem mapM_of {α : Type} {f : Nat → Option α} : ∀ (l : List Nat) {ys : List α}, l.mapM f = some ys → ys.length = l.length ∧ ∀ (i x : Nat), l[i]? = some x → f x = ys[i]?
  | [], ys, h => by simp at h; subst h; exact ⟨rfl, fun i x hx => by simp at hx⟩
  | x :: l, ys, h => by
    rw [List.mapM_cons] at h
    cases hx : f x with
    | none => simp [hx] at h
    | some y =>
      cases hl : l.mapM f with
      | none => simp [hx, hl] at h
      | some zs =>
        simp [hx, hl] at h
        subst h
        obtain ⟨h1, h2⟩ := mapM_of l hl
        refine ⟨by simp [h1], fun i z hz => ?_⟩
        cases i with
        | zero => simp at hz; subst hz; simpa using hx
        | succ i => simpa using h2 i z (by simpa using hz)
theorem add_at (g o n : Nat) : (⟨g, o, none⟩ : Addr).add n = ⟨g, o + n, none⟩ := by
  unfold Addr.add
  split
  · next h => subst h; rfl
  · rfl
theorem spot_none {w : World} {a : Addr} {v : Value} (h : w.cell? a = some v) : a.spot = none := by
  unfold World.cell? at h
  split at h
  · split at h
    · cases h
    · next hs => simpa using hs
  · cases h

theorem pks_of {H : Type} {enc : TypeId × Value → H} {w : World} {base : Nat} {spare : Nat → Bool} {held : Bool} {fuel : Nat} {v : Value} {x : DataW H × List MemPlace}
    (h : DataW.trod enc Tryd.prog w base spare held fuel 49 [v] = some x) : ∃ (a : Option Addr) (len cap : Nat) (ps : List Pkt), v = .slice a len cap ∧ ps.length = len ∧ (∀ p ∈ ps, p.fine) ∧ ArgPks w a ps ∧ len ≤ cap ∧ (a = none → cap = 0) := by
  rcases Go.Deep.open_slice Tryd.underlying49 h with ⟨hcs, _⟩ | ⟨a, len, cap, m, n, D, Pl, hcs, _, hl, _, hm, _, hel⟩
  · simp at hcs
    exact ⟨none, 0, 0, [], hcs, rfl, (fun p hp => by cases hp), .inl rfl, Nat.le_refl _, fun _ => rfl⟩
  · simp at hcs
    have hlm : len ≤ m := by rw [hm]; split <;> omega
    have hE : ∀ i, i < len → ∃ p : Pkt, p.fine ∧ (∃ (b : Option Addr) (l c : Nat), w.cell? (a.add (i * 5 + 0)) = some (nU8 p.k) ∧ w.cell? (a.add (i * 5 + 1)) = some (.int .i64 p.c) ∧ w.cell? (a.add (i * 5 + 2)) = some (.int .i64 p.n) ∧ w.cell? (a.add (i * 5 + 3)) = some (.int .i64 p.v) ∧ w.cell? (a.add (i * 5 + 4)) = some (.slice b l c) ∧ p.pay.length = l ∧ In w b p.pay ∧ (b = none → c = 0)) := by
      intro i hi
      obtain ⟨cs, h1, h2⟩ := hel i (by omega)
      rw [Tryd.cellsPk] at h1
      unfold World.cells? at h1
      split at h1
      · obtain ⟨hlen, hc⟩ := mapM_of _ h1
        have hlen : cs.length = 5 := by simpa using hlen
        match cs, hlen with
        | [v0, v1, v2, v3, v4], _ =>
          obtain ⟨k, c, n', vv, b, l, cp, pay, he, hk, _, _, _, hpl, hpx, hpi, _, hpn⟩ := pk_cells h2
          have g := fun j (hj : j < 5) => hc j j (by simp [hj])
          simp only [Go.Deep.add_add] at g
          simp at he
          obtain ⟨rfl, rfl, rfl, rfl, rfl⟩ := he
          exact ⟨⟨k, c, n', vv, pay⟩, ⟨hk, hpx⟩, b, l, cp, by simpa using g 0 (by omega), by simpa using g 1 (by omega), by simpa using g 2 (by omega), by simpa using g 3 (by omega), by simpa using g 4 (by omega), hpl, hpi, hpn⟩
      · cases h1
    obtain ⟨f, hf⟩ := Go.Deep.choose_lt hE
    refine ⟨some a, len, cap, (List.range len).map f, hcs, by simp, ?_, ?_, hl, fun h => by cases h⟩
    · intro p hp
      obtain ⟨i, hi, rfl⟩ := List.mem_map.1 hp
      exact (hf i (by simpa using hi)).1
    · by_cases h0 : len = 0
      · subst h0; exact .inl rfl
      obtain ⟨_, _, _, _, q0, _⟩ := hf 0 (by omega)
      have hs : a.spot = none := spot_none (a := a) (by simpa [Addr.add] using q0)
      obtain ⟨g, o, s⟩ := a
      obtain rfl : s = none := hs
      refine .inr ⟨g, o, rfl, fun j hj => ?_⟩
      have hj' : j < len := by simpa using hj
      obtain ⟨_, b, l, c, r0, r1, r2, r3, r4, r5, r6, r7⟩ := hf j hj'
      simp only [add_at, ← Nat.add_assoc, Nat.add_zero] at r0 r1 r2 r3 r4
      have e : ((List.range len).map f)[j] = f j := by simp
      rw [e]
      exact ⟨b, l, c, r0, r1, r2, r3, r4, r5, r6, r7⟩
end Go.Proofs.YthfoakomapmkeaaDoor
