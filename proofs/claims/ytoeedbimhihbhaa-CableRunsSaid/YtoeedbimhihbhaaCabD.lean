/- The clone of a list of faults; New. -/
import Derived.Test.YtoeedbimhihbhaaCabB
namespace Go.Proofs.Ytoeedbimhihbhaa
open Go.RowKit

/-- A fault as a value. -/
abbrev ftV (f : Ft) : Value := .agg #[.int .i64 f.at_, .int .i64 f.kind, .int .i64 f.arg]
/-- The cells of some faults. -/
def ftCells (fs : List Ft) : List Value := fs.flatMap fun f => [.int .i64 f.at_, .int .i64 f.kind, .int .i64 f.arg]
theorem ftCells_length (fs : List Ft) : (ftCells fs).length = fs.length * 3 := by
  unfold ftCells
  induction fs with
  | nil => rfl
  | cons f r ih => rw [List.flatMap_cons, List.length_append, ih]; show 3 + r.length * 3 = (r.length + 1) * 3; omega
theorem ftCells_get : ∀ (fs : List Ft) (i : Nat) (h : i < fs.length), (ftCells fs)[i * 3]? = some (.int .i64 fs[i].at_) ∧ (ftCells fs)[i * 3 + 1]? = some (.int .i64 fs[i].kind) ∧ (ftCells fs)[i * 3 + 2]? = some (.int .i64 fs[i].arg)
  | f :: r, 0, _ => ⟨rfl, rfl, rfl⟩
  | f :: r, i + 1, h => by
    obtain ⟨h0, h1, h2⟩ := ftCells_get r i (by simpa using h)
    have e : ∀ j, (ftCells (f :: r))[3 + j]? = (ftCells r)[j]? := fun j => by
      show ([_, _, _] ++ ftCells r)[3 + j]? = _
      rw [List.getElem?_append_right (by simp)]
      simp
    refine ⟨?_, ?_, ?_⟩
    · rw [show (i + 1) * 3 = 3 + i * 3 by omega, e]; exact h0
    · rw [show (i + 1) * 3 + 1 = 3 + (i * 3 + 1) by omega, e]; exact h1
    · rw [show (i + 1) * 3 + 2 = 3 + (i * 3 + 2) by omega, e]; exact h2
theorem ftCells_one (fs : List Ft) : ∀ u ∈ ftCells fs, u.oneCell' = true := by
  intro u hu
  unfold ftCells at hu
  obtain ⟨f, _, hu⟩ := List.mem_flatMap.1 hu
  simp at hu
  rcases hu with rfl | rfl | rfl <;> rfl
theorem FtsAt.cells {w : World} {b o : Nat} {fs : List Ft} (h : FtsAt w b o fs) : ∀ j u, (ftCells fs)[j]? = some u → w.cell? ((⟨b, o, none⟩ : Addr).add j) = some u := by
  intro j u hu
  have hj : j < fs.length * 3 := by rw [← ftCells_length]; exact (List.getElem?_eq_some_iff.1 hu).1
  have hi : j / 3 < fs.length := by omega
  obtain ⟨h0, h1, h2⟩ := h (j / 3) hi
  obtain ⟨g0, g1, g2⟩ := ftCells_get fs (j / 3) hi
  rw [add_at]
  have : j % 3 = 0 ∨ j % 3 = 1 ∨ j % 3 = 2 := by omega
  rcases this with h | h | h
  · have e : j = j / 3 * 3 := by omega
    generalize j / 3 = q at *
    subst e
    rw [g0] at hu; rw [h0]; exact hu
  · have e : j = j / 3 * 3 + 1 := by omega
    generalize j / 3 = q at *
    subst e
    rw [g1] at hu; rw [← Nat.add_assoc, h1]; exact hu
  · have e : j = j / 3 * 3 + 2 := by omega
    generalize j / 3 = q at *
    subst e
    rw [g2] at hu; rw [← Nat.add_assoc, h2]; exact hu
theorem ftsAt_of {w : World} {g : Nat} {fs : List Ft} (h : ∀ j u, (ftCells fs)[j]? = some u → w.cell? ⟨g, j, none⟩ = some u) : FtsAt w g 0 fs := by
  intro i hi
  obtain ⟨g0, g1, g2⟩ := ftCells_get fs i hi
  rw [Nat.zero_add]
  exact ⟨h _ _ g0, h _ _ g1, h _ _ g2⟩

theorem Try.infoFt : (Try.prog.info? 53).map (fun i => (i.zero, i.size, i.bytes)) = some (some (.agg #[.int .i64 0, .int .i64 0, .int .i64 0]), 3, 24) := by kernel_rfl

/-- Faults of the call's own, or none. -/
structure OwnFts (B : Nat) (w : World) (a : Option Addr) (fs : List Ft) : Prop where
  inn : FtsIn w a fs
  blk : ∀ q, a = some q → B ≤ q.block

set_option maxRecDepth 100000 in
set_option maxHeartbeats 4000000 in
theorem cloneF_any (a : Option Addr) (n c : Nat) (fs : List Ft) (hn : fs.length = n) (hbig : n ≤ 1000) (hnil : a = none → c = 0) (w : World) (hc : FtsIn w a fs) :
    Calls Try.prog 27 #[.slice a n c] w fun e w' => ∃ a' c', e = .returned (.slice a' n c') ∧ OwnFts w.heap.size w' a' fs ∧ Below w.heap.size w w' := by
  have q22 : ∀ (w : World) (a : Option Addr) (n c n' c' : Nat), (binOp .eql 22 (.slice a n c) (.slice none n' c')).run Try.prog w = .ok (.bool a.isNone) w := fun w a n c n' c' => Lib.run_eql_slice_nil w _ _ a n c n' c' Try.underlying22
  rcases a with _ | ad
  · obtain rfl := hnil rfl
    obtain rfl : fs = [] := by
      rcases hc with h | ⟨b, o, h, _⟩
      · exact h
      · cases h
    obtain rfl : n = 0 := by simpa using hn.symm
    clear hc hnil
    go_enter Try.func27, Try.ntmps27
    go_wp2_with fail
    go_ret
    exact ⟨none, 0, rfl, ⟨.inl rfl, fun q h => by cases h⟩, Below.refl _ _⟩
  · have kA := (Below.refl w.heap.size w).alloc (Nat.le_refl _) (.cells #[] 53)
    have HCS := box (show ∀ j u, (ftCells fs)[j]? = some u → (w.alloc (.cells #[] 53)).cell? (ad.add j) = some u from fun j u hu => by
      rcases hc with h | ⟨b, o, h, hat⟩
      · subst h; simp [ftCells] at hu
      · cases h; exact keepa _ (hat.cells j u hu))
    have KA := box kA
    have HL := box (show (ftCells fs).length = n * 3 by rw [ftCells_length, hn])
    have HONE := box (ftCells_one fs)
    have HSZ := box hn
    clear hc kA hnil hn
    obtain ⟨i0, hi0, hz0, hz1, hz2⟩ := info_parts Try.infoFt
    go_enter Try.func27, Try.ntmps27
    go_wp2_with (at_builtin; refine wpList_append_own_at (o := ⟨some 7, _, _, _, _, _⟩) _ rfl (.tmp 5) (.tmp 6) 22 rfl w.heap.size 53 i0 (.agg #[.int .i64 0, .int .i64 0, .int .i64 0]) 3 24 Try.underlying22 hi0 hz0 hz1 hz2 rfl (by decide) (.slice (some ⟨w.heap.size, 0, none⟩) 0 0) 0 [] rfl (World.ownsRow_made w #[] 0 (Nat.le_refl _) (Nat.zero_le _) rfl) ad n c (ftCells fs) rfl HL.out HCS.out HONE.out (by unfold maxLen; omega) (by omega) KA.out.size ?_; intro v4 w4 o4 g4 _ e4)
    go_ret
    have o5 : w4.ownsRow w.heap.size 53 3 v4 n (ftCells fs) := by simpa using o4
    have kb := KA.out.grown g4 KA.out.size (fun q hq => by cases hq; exact Nat.le_refl _)
    rcases row_form o5 with ⟨rfl, rfl, h0⟩ | ⟨g, cap, rfl, hg, _, _, _, hcell⟩
    · have : fs = [] := List.eq_nil_of_length_eq_zero HSZ.out
      exact ⟨none, 0, rfl, ⟨.inl this, fun q h => by cases h⟩, kb⟩
    · exact ⟨some ⟨g, 0, none⟩, cap, rfl, ⟨.inr ⟨g, 0, rfl, ftsAt_of hcell⟩, fun q h => by cases h; exact hg⟩, kb⟩
end Go.Proofs.Ytoeedbimhihbhaa
