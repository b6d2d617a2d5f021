/- The greetings on their way, as the entries of a map by the turn of their arrival. -/
import Derived.Test.YtflaclocakbkgaaLkM
import Derived.Test.YtflaclocakbkgaaLkMap
namespace Go.Proofs.Ytflaclocakbkgaa
open Go.RowKit
namespace Meet
/-- The entries of a history, from the turn i on. -/
def ents (d : Nat) : List (Option (Nat × Nat)) → Nat → List (Int × Int × Int)
  | [], _ => []
  | none :: h, i => ents d h (i + 1)
  | some g :: h, i => (((i + d : Nat) : Int), (g.1 : Int), (g.2 : Int)) :: ents d h (i + 1)
theorem ents_none (d : Nat) : ∀ (h : List (Option (Nat × Nat))) (i : Nat), ents d (h ++ [none]) i = ents d h i
  | [], _ => rfl
  | none :: h, i => ents_none d h (i + 1)
  | some _ :: h, i => congrArg (_ :: ·) (ents_none d h (i + 1))
theorem ents_some (d : Nat) (g : Nat × Nat) : ∀ (h : List (Option (Nat × Nat))) (i : Nat), ents d (h ++ [some g]) i = ents d h i ++ [(((i + h.length + d : Nat) : Int), (g.1 : Int), (g.2 : Int))]
  | [], _ => rfl
  | none :: h, i => by
    show ents d (h ++ [some g]) (i + 1) = ents d h (i + 1) ++ _
    rw [ents_some d g h (i + 1), List.length_cons, show i + 1 + h.length + d = i + (h.length + 1) + d by omega]
  | some q :: h, i => by
    show _ :: ents d (h ++ [some g]) (i + 1) = _ :: ents d h (i + 1) ++ _
    rw [ents_some d g h (i + 1), List.length_cons, show i + 1 + h.length + d = i + (h.length + 1) + d by omega]
    rfl
theorem ents_of (d : Nat) : ∀ (h : List (Option (Nat × Nat))) (i : Nat) (e : Int × Int × Int), e ∈ ents d h i → ∃ j g, h[j]? = some (some g) ∧ e = (((i + j + d : Nat) : Int), (g.1 : Int), (g.2 : Int))
  | [], _, _, he => by cases he
  | none :: h, i, e, he => by
    obtain ⟨j, g, h1, h2⟩ := ents_of d h (i + 1) e he
    exact ⟨j + 1, g, h1, by rw [h2, show i + 1 + j + d = i + (j + 1) + d by omega]⟩
  | some q :: h, i, e, he => by
    rcases List.mem_cons.1 he with he | he
    · exact ⟨0, q, rfl, he⟩
    · obtain ⟨j, g, h1, h2⟩ := ents_of d h (i + 1) e he
      exact ⟨j + 1, g, h1, by rw [h2, show i + 1 + j + d = i + (j + 1) + d by omega]⟩
theorem ents_mem (d : Nat) : ∀ (h : List (Option (Nat × Nat))) (i j : Nat) (g : Nat × Nat), h[j]? = some (some g) → (((i + j + d : Nat) : Int), (g.1 : Int), (g.2 : Int)) ∈ ents d h i
  | [], _, j, _, hj => by simp at hj
  | o :: h, i, 0, g, hj => by
    have : o = some g := by simpa using hj
    subst this
    exact List.mem_cons_self
  | o :: h, i, j + 1, g, hj => by
    have ih := ents_mem d h (i + 1) j g (by simpa using hj)
    rw [show i + 1 + j + d = i + (j + 1) + d by omega] at ih
    cases o with
    | none => exact ih
    | some q => exact List.mem_cons_of_mem _ ih
/-- A key that is new. -/
theorem ents_new (d : Nat) (h : List (Option (Nat × Nat))) : ∀ e ∈ ents d h 0, e.1 ≠ ((h.length + d : Nat) : Int) := by
  intro e he
  obtain ⟨j, g, h1, h2⟩ := ents_of d h 0 e he
  have hj := (List.getElem?_eq_some_iff.1 h1).1
  rw [h2]
  show ((0 + j + d : Nat) : Int) ≠ _
  omega
/-- What lies under the key t, once the turn t has been sent. -/
theorem ents_arr (d : Nat) (h : List (Option (Nat × Nat))) (t : Nat) (hl : h.length = t + 1) :
    (∀ g, arr d h = some g → ((t : Int), (g.1 : Int), (g.2 : Int)) ∈ ents d h 0 ∧ ∀ e ∈ ents d h 0, e.1 = (t : Int) → e = ((t : Int), (g.1 : Int), (g.2 : Int))) ∧ (arr d h = none → ∀ e ∈ ents d h 0, e.1 ≠ (t : Int)) := by
  unfold arr
  by_cases hd : h.length ≤ d
  · rw [if_pos hd]
    refine ⟨(fun g hg => by cases hg), fun _ e he => ?_⟩
    obtain ⟨j, g, _, h2⟩ := ents_of d h 0 e he
    rw [h2]
    show ((0 + j + d : Nat) : Int) ≠ _
    omega
  · rw [if_neg hd, show h.length - 1 - d = t - d by omega]
    have hlt : t - d < h.length := by omega
    rw [List.getElem?_eq_getElem hlt]
    obtain ⟨o, ho⟩ : ∃ o, h[t - d] = o := ⟨_, rfl⟩
    have hg : h[t - d]? = some o := by rw [List.getElem?_eq_getElem hlt, ho]
    rw [ho]
    refine ⟨fun g e => ?_, fun e x hx => ?_⟩
    · have e : o = some g := e
      subst e
      refine ⟨?_, fun x hx hk => ?_⟩
      · have := ents_mem d h 0 (t - d) g hg
        rwa [show 0 + (t - d) + d = t by omega] at this
      · obtain ⟨j, q, h1, h2⟩ := ents_of d h 0 x hx
        rw [h2] at hk
        have hj : j = t - d := by
          have hk : ((0 + j + d : Nat) : Int) = (t : Int) := hk
          omega
        subst hj
        rw [hg] at h1
        cases h1
        rw [h2, show 0 + (t - d) + d = t by omega]
    · have e : o = none := e
      subst e
      obtain ⟨j, q, h1, h2⟩ := ents_of d h 0 x hx
      rw [h2]
      show ((0 + j + d : Nat) : Int) ≠ _
      intro hk
      have hj : j = t - d := by omega
      subst hj
      rw [hg] at h1
      cases h1
end Meet
end Go.Proofs.Ytflaclocakbkgaa
