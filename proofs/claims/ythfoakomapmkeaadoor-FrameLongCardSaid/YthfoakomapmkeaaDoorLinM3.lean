/- One inverted bit, as plain mathematics. -/
import Derived.Test.YthfoakomapmkeaaDoorLinM2
namespace Go.Proofs.YthfoakomapmkeaaDoor

/-- The symbols with the bit k inverted. -/
def flipS (xs : List Nat) (k : Nat) : List Nat := xs.set (k / 6) (xs.getD (k / 6) 0 ^^^ 2 ^ (5 - k % 6))
theorem flipS_length (xs : List Nat) (k : Nat) : (flipS xs k).length = xs.length := by simp [flipS]
theorem flipS_getD {xs : List Nat} {k : Nat} (hk : k / 6 < xs.length) (j : Nat) : (flipS xs k).getD j 0 = if j = k / 6 then xs.getD (k / 6) 0 ^^^ 2 ^ (5 - k % 6) else xs.getD j 0 := by
  unfold flipS
  rw [List.getD_eq_getElem?_getD]
  by_cases h : j = k / 6
  · subst h
    rw [List.getElem?_set_self hk, if_pos rfl]; rfl
  · rw [List.getElem?_set_ne (fun e => h e.symm), if_neg h, ← List.getD_eq_getElem?_getD]
theorem pow_lt (k : Nat) : 2 ^ (5 - k % 6) < 256 := Nat.lt_of_lt_of_le (Nat.pow_lt_pow_right (by decide) (show 5 - k % 6 < 6 by omega)) (by decide)
theorem flipS_lt {xs : List Nat} {k : Nat} (hx : ∀ x ∈ xs, x < 256) (hk : k / 6 < xs.length) : ∀ y ∈ flipS xs k, y < 256 := by
  intro y hy
  rcases List.mem_or_eq_of_mem_set hy with h | h
  · exact hx y h
  · subst h
    refine Nat.xor_lt_two_pow (n := 8) ?_ (pow_lt k)
    rw [List.getD_eq_getElem?_getD, List.getElem?_eq_getElem hk]
    exact hx _ (List.getElem_mem hk)
theorem flipS_flipS {xs : List Nat} {k : Nat} (hk : k / 6 < xs.length) : flipS (flipS xs k) k = xs := by
  have h1 : (flipS xs k).getD (k / 6) 0 = xs.getD (k / 6) 0 ^^^ 2 ^ (5 - k % 6) := by rw [flipS_getD hk, if_pos rfl]
  unfold flipS at h1 ⊢
  rw [h1, List.set_set, Nat.xor_assoc, Nat.xor_self, Nat.xor_zero, List.getD_eq_getElem?_getD, List.getElem?_eq_getElem hk, Option.getD_some]
  exact List.set_getElem_self hk
/-- An inverted bit of a valid symbol makes it invalid. -/
theorem flip_bad : ∀ i < 20, ∀ r < 6, idx (syms.getD i 0 ^^^ 2 ^ r) = 20 := by decide +kernel
theorem flip_ne (x r : Nat) : x ^^^ 2 ^ r ≠ x := by
  intro h
  have h2 : x ^^^ (x ^^^ 2 ^ r) = 0 := by rw [h, Nat.xor_self]
  rw [← Nat.xor_assoc, Nat.xor_self, Nat.zero_xor] at h2
  exact absurd h2 (Nat.ne_of_gt (Nat.two_pow_pos r))
end Go.Proofs.YthfoakomapmkeaaDoor
