/- The symbols of layer 3, and what the reference makes of them: plain mathematics. -/
namespace Go.Proofs.YthfoakomapmkeaaDoor

/-- The valid symbols, in ascending order. -/
def syms : List Nat := [7, 11, 13, 14, 19, 21, 22, 25, 26, 28, 35, 37, 38, 41, 42, 44, 49, 50, 52, 56]
theorem syms_lt : ∀ i < 20, syms.getD i 0 < 64 := by decide
/-- The place of a symbol among the valid ones; 20: it is not valid. -/
def idx (s : Nat) : Nat := syms.idxOf s
theorem idx_syms : ∀ i < 20, idx (syms.getD i 0) = i := by decide
theorem syms_idx : ∀ s < 256, idx s < 20 → syms.getD (idx s) 0 = s := by decide +kernel
theorem idx_le (s : Nat) : idx s ≤ 20 := List.idxOf_le_length
theorem idx_first {s k : Nat} (h1 : ∀ j < k, syms.getD j 0 ≠ s) (hk : k < 20) (h2 : syms.getD k 0 = s) : idx s = k := by
  subst h2
  exact idx_syms k hk
theorem idx_none {s : Nat} (hs : s < 256) (h1 : ∀ j < 20, syms.getD j 0 ≠ s) : idx s = 20 := by
  rcases Nat.lt_or_ge (idx s) 20 with h | h
  · exact absurd (syms_idx s hs h) (h1 _ h)
  · have := idx_le s; omega

/-- How many of the lower k bits of n are ones. -/
def on (n : Nat) : Nat → Nat
  | 0 => 0
  | k + 1 => on n k + n / 2 ^ k % 2
theorem on_le (n k : Nat) : on n k ≤ k := by
  induction k with
  | zero => exact Nat.le_refl _
  | succ k ih => have := Nat.mod_lt (n / 2 ^ k) (show 0 < 2 by decide); simp only [on]; omega
/-- The valid symbols below n. -/
def symsTo (n : Nat) : List Nat := (List.range n).filter (fun m => on m 6 == 3)
theorem symsTo_64 : symsTo 64 = syms := by decide
theorem symsTo_succ (n : Nat) : symsTo (n + 1) = if on n 6 = 3 then symsTo n ++ [n] else symsTo n := by
  unfold symsTo
  rw [List.range_succ, List.filter_append]
  by_cases h : on n 6 = 3 <;> simp [h]
theorem symsTo_length (n : Nat) : (symsTo n).length ≤ n := by
  have := List.length_filter_le (fun m => on m 6 == 3) (List.range n)
  rwa [List.length_range] at this

/-- The encoding of bytes. -/
def enc (xs : List Nat) : List Nat := xs.flatMap fun x => [syms.getD (x / 16) 0, syms.getD (x % 16) 0]
theorem enc_length (xs : List Nat) : (enc xs).length = 2 * xs.length := by
  induction xs with
  | nil => rfl
  | cons x xs ih => simp only [enc, List.flatMap_cons, List.length_append, List.length_cons, List.length_nil] at *; omega
theorem enc_append (xs ys : List Nat) : enc (xs ++ ys) = enc xs ++ enc ys := by unfold enc; exact List.flatMap_append
theorem take_snoc' {xs : List Nat} {k : Nat} (hk : k < xs.length) : xs.take (k + 1) = xs.take k ++ [xs.getD k 0] := by
  rw [List.take_add_one, List.getD_eq_getElem?_getD, List.getElem?_eq_getElem hk]; rfl
theorem enc_take {xs : List Nat} {k : Nat} (hk : k < xs.length) : enc (xs.take (k + 1)) = enc (xs.take k) ++ [syms.getD (xs.getD k 0 / 16) 0, syms.getD (xs.getD k 0 % 16) 0] := by
  rw [take_snoc' hk, enc_append]; rfl
end Go.Proofs.YthfoakomapmkeaaDoor
