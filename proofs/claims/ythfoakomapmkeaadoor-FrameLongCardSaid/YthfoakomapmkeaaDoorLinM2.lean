/- Decoding, as plain mathematics. -/
import Derived.Test.YthfoakomapmkeaaDoorLinM
namespace Go.Proofs.YthfoakomapmkeaaDoor

/-- The bytes of the first k pairs of symbols. -/
def decTo (xs : List Nat) (k : Nat) : List Nat := (List.range k).map fun j => 16 * idx (xs.getD (2 * j) 0) + idx (xs.getD (2 * j + 1) 0)
theorem decTo_length (xs : List Nat) (k : Nat) : (decTo xs k).length = k := by simp [decTo]
theorem decTo_succ (xs : List Nat) (k : Nat) : decTo xs (k + 1) = decTo xs k ++ [16 * idx (xs.getD (2 * k) 0) + idx (xs.getD (2 * k + 1) 0)] := by
  unfold decTo; rw [List.range_succ, List.map_append]; rfl
/-- All of the first k symbols are data symbols. -/
def okTo (xs : List Nat) (k : Nat) : Prop := ∀ j < k, idx (xs.getD j 0) < 16
theorem decTo_lt {xs : List Nat} {k : Nat} (h : okTo xs (2 * k)) : ∀ x ∈ decTo xs k, x < 256 := by
  intro x hx
  obtain ⟨j, hj, rfl⟩ := List.mem_map.1 hx
  rw [List.mem_range] at hj
  have h1 := h (2 * j) (by omega)
  have h2 := h (2 * j + 1) (by omega)
  omega
theorem idx_enc1 : ∀ x < 256, idx (syms.getD (x / 16) 0) = x / 16 := fun x hx => idx_syms _ (by omega)
theorem idx_enc2 : ∀ x < 256, idx (syms.getD (x % 16) 0) = x % 16 := fun x hx => idx_syms _ (by omega)
theorem enc_getD (xs : List Nat) : ∀ j < xs.length, (enc xs).getD (2 * j) 0 = syms.getD (xs.getD j 0 / 16) 0 ∧ (enc xs).getD (2 * j + 1) 0 = syms.getD (xs.getD j 0 % 16) 0 := by
  induction xs with
  | nil => intro j hj; simp at hj
  | cons x xs ih =>
    intro j hj
    have e : enc (x :: xs) = syms.getD (x / 16) 0 :: syms.getD (x % 16) 0 :: enc xs := rfl
    cases j with
    | zero => rw [e]; exact ⟨rfl, rfl⟩
    | succ j =>
      rw [e]
      have := ih j (by simpa using hj)
      rw [show 2 * (j + 1) = 2 * j + 1 + 1 by omega, show 2 * j + 1 + 1 + 1 = (2 * j + 1) + 1 + 1 by omega]
      simp only [List.getD_cons_succ]
      exact this
theorem enc_ok {xs : List Nat} (hx : ∀ x ∈ xs, x < 256) : okTo (enc xs) (2 * xs.length) := by
  intro j hj
  have hm : ∀ i < xs.length, xs.getD i 0 < 256 := fun i hi => by
    rw [List.getD_eq_getElem?_getD, List.getElem?_eq_getElem hi]; exact hx _ (List.getElem_mem hi)
  obtain ⟨i, h | h⟩ : ∃ i, j = 2 * i ∨ j = 2 * i + 1 := ⟨j / 2, by omega⟩
  · subst h
    rw [(enc_getD xs i (by omega)).1, idx_enc1 _ (hm i (by omega))]
    have := hm i (by omega); omega
  · subst h
    rw [(enc_getD xs i (by omega)).2, idx_enc2 _ (hm i (by omega))]
    exact Nat.mod_lt _ (by decide)
theorem dec_enc {xs : List Nat} (hx : ∀ x ∈ xs, x < 256) : decTo (enc xs) xs.length = xs := by
  apply List.ext_getElem (by rw [decTo_length])
  intro j h1 h2
  have hj : j < xs.length := h2
  have hm : xs.getD j 0 < 256 := by rw [List.getD_eq_getElem?_getD, List.getElem?_eq_getElem hj]; exact hx _ (List.getElem_mem hj)
  have e : xs[j] = xs.getD j 0 := by rw [List.getD_eq_getElem?_getD, List.getElem?_eq_getElem hj]; rfl
  simp only [decTo, List.getElem_map, List.getElem_range]
  rw [(enc_getD xs j hj).1, (enc_getD xs j hj).2, idx_enc1 _ hm, idx_enc2 _ hm, e]
  omega
theorem syms_of_idx {s : Nat} (hs : s < 256) (h : idx s < 16) : syms.getD (idx s) 0 = s := syms_idx s hs (by omega)
theorem enc_dec {xs : List Nat} {k : Nat} (hx : ∀ x ∈ xs, x < 256) (hn : xs.length = 2 * k) (h : okTo xs (2 * k)) : enc (decTo xs k) = xs := by
  apply List.ext_getElem (by rw [enc_length, decTo_length, hn])
  intro j h1 h2
  have hl := decTo_length xs k
  have hm : ∀ i < xs.length, xs.getD i 0 < 256 := fun i hi => by
    rw [List.getD_eq_getElem?_getD, List.getElem?_eq_getElem hi]; exact hx _ (List.getElem_mem hi)
  have e1 : ∀ i (hi : i < (enc (decTo xs k)).length), (enc (decTo xs k))[i] = (enc (decTo xs k)).getD i 0 := fun i hi => by rw [List.getD_eq_getElem?_getD, List.getElem?_eq_getElem hi]; rfl
  have e2 : ∀ i (hi : i < xs.length), xs[i] = xs.getD i 0 := fun i hi => by rw [List.getD_eq_getElem?_getD, List.getElem?_eq_getElem hi]; rfl
  have hd : ∀ i < k, (decTo xs k).getD i 0 = 16 * idx (xs.getD (2 * i) 0) + idx (xs.getD (2 * i + 1) 0) := fun i hi => by
    rw [List.getD_eq_getElem?_getD, List.getElem?_eq_getElem (by omega)]
    simp [decTo]
  rw [e1, e2]
  obtain ⟨i, hi | hi⟩ : ∃ i, j = 2 * i ∨ j = 2 * i + 1 := ⟨j / 2, by omega⟩
  · subst hi
    have a := h (2 * i) (by omega)
    have b := h (2 * i + 1) (by omega)
    rw [(enc_getD _ i (by omega)).1, hd i (by omega), show (16 * idx (xs.getD (2 * i) 0) + idx (xs.getD (2 * i + 1) 0)) / 16 = idx (xs.getD (2 * i) 0) by omega]
    exact syms_of_idx (hm _ (by omega)) a
  · subst hi
    have a := h (2 * i) (by omega)
    have b := h (2 * i + 1) (by omega)
    rw [(enc_getD _ i (by omega)).2, hd i (by omega), show (16 * idx (xs.getD (2 * i) 0) + idx (xs.getD (2 * i + 1) 0)) % 16 = idx (xs.getD (2 * i + 1) 0) by omega]
    exact syms_of_idx (hm _ (by omega)) b
end Go.Proofs.YthfoakomapmkeaaDoor
