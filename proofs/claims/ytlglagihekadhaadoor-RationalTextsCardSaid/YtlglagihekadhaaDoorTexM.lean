/- Plain mathematics for RationalTexts: decimal numerals. -/
import Derived.Lib.ItoaMem
import Derived.Lib.AtoiAll
import Derived.Lib.IndexMore
namespace Go.Proofs.YtlglagihekadhaaDoor
open Go.Lib

/-- A numeral's byte. -/
def dig (k : Nat) : UInt8 := UInt8.ofNat (48 + k)
theorem dig_toNat {k : Nat} (h : k < 10) : (dig k).toNat = 48 + k := by unfold dig; rw [UInt8.toNat_ofNat']; omega
theorem decDigits_big {u : Nat} (h : ¬ u < 10) : decDigits u = decDigits (u / 10) ++ [dig (u % 10)] := by rw [decDigits, dif_neg h]; rfl
theorem decDigits_bytes (u : Nat) : ∀ c ∈ decDigits u, 48 ≤ c.toNat ∧ c.toNat ≤ 57 := by
  induction u using Nat.strongRecOn with
  | _ u ih =>
    intro c hc
    by_cases h : u < 10
    · rw [decDigits_one h] at hc
      simp only [List.mem_singleton] at hc
      subst hc
      have := dig_toNat h
      unfold dig at this
      omega
    · rw [decDigits_big h] at hc
      rcases List.mem_append.1 hc with h1 | h1
      · exact ih (u / 10) (by omega) c h1
      · simp only [List.mem_singleton] at h1
        subst h1
        have := dig_toNat (k := u % 10) (by omega)
        omega
theorem decDigits_ne (u : Nat) : decDigits u ≠ [] := by
  by_cases h : u < 10
  · rw [decDigits_one h]; simp
  · rw [decDigits_big h]; simp
theorem parse_dec (u : Nat) : ∀ (r : List UInt8), u ≤ 1152921504606846976 → parseUint10 0 (decDigits u ++ r) = parseUint10 u r := by
  induction u using Nat.strongRecOn with
  | _ u ih =>
    intro r hu
    by_cases h : u < 10
    · rw [decDigits_one h]
      have hd := dig_toNat h
      unfold dig at hd
      simp only [List.cons_append, List.nil_append, parseUint10]
      rw [if_pos (by omega), if_neg (by omega), if_neg (by omega), hd]
      congr 1
      omega
    · rw [decDigits_big h, List.append_assoc, ih (u / 10) (by omega) _ (by omega)]
      have hd := dig_toNat (k := u % 10) (by omega)
      simp only [List.cons_append, List.nil_append, parseUint10]
      rw [if_pos (by omega), if_neg (by omega), if_neg (by omega), hd]
      congr 1
      omega
theorem itoa_ne (n : Int) : itoa n ≠ [] := by
  unfold itoa
  split
  · simp
  · exact decDigits_ne _
theorem atoi_itoa {n : Int} (h1 : -1152921504606846976 ≤ n) (h2 : n ≤ 1152921504606846976) : atoiAll (itoa n) = .ok n := by
  by_cases hn : n < 0
  · obtain ⟨u, rfl⟩ : ∃ u : Nat, n = -(u : Int) := ⟨n.natAbs, by omega⟩
    rw [itoa_neg u (by omega)]
    have hp : parseMag (decDigits u) = .ok u := by
      unfold parseMag
      rw [if_neg (decDigits_ne u)]
      have := parse_dec u [] (by omega)
      rw [List.append_nil] at this
      rw [this]; rfl
    have e45 : (45 : UInt8).toNat = 45 := rfl
    have hu : ¬ 9223372036854775808 < u := by omega
    simp [atoiAll, e45, hp, hu]
  · obtain ⟨u, rfl⟩ : ∃ u : Nat, n = (u : Int) := ⟨n.toNat, by omega⟩
    rw [itoa_nonneg]
    have hp : parseMag (decDigits u) = .ok u := by
      unfold parseMag
      rw [if_neg (decDigits_ne u)]
      have := parse_dec u [] (by omega)
      rw [List.append_nil] at this
      rw [this]; rfl
    cases hd : decDigits u with
    | nil => exact absurd hd (decDigits_ne u)
    | cons c r =>
      have hc := decDigits_bytes u c (by rw [hd]; simp)
      rw [hd] at hp
      simp only [atoiAll]
      rw [if_neg (show ¬ (c.toNat = 43 ∨ c.toNat = 45) by omega), hp]
      have h45 : ¬ c.toNat = 45 := by omega
      simp only [h45, not_false_eq_true, true_and, false_and, if_false]
      rw [if_neg (by omega)]

theorem itoa_noslash (n : Int) : ∀ c ∈ itoa n, c ≠ 47 := by
  intro c hc h
  subst h
  unfold itoa at hc
  have e47 : (47 : UInt8).toNat = 47 := rfl
  split at hc
  · rcases List.mem_cons.1 hc with h | h
    · exact absurd h (by decide)
    · have := decDigits_bytes _ _ h; omega
  · have := decDigits_bytes _ _ hc; omega
theorem index_none : ∀ (l : List UInt8), (∀ c ∈ l, c ≠ 47) → index l [47] = -1
  | [], _ => by simp [index]
  | c :: l, h => by
    have h1 : c ≠ 47 := h c (by simp)
    have ih := index_none l fun x hx => h x (List.mem_cons_of_mem _ hx)
    have hp : List.isPrefixOf [47] (c :: l) = false := by simp [List.isPrefixOf, Ne.symm h1]
    rw [index, hp, ih]
    rfl
theorem index_some : ∀ (l r : List UInt8), (∀ c ∈ l, c ≠ 47) → index (l ++ 47 :: r) [47] = l.length
  | [], r, _ => by simp [index, List.isPrefixOf]
  | c :: l, r, h => by
    have h1 : c ≠ 47 := h c (by simp)
    have ih := index_some l r fun x hx => h x (List.mem_cons_of_mem _ hx)
    have hp : List.isPrefixOf [47] (c :: (l ++ 47 :: r)) = false := by simp [List.isPrefixOf, Ne.symm h1]
    rw [List.cons_append, index, hp, ih]
    have h2 : ((l.length : Int) == -1) = false := by simp
    simp only [Bool.false_eq_true, if_false, h2, List.length_cons]
    rfl
theorem cut_none (l : List UInt8) (h : ∀ c ∈ l, c ≠ 47) : cut l [47] = (l, [], false) := by
  unfold cut
  rw [index_none l h, if_neg (by omega)]
theorem cut_some (l r : List UInt8) (h : ∀ c ∈ l, c ≠ 47) : cut (l ++ 47 :: r) [47] = (l, r, true) := by
  unfold cut
  rw [index_some l r h, if_pos (by omega)]
  simp

/-- The text of a number in lowest terms. -/
def tx (n d : Int) : List UInt8 := if d = 1 then itoa n else itoa n ++ 47 :: itoa d
theorem tx_ne (n d : Int) : tx n d ≠ [] := by
  unfold tx
  split
  · exact itoa_ne n
  · simp
end Go.Proofs.YtlglagihekadhaaDoor
