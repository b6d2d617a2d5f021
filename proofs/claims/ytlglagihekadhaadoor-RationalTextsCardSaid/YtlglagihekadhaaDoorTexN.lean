/- Which texts the two readers take: the texts of numbers, and nothing else. -/
import Derived.Test.YtlglagihekadhaaDoorTexR2
namespace Go.Proofs.YtlglagihekadhaaDoor
open Go.RowKit Go.Lib

theorem rl_dec0 (u b : Nat) : ∀ (r : List UInt8), u ≤ 1152921504606846976 → rl (decDigits u ++ r) false 0 b = rl r false u b := by
  induction u using Nat.strongRecOn with
  | _ u ih =>
    intro r hu
    by_cases h : u < 10
    · rw [decDigits_one h]
      have hd := dig_toNat h
      unfold dig at hd
      rw [List.cons_append, List.nil_append, rl_a (by omega) (by omega) (by omega), hd]
      congr 1
      omega
    · rw [decDigits_big h, List.append_assoc, ih (u / 10) (by omega) _ (by omega)]
      have hd := dig_toNat (k := u % 10) (by omega)
      rw [List.cons_append, List.nil_append, rl_a (by omega) (by omega) (by omega), hd]
      congr 1
      omega
theorem rl_dec1 (u a : Nat) : ∀ (r : List UInt8), u ≤ 1152921504606846976 → rl (decDigits u ++ r) true a 0 = rl r true a u := by
  induction u using Nat.strongRecOn with
  | _ u ih =>
    intro r hu
    by_cases h : u < 10
    · rw [decDigits_one h]
      have hd := dig_toNat h
      unfold dig at hd
      rw [List.cons_append, List.nil_append, rl_b (by omega) (by omega) (by omega), hd]
      congr 1
      omega
    · rw [decDigits_big h, List.append_assoc, ih (u / 10) (by omega) _ (by omega)]
      have hd := dig_toNat (k := u % 10) (by omega)
      rw [List.cons_append, List.nil_append, rl_b (by omega) (by omega) (by omega), hd]
      congr 1
      omega
/-- The rest of a text behind the numerator. -/
def rest (d : Int) : List UInt8 := if d = 1 then [] else 47 :: itoa d
theorem tx_rest (n d : Int) : tx n d = itoa n ++ rest d := by
  unfold tx rest
  split
  · simp
  · rfl
theorem rl_rest (a : Nat) (d : Int) (d1 : 1 ≤ d) (d2 : d ≤ 1152921504606846976) : ∃ p b, rl (rest d) false a 0 = some (p, a, b) ∧ (if p then (b : Int) else 1) = d := by
  unfold rest
  by_cases h : d = 1
  · rw [if_pos h]
    exact ⟨false, 0, rfl, h.symm⟩
  · obtain ⟨v, rfl⟩ : ∃ v : Nat, d = (v : Int) := ⟨d.toNat, by omega⟩
    rw [if_neg h, itoa_nonneg, rl_slash rfl]
    have := rl_dec1 v a [] (by omega)
    rw [List.append_nil] at this
    rw [this]
    exact ⟨true, v, rfl, rfl⟩
theorem textS_ok {n d : Int} (o : okR n d) (d1 : 1 ≤ d) : textS n d = tx n d := by
  unfold textS
  rw [validB_of o, if_pos rfl, show full d = d by unfold full; rw [if_neg (by omega)]]
theorem refP_tx {n d : Int} (o : okR n d) (d1 : 1 ≤ d) : refP (tx n d) = some (n, d) := by
  have TS := textS_ok o d1
  obtain ⟨_, d2, n1, n2, _⟩ : 1 ≤ d ∧ d ≤ 1152921504606846976 ∧ -1152921504606846976 ≤ n ∧ n ≤ 1152921504606846976 ∧ gd n d = 1 := by
    rcases o with ⟨_, h⟩ | h
    · omega
    · exact h
  unfold refP
  rw [if_neg (tx_ne n d)]
  by_cases hn : n < 0
  · obtain ⟨u, rfl⟩ : ∃ u : Nat, n = -(u : Int) := ⟨n.natAbs, by omega⟩
    have hl : tx (-(u : Int)) d = 45 :: (decDigits u ++ rest d) := by rw [tx_rest, itoa_neg u (by omega)]; rfl
    obtain ⟨p, b, h1, h2⟩ := rl_rest u d d1 d2
    have hr : rl ((tx (-(u : Int)) d).drop 1) false 0 0 = some (p, u, b) := by rw [hl, List.drop_succ_cons, List.drop_zero, rl_dec0 u 0 _ (by omega), h1]
    rw [if_pos (by rw [hl]; rfl), hr, rend_at _ (-1) p u b (-(u : Int)) d (by omega) h2 (by omega), if_pos TS]
  · obtain ⟨u, rfl⟩ : ∃ u : Nat, n = (u : Int) := ⟨n.toNat, by omega⟩
    have hl : tx (u : Int) d = decDigits u ++ rest d := by rw [tx_rest, itoa_nonneg]
    obtain ⟨p, b, h1, h2⟩ := rl_rest u d d1 d2
    have hr : rl ((tx (u : Int) d).drop 0) false 0 0 = some (p, u, b) := by rw [hl, List.drop_zero, rl_dec0 u 0 _ (by omega), h1]
    have h45 : ¬ ((tx (u : Int) d).getD 0 0).toNat = 45 := by
      rw [hl]
      cases hd : decDigits u with
      | nil => exact absurd hd (decDigits_ne u)
      | cons c r =>
        have hc := decDigits_bytes u c (by rw [hd]; simp)
        show ¬ c.toNat = 45
        omega
    rw [if_neg h45, hr, rend_at _ 1 p u b (u : Int) d (by omega) h2 (by omega), if_pos TS]
/-- What the program's Parse reads of a number's text. -/
theorem parts_tx {n d : Int} (o : okR n d) (d1 : 1 ≤ d) : atoiAll (topOf (tx n d)) = .ok n ∧ atoiAll (botOf (tx n d)) = .ok d := by
  obtain ⟨_, d2, n1, n2, _⟩ : 1 ≤ d ∧ d ≤ 1152921504606846976 ∧ -1152921504606846976 ≤ n ∧ n ≤ 1152921504606846976 ∧ gd n d = 1 := by
    rcases o with ⟨_, h⟩ | h
    · omega
    · exact h
  unfold topOf botOf tx
  by_cases h : d = 1
  · rw [if_pos h, cut_none _ (itoa_noslash n)]
    subst h
    exact ⟨atoi_itoa n1 n2, show atoiAll [49] = .ok 1 by decide⟩
  · rw [if_neg h, cut_some _ _ (itoa_noslash n)]
    exact ⟨atoi_itoa n1 n2, atoi_itoa (by omega) d2⟩
/-- A text that textS gives is the text of a number with a denominator of at least 1. -/
theorem textS_canon {n d : Int} {l : List UInt8} (hl : l ≠ []) (h : textS n d = l) : okR n (full d) ∧ 1 ≤ full d ∧ l = tx n (full d) := by
  unfold textS at h
  cases hv : validB n d with
  | false => rw [hv, if_neg (by decide)] at h; exact absurd h.symm hl
  | true =>
    rw [hv, if_pos rfl] at h
    refine ⟨?_, ?_, h.symm⟩
    · rcases okR_of hv with ⟨rfl, rfl⟩ | hh
      · exact Or.inr ⟨by decide, by decide, by decide, by decide, by decide⟩
      · have : full d = d := by unfold full; rw [if_neg (by omega)]
        rw [this]; exact Or.inr hh
    · rcases okR_of hv with ⟨rfl, rfl⟩ | hh
      · decide
      · have : full d = d := by unfold full; rw [if_neg (by omega)]
        omega
theorem rend_no {l : List UInt8} (hl : l ≠ []) (h : ∀ n d, okR n d → 1 ≤ d → l ≠ tx n d) (sg : Int) (x : Option (Bool × Nat × Nat)) : rend l sg x = none := by
  rcases x with _ | ⟨p, a, b⟩
  · rfl
  · by_cases hz : (if p then (b : Int) else 1) = 0
    · rw [rend, if_pos hz]
    · rw [rend_at l sg p a b _ _ rfl rfl hz]
      by_cases ht : textS (sg * a) (if p then (b : Int) else 1) = l
      · obtain ⟨o, f1, e⟩ := textS_canon hl ht
        exact absurd e (h _ _ o f1)
      · rw [if_neg ht]
theorem refP_no {l : List UInt8} (h : ∀ n d, okR n d → 1 ≤ d → l ≠ tx n d) : refP l = none := by
  unfold refP
  by_cases hl : l = []
  · rw [if_pos hl]
  · rw [if_neg hl]
    split
    · exact rend_no hl h _ _
    · exact rend_no hl h _ _
/-- What the program's Parse answers. -/
def parV : Option (Int × Int) → Value
  | none => .tuple #[.agg #[.int .i64 0, .int .i64 0], .int .i64 3]
  | some (n, d) => .tuple #[.agg #[.int .i64 n, .int .i64 d], .int .i64 0]
/-- Both Parse's read the same at every text of at most 100 bytes. -/
theorem parse_any (l : List UInt8) (hl : l.length ≤ 100) (w : World) (hw : EnvW w) :
    Calls Tryd.prog 7 #[st l] w fun e w' => e = .returned (parV (refP l)) ∧ Below w.heap.size w w' := by
  by_cases hc : ∃ n d, okR n d ∧ 1 ≤ d ∧ l = tx n d
  · obtain ⟨n, d, o, d1, rfl⟩ := hc
    obtain ⟨h1, h2⟩ := parts_tx o d1
    rw [refP_tx o d1]
    exact parse_yes _ hl n d h1 h2 w hw true (decide_eq_true (textS_ok o d1))
  · have hno : ∀ n d, okR n d → 1 ≤ d → l ≠ tx n d := fun n d o d1 e => hc ⟨n, d, o, d1, e⟩
    rw [refP_no hno]
    by_cases h1 : ∃ v, atoiAll (topOf l) = .ok v
    · obtain ⟨n, h1⟩ := h1
      by_cases h2 : ∃ v, atoiAll (botOf l) = .ok v
      · obtain ⟨d, h2⟩ := h2
        have hts : textS n d ≠ l := by
          intro ht
          have hl0 : l ≠ [] := by
            intro e
            subst e
            have ht0 : topOf [] = [] := by unfold topOf; rw [cut_none [] (by simp)]
            rw [ht0] at h1
            exact nomatch h1
          obtain ⟨o, f1, e⟩ := textS_canon hl0 ht
          exact hno _ _ o f1 e
        exact parse_yes l hl n d h1 h2 w hw false (decide_eq_false hts)
      · exact parse_yn l hl n h1 (fun v e => h2 ⟨v, e⟩) w hw
    · have h1' : ∀ v, atoiAll (topOf l) ≠ .ok v := fun v e => h1 ⟨v, e⟩
      by_cases h2 : ∃ v, atoiAll (botOf l) = .ok v
      · obtain ⟨d, h2⟩ := h2
        exact parse_ny l hl d h1' h2 w hw
      · exact parse_nn l hl h1' (fun v e => h2 ⟨v, e⟩) w hw
end Go.Proofs.YtlglagihekadhaaDoor
