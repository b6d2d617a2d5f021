/- Plain mathematics for layer 2: bursts. -/
import Derived.Test.YthfoakomapmkeaaDoorCrcX
namespace Go.Proofs.YthfoakomapmkeaaDoor.Crc

theorem byte_ends : ∀ d < 256, d ≠ 0 → d.testBit (Lib.trailingZeros8 d) = true ∧ Lib.trailingZeros8 d < Lib.bitLen d ∧ d.testBit (Lib.bitLen d - 1) = true ∧ Lib.bitLen d ≤ 8 := by decide +kernel
theorem ones_pos : ∀ d < 256, d ≠ 0 → 1 ≤ Lib.onesCount d := by decide +kernel

/-- Where the changed bits lie, and what the comparison answers. -/
theorem es_span (lo hi : Nat) : ∀ (ds : List Nat) (i c f l : Nat), (∀ d ∈ ds, d < 256) → (∀ j < ds.length, ∀ b < 8, (ds.getD j 0).testBit b = true → lo ≤ 8 * (i + j) + b ∧ 8 * (i + j) + b < hi) →
    (c ≠ 0 → lo ≤ f ∧ f < 8 * i ∧ f < l ∧ l ≤ hi) → (es i ds c f l).1 ≠ 0 → lo ≤ (es i ds c f l).2.1 ∧ (es i ds c f l).2.1 < (es i ds c f l).2.2 ∧ (es i ds c f l).2.2 ≤ hi
  | [], _, _, _, _, _, _, h, hc => ⟨(h hc).1, (h hc).2.2.1, (h hc).2.2.2⟩
  | d :: ds, i, c, f, l, hd, hb, h, hc => by
    have hb' : ∀ j < ds.length, ∀ b < 8, (ds.getD j 0).testBit b = true → lo ≤ 8 * (i + 1 + j) + b ∧ 8 * (i + 1 + j) + b < hi := by
      intro j hj b hb8 ht
      have := hb (j + 1) (by simpa using hj) b hb8 (by simpa using ht)
      omega
    have hd' : ∀ d ∈ ds, d < 256 := fun x hx => hd x (List.mem_cons_of_mem _ hx)
    by_cases h0 : d = 0
    · rw [es, if_pos h0] at hc ⊢
      exact es_span lo hi ds (i + 1) c f l hd' hb' (fun hcz => by have := h hcz; omega) hc
    · rw [es, if_neg h0] at hc ⊢
      obtain ⟨e1, e2, e3, e4⟩ := byte_ends d (hd d List.mem_cons_self) h0
      have t1 := hb 0 (by simp) (Lib.trailingZeros8 d) (by omega) (by simpa using e1)
      have t2 := hb 0 (by simp) (Lib.bitLen d - 1) (by omega) (by simpa using e3)
      refine es_span lo hi ds (i + 1) _ _ _ hd' hb' (fun _ => ?_) hc
      by_cases hcz : c = 0
      · rw [if_pos hcz]; omega
      · rw [if_neg hcz]
        have := h hcz
        omega

theorem val_bit : ∀ (ds : List Nat), (∀ d ∈ ds, d < 256) → ∀ j < ds.length, ∀ b < 8, (val ds).testBit (8 * j + b) = (ds.getD j 0).testBit b
  | [], _, _, h, _, _ => by simp at h
  | d :: ds, hd, 0, _, b, hb => by
    have : (256 : Nat) = 2 ^ 8 := by decide
    simp only [val, Nat.testBit_xor, this, Nat.testBit_two_pow_mul, List.getD_cons_zero]
    have h8 : decide (8 ≤ 8 * 0 + b) = false := decide_eq_false (by omega)
    rw [h8, Nat.mul_zero, Nat.zero_add, Bool.false_and, Bool.xor_false]
  | d :: ds, hd, j + 1, h, b, hb => by
    have ih := val_bit ds (fun x hx => hd x (List.mem_cons_of_mem _ hx)) j (by simpa using h) b hb
    have : (256 : Nat) = 2 ^ 8 := by decide
    simp only [val, Nat.testBit_xor, this, Nat.testBit_two_pow_mul, List.getD_cons_succ]
    have h8 : 8 ≤ 8 * (j + 1) + b := by omega
    have hz : d.testBit (8 * (j + 1) + b) = false := Nat.testBit_lt_two_pow (Nat.lt_of_lt_of_le (hd d List.mem_cons_self) (by
      have : (2 : Nat) ^ 8 ≤ 2 ^ (8 * (j + 1) + b) := Nat.pow_le_pow_right (by decide) h8
      omega))
    rw [hz, show 8 * (j + 1) + b - 8 = 8 * j + b by omega, ih]
    simp [h8]

theorem val_zip : ∀ (xs ys : List Nat), xs.length = ys.length → val (List.zipWith (· ^^^ ·) xs ys) = val xs ^^^ val ys
  | [], [], _ => rfl
  | x :: xs, y :: ys, h => by
    simp only [List.zipWith_cons_cons, val]
    rw [val_zip xs ys (by simpa using h), show (256 : Nat) = 2 ^ 8 by decide, mul_xor, Nat.xor_assoc, Nat.xor_assoc, ← Nat.xor_assoc y, Nat.xor_comm y, Nat.xor_assoc (2 ^ 8 * val xs)]
  | [], _ :: _, h => by simp at h
  | _ :: _, [], h => by simp at h

theorem val_zero : ∀ (ds : List Nat), (∀ d ∈ ds, d < 256) → pop ds = 0 → val ds = 0
  | [], _, _ => rfl
  | d :: ds, hd, h => by
    simp only [pop, List.map_cons, List.sum_cons] at h
    have hz : d = 0 := by
      by_cases h0 : d = 0
      · exact h0
      · have := ones_pos d (hd d List.mem_cons_self) h0
        omega
    have := val_zero ds (fun x hx => hd x (List.mem_cons_of_mem _ hx)) (by simp only [pop]; omega)
    rw [val, this, hz]; rfl

theorem bursts_math (ss zs : List Nat) (m fr pat : Nat) (hs : ss.length = m) (hz : zs.length = m) (hs256 : ∀ v ∈ ss, v < 256) (hz256 : ∀ v ∈ zs, v < 256) (hr : reg 4294967295 ss = 3736805603) (hf : fr + 32 ≤ 8 * m) (hp : pat < 2 ^ 32) (hp0 : pat ≠ 0) (hv : val zs = val ss ^^^ 2 ^ fr * pat) :
    crc zs ≠ 558161692 ∧ 0 < (es 0 (List.zipWith (· ^^^ ·) ss zs) 0 0 0).1 ∧ (es 0 (List.zipWith (· ^^^ ·) ss zs) 0 0 0).2.1 < (es 0 (List.zipWith (· ^^^ ·) ss zs) 0 0 0).2.2 ∧ (es 0 (List.zipWith (· ^^^ ·) ss zs) 0 0 0).2.2 ≤ (es 0 (List.zipWith (· ^^^ ·) ss zs) 0 0 0).2.1 + 32 := by
  subst hs
  refine ⟨fun h => ?_, ?_⟩
  · have h0 := crc_trace (E := 2 ^ fr * pat) hz hr hv h
    rw [show 8 * ss.length = fr + (8 * ss.length - fr) by omega, shn_add, shn_mul] at h0
    exact hp0 (shn_eq_zero _ hp h0)
  · have hd256 : ∀ d ∈ List.zipWith (· ^^^ ·) ss zs, d < 256 := by
      intro d hd
      rw [List.mem_iff_getElem?] at hd
      obtain ⟨i, hi⟩ := hd
      rw [List.getElem?_zipWith] at hi
      split at hi
      · rename_i x y hx hy
        cases hi
        exact Nat.xor_lt_two_pow (n := 8) (hs256 _ (List.mem_of_getElem? hx)) (hz256 _ (List.mem_of_getElem? hy))
      · cases hi
    have hvz : val (List.zipWith (· ^^^ ·) ss zs) = 2 ^ fr * pat := by
      rw [val_zip _ _ hz.symm, hv, ← Nat.xor_assoc, Nat.xor_self, Nat.zero_xor]
    have hne : (es 0 (List.zipWith (· ^^^ ·) ss zs) 0 0 0).1 ≠ 0 := by
      rw [es_pop, Nat.zero_add]
      intro h
      have := val_zero _ hd256 h
      rw [hvz] at this
      have h2 : 0 < 2 ^ fr * pat := Nat.mul_pos (Nat.pow_pos (by decide)) (Nat.pos_of_ne_zero hp0)
      omega
    have hsp := es_span fr (fr + 32) (List.zipWith (· ^^^ ·) ss zs) 0 0 0 0 hd256 (by
      intro j hj b hb ht
      rw [← val_bit _ hd256 j hj b hb, hvz, Nat.testBit_two_pow_mul] at ht
      simp only [Bool.and_eq_true, decide_eq_true_eq] at ht
      have : 8 * j + b - fr < 32 := by
        by_cases h : 8 * j + b - fr < 32
        · exact h
        · rw [Nat.testBit_lt_two_pow (Nat.lt_of_lt_of_le hp (Nat.pow_le_pow_right (by decide) (by omega)))] at ht
          exact absurd ht.2 (by decide)
      omega) (fun h => absurd rfl h) hne
    omega

/-- The bits of the pattern, one after the other. -/
theorem pat_step (v pat fr j : Nat) : (v ^^^ 2 ^ fr * (pat % 2 ^ j)) ^^^ (if pat / 2 ^ j % 2 = 1 then 2 ^ (fr + j) else 0) = v ^^^ 2 ^ fr * (pat % 2 ^ (j + 1)) := by
  have h : pat % 2 ^ (j + 1) = pat % 2 ^ j ^^^ (if pat / 2 ^ j % 2 = 1 then 2 ^ j else 0) := by
    apply Nat.eq_of_testBit_eq
    intro i
    rw [Nat.testBit_xor, Nat.testBit_mod_two_pow, Nat.testBit_mod_two_pow]
    have hb : pat.testBit j = decide (pat / 2 ^ j % 2 = 1) := Nat.testBit_eq_decide_div_mod_eq
    by_cases hp : pat / 2 ^ j % 2 = 1
    · rw [if_pos hp, Nat.testBit_two_pow]
      by_cases hij : j = i
      · subst hij; simp [hb, hp]
      · by_cases hlt : i < j
        · have h3 : i < j + 1 := by omega
          simp [hlt, h3, hij]
        · have h3 : ¬ i < j + 1 := by omega
          simp [hlt, h3, hij]
    · rw [if_neg hp, Nat.zero_testBit, Bool.xor_false]
      by_cases hij : i = j
      · subst hij; simp [hb, hp]
      · by_cases hlt : i < j
        · have h3 : i < j + 1 := by omega
          simp [hlt, h3]
        · have h3 : ¬ i < j + 1 := by omega
          simp [hlt, h3]
  rw [h, mul_xor, ← Nat.xor_assoc]
  congr 1
  split
  · rw [Nat.pow_add]
  · rfl
end Go.Proofs.YthfoakomapmkeaaDoor.Crc
