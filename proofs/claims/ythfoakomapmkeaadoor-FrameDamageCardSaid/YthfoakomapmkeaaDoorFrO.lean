/- What damage does to a sealed string, as plain mathematics. -/
import Derived.Test.YthfoakomapmkeaaDoorFrN
import Derived.Test.YthfoakomapmkeaaDoorCrcBm
import Derived.Test.YthfoakomapmkeaaDoorCrcE
namespace Go.Proofs.YthfoakomapmkeaaDoor.Crc

theorem byte_span : ∀ d < 256, ∀ b < 8, d.testBit b = true → Lib.trailingZeros8 d ≤ b ∧ b < Lib.bitLen d := by decide +kernel
theorem es_cover : ∀ (ds : List Nat) (i c f l : Nat), (∀ d ∈ ds, d < 256) → (c ≠ 0 → f ≤ 8 * i) → l ≤ 8 * i →
    (c ≠ 0 → (es i ds c f l).2.1 = f) ∧ l ≤ (es i ds c f l).2.2 ∧ (∀ j < ds.length, ∀ b < 8, (ds.getD j 0).testBit b = true → (es i ds c f l).2.1 ≤ 8 * (i + j) + b ∧ 8 * (i + j) + b < (es i ds c f l).2.2)
  | [], _, _, _, _, _, _, _ => ⟨fun _ => rfl, Nat.le_refl _, fun j hj => by simp at hj⟩
  | d :: ds, i, c, f, l, hd, hf, hl => by
    have hd' : ∀ d ∈ ds, d < 256 := fun x hx => hd x (List.mem_cons_of_mem _ hx)
    have hd0 := hd d List.mem_cons_self
    by_cases h0 : d = 0
    · rw [es, if_pos h0]
      obtain ⟨h1, h2, h3⟩ := es_cover ds (i + 1) c f l hd' (fun h => by have := hf h; omega) (by omega)
      refine ⟨h1, h2, fun j hj b hb ht => ?_⟩
      cases j with
      | zero => subst h0; simp at ht
      | succ j =>
        have := h3 j (by simpa using hj) b hb (by simpa using ht)
        omega
    · rw [es, if_neg h0]
      obtain ⟨e1, e2, e3, e4⟩ := byte_ends d hd0 h0
      have ho := ones_pos d hd0 h0
      by_cases hc : c = 0
      · rw [if_pos hc]
        obtain ⟨h1, h2, h3⟩ := es_cover ds (i + 1) (c + Lib.onesCount d) (8 * i + Lib.trailingZeros8 d) (8 * i + Lib.bitLen d) hd' (fun _ => by omega) (by omega)
        have h1 := h1 (by omega)
        refine ⟨fun h => absurd hc h, by omega, fun j hj b hb ht => ?_⟩
        cases j with
        | zero =>
          have := byte_span d hd0 b hb (by simpa using ht)
          rw [h1]; omega
        | succ j =>
          have := h3 j (by simpa using hj) b hb (by simpa using ht)
          omega
      · rw [if_neg hc]
        have hf := hf hc
        obtain ⟨h1, h2, h3⟩ := es_cover ds (i + 1) (c + Lib.onesCount d) f (8 * i + Lib.bitLen d) hd' (fun _ => by omega) (by omega)
        have h1 := h1 (by omega)
        refine ⟨fun _ => h1, by omega, fun j hj b hb ht => ?_⟩
        cases j with
        | zero =>
          have := byte_span d hd0 b hb (by simpa using ht)
          rw [h1]; omega
        | succ j =>
          have := h3 j (by simpa using hj) b hb (by simpa using ht)
          omega

theorem bit_ex : ∀ ds : List Nat, (∀ d ∈ ds, d < 256) → pop ds ≠ 0 → ∃ j < ds.length, ∃ b < 8, (ds.getD j 0).testBit b = true
  | [], _, h => by simp [pop] at h
  | d :: ds, hd, h => by
    by_cases h0 : d = 0
    · have hz : Lib.onesCount 0 = 0 := by decide
      have hp : pop ds ≠ 0 := by simpa [pop, h0, hz] using h
      obtain ⟨j, hj, b, hb, ht⟩ := bit_ex ds (fun x hx => hd x (List.mem_cons_of_mem _ hx)) hp
      exact ⟨j + 1, by simpa using hj, b, hb, by simpa using ht⟩
    · obtain ⟨e1, e2, e3, e4⟩ := byte_ends d (hd d List.mem_cons_self) h0
      exact ⟨0, by simp, Lib.trailingZeros8 d, by omega, by simpa using e1⟩
theorem val_lt : ∀ ds : List Nat, (∀ d ∈ ds, d < 256) → val ds < 2 ^ (8 * ds.length)
  | [], _ => by simp [val]
  | d :: ds, hd => by
    have h := val_lt ds (fun x hx => hd x (List.mem_cons_of_mem _ hx))
    have h0 := hd d List.mem_cons_self
    simp only [val, List.length_cons]
    have e : (2 : Nat) ^ (8 * (ds.length + 1)) = 256 * 2 ^ (8 * ds.length) := by rw [Nat.mul_add, Nat.pow_add, Nat.mul_comm]
    have e1 : (1 : Nat) ≤ 2 ^ (8 * ds.length) := Nat.one_le_two_pow
    exact Nat.xor_lt_two_pow (by omega) (by omega)
theorem one_less {ds : List Nat} (hd : ∀ d ∈ ds, d < 256) (h : pop ds ≠ 0) (n : Nat) (hn : ds.length = n) :
    ∃ a, a < 8 * n ∧ bitAt ds a = true ∧ pop (flip ds a) + 1 = pop ds ∧ (∀ d ∈ flip ds a, d < 256) ∧ (flip ds a).length = n ∧ shn (8 * n) (val ds) = shn (8 * n) (val (flip ds a)) ^^^ C (8 * n - a) := by
  subst hn
  obtain ⟨j, hj, b, hb, ht⟩ := bit_ex ds hd h
  have ha : 8 * j + b < 8 * ds.length := by omega
  have hbit : bitAt ds (8 * j + b) = true := by unfold bitAt; rw [show (8 * j + b) / 8 = j by omega, show (8 * j + b) % 8 = b by omega]; exact ht
  refine ⟨8 * j + b, ha, hbit, pop_down hd ha hbit, flip_lt hd ha, flip_length _ _, ?_⟩
  rw [val_flip _ _ ha, shn_xor, shn_pow _ _ (by omega), Nat.xor_assoc, Nat.xor_self, Nat.xor_zero]
/-- One to three changed bits. -/
theorem few_bits {ds : List Nat} (hd : ∀ d ∈ ds, d < 256) (h1 : 1 ≤ pop ds) (h3 : pop ds ≤ 3) (n : Nat) (hn : ds.length = n) (h100 : n ≤ 100) : shn (8 * n) (val ds) ≠ 0 := by
  intro h0
  obtain ⟨a, ha, hba, hpa, hda, hla, hva⟩ := one_less hd (by omega) n hn
  by_cases e0 : pop (flip ds a) = 0
  · rw [val_zero _ hda e0, shn_zero, Nat.zero_xor] at hva
    exact C_ne _ (hva.symm.trans h0)
  obtain ⟨b, hb, hbb, hpb, hdb, hlb, hvb⟩ := one_less hda e0 n hla
  rw [hvb] at hva
  have hab : a ≠ b := by
    intro e
    subst e
    have := bit_flip (ds := ds) (b := a) (show a < 8 * ds.length by omega)
    rw [if_pos rfl, hba, hbb] at this
    cases this
  by_cases e1 : pop (flip (flip ds a) b) = 0
  · rw [val_zero _ hdb e1, shn_zero, Nat.zero_xor] at hva
    exact two_ne (by omega) (by omega) (by omega) (by omega) (by omega) (hva.symm.trans h0)
  obtain ⟨c, hc, hbc, hpc, hdc, hlc, hvc⟩ := one_less hdb e1 n hlb
  rw [hvc, val_zero _ hdc (by omega), shn_zero, Nat.zero_xor] at hva
  exact three_ne (by omega) (by omega) (by omega) (by omega) (by omega) (by omega) (hva.symm.trans h0)
/-- A burst of at most 32 bits. -/
theorem short_burst {ds : List Nat} (hd : ∀ d ∈ ds, d < 256) (h1 : pop ds ≠ 0) (h4 : 4 ≤ ds.length) (hs : (errs ds).2.2 ≤ (errs ds).2.1 + 32) : shn (8 * ds.length) (val ds) ≠ 0 := by
  intro h0
  obtain ⟨_, _, hc⟩ := es_cover ds 0 0 0 0 hd (fun h => absurd rfl h) (Nat.le_refl _)
  change ∀ j < ds.length, ∀ b < 8, (ds.getD j 0).testBit b = true → (errs ds).2.1 ≤ 8 * (0 + j) + b ∧ 8 * (0 + j) + b < (errs ds).2.2 at hc
  generalize (errs ds).2.1 = f at hs hc
  generalize (errs ds).2.2 = l at hs hc
  obtain ⟨lo, hlo1, hlo2, hlo3⟩ : ∃ lo, lo ≤ f ∧ lo + 32 ≤ 8 * ds.length ∧ ∀ k, f ≤ k → k < l → k < 8 * ds.length → lo ≤ k ∧ k < lo + 32 := by
    by_cases h : f + 32 ≤ 8 * ds.length
    · exact ⟨f, Nat.le_refl _, h, fun k h1 h2 h3 => by omega⟩
    · exact ⟨8 * ds.length - 32, by omega, by omega, fun k h1 h2 h3 => by omega⟩
  have hbits : ∀ k, (val ds).testBit k = true → lo ≤ k ∧ k < lo + 32 := by
    intro k hk
    by_cases hk8 : k < 8 * ds.length
    · have hj : k / 8 < ds.length := by omega
      have := val_bit ds hd (k / 8) hj (k % 8) (Nat.mod_lt _ (by decide))
      rw [show 8 * (k / 8) + k % 8 = k by omega, hk] at this
      have h2 := hc (k / 8) hj (k % 8) (Nat.mod_lt _ (by decide)) this.symm
      exact hlo3 k (by omega) (by omega) hk8
    · have := val_lt ds hd
      rw [Nat.testBit_lt_two_pow (Nat.lt_of_lt_of_le this (Nat.pow_le_pow_right (by decide) (by omega)))] at hk
      cases hk
  have e : val ds = 2 ^ lo * (val ds / 2 ^ lo) := by
    apply Nat.eq_of_testBit_eq
    intro k
    rw [Nat.testBit_two_pow_mul, Nat.testBit_div_two_pow]
    by_cases h : lo ≤ k
    · rw [show k - lo + lo = k by omega, decide_eq_true h, Bool.true_and]
    · rw [decide_eq_false h, Bool.false_and]
      cases hk : (val ds).testBit k
      · rfl
      · exact absurd (hbits k hk).1 h
  have hp : val ds / 2 ^ lo < 2 ^ 32 := by
    apply Nat.lt_pow_two_of_testBit
    intro i hi
    rw [Nat.testBit_div_two_pow]
    cases hk : (val ds).testBit (i + lo)
    · rfl
    · have := (hbits _ hk).2
      omega
  rw [e, show 8 * ds.length = lo + (8 * ds.length - lo) by omega, shn_add, shn_mul] at h0
  have hz := shn_eq_zero _ hp h0
  rw [hz, Nat.mul_zero] at e
  obtain ⟨j, hj, b, hb, ht⟩ := bit_ex ds hd h1
  have := val_bit ds hd j hj b hb
  rw [e, ht] at this
  simp at this
theorem zip_lt {xs ys : List Nat} (hx : ∀ x ∈ xs, x < 256) (hy : ∀ x ∈ ys, x < 256) : ∀ d ∈ List.zipWith (· ^^^ ·) xs ys, d < 256 := by
  intro d hd
  rw [List.mem_iff_getElem?] at hd
  obtain ⟨i, hi⟩ := hd
  rw [List.getElem?_zipWith] at hi
  split at hi
  · rename_i x y hx' hy'
    cases hi
    exact Nat.xor_lt_two_pow (n := 8) (hx _ (List.mem_of_getElem? hx')) (hy _ (List.mem_of_getElem? hy'))
  · cases hi
/-- A sealed string that was damaged so has another check sum. -/
theorem damage_math {ss zs : List Nat} (hs : ∀ x ∈ ss, x < 256) (hz : ∀ x ∈ zs, x < 256) (hl : zs.length = ss.length) (h4 : 4 ≤ ss.length) (h100 : ss.length ≤ 100) (hr : crc ss = 558161692)
    (h1 : 1 ≤ (errs (List.zipWith (· ^^^ ·) ss zs)).1) (h2 : (errs (List.zipWith (· ^^^ ·) ss zs)).1 ≤ 3 ∨ (errs (List.zipWith (· ^^^ ·) ss zs)).2.2 ≤ (errs (List.zipWith (· ^^^ ·) ss zs)).2.1 + 32) : crc zs ≠ 558161692 := by
  intro hc
  have hreg : reg 4294967295 ss = 3736805603 := by
    unfold crc at hr
    have := congrArg (· ^^^ 4294967295) hr
    simp only [Nat.xor_assoc, Nat.xor_self, Nat.xor_zero] at this
    rw [this]; decide
  have hd := zip_lt hs hz
  have hdl : (List.zipWith (· ^^^ ·) ss zs).length = ss.length := by simp; omega
  have hv : val zs = val ss ^^^ val (List.zipWith (· ^^^ ·) ss zs) := by
    rw [val_zip _ _ hl.symm, ← Nat.xor_assoc, Nat.xor_self, Nat.zero_xor]
  have h0 := crc_trace hl hreg hv hc
  rw [← hdl] at h0
  have hp : (errs (List.zipWith (· ^^^ ·) ss zs)).1 = pop (List.zipWith (· ^^^ ·) ss zs) := by unfold errs; rw [es_pop, Nat.zero_add]
  rcases h2 with h2 | h2
  · exact few_bits hd (by omega) (by omega) _ rfl (by omega) h0
  · exact short_burst hd (by omega) (by omega) h2 h0
end Go.Proofs.YthfoakomapmkeaaDoor.Crc
namespace Go.Proofs.YthfoakomapmkeaaDoor
/-- Damaged bytes do not decode: a wrong check sum, or a wrong form. -/
theorem dec_damaged {zs : List Nat} (hz : ∀ x ∈ zs, x < 256) (h17 : 17 ≤ zs.length) (hc : Crc.crc zs ≠ 558161692) : decE zs = 9 ∨ decE zs = 3 := by
  unfold decE
  rw [if_neg (by omega)]
  split
  · exact .inr rfl
  · rw [if_pos (fun h => hc ((Crc.sealed_iff hz (by omega)).2 (by rw [← h, List.take_append_drop])))]
    exact .inl rfl
end Go.Proofs.YthfoakomapmkeaaDoor
