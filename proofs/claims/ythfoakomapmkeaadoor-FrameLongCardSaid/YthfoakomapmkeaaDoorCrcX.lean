/- Plain mathematics for layer 2: inverted bits. -/
import Derived.Test.YthfoakomapmkeaaDoorCrcN
import Derived.Test.YthfoakomapmkeaaDoorCrcB
namespace Go.Proofs.YthfoakomapmkeaaDoor.Crc

/-- A string with one bit inverted. -/
def flip (ys : List Nat) (k : Nat) : List Nat := ys.set (k / 8) (ys.getD (k / 8) 0 ^^^ 2 ^ (k % 8))
theorem flip_length (ys : List Nat) (k : Nat) : (flip ys k).length = ys.length := by simp [flip]

theorem mul_xor (n a b : Nat) : 2 ^ n * (a ^^^ b) = 2 ^ n * a ^^^ 2 ^ n * b := by
  apply Nat.eq_of_testBit_eq
  intro i
  simp only [Nat.testBit_xor, Nat.testBit_two_pow_mul]
  by_cases h : n ≤ i <;> simp [h]

theorem val_set : ∀ (xs : List Nat) (j t : Nat), j < xs.length → val (xs.set j (xs.getD j 0 ^^^ t)) = val xs ^^^ 2 ^ (8 * j) * t
  | [], _, _, h => by simp at h
  | x :: xs, 0, t, _ => by
    simp only [List.set_cons_zero, val, List.getD_cons_zero, Nat.mul_zero, Nat.pow_zero, Nat.one_mul]
    rw [Nat.xor_assoc, Nat.xor_comm t, ← Nat.xor_assoc]
  | x :: xs, j + 1, t, h => by
    have ih := val_set xs j t (by simpa using h)
    simp only [List.set_cons_succ, val, List.getD_cons_succ]
    rw [ih, show (256 : Nat) = 2 ^ 8 by decide, mul_xor, ← Nat.xor_assoc, ← Nat.mul_assoc, ← Nat.pow_add, show 8 + 8 * j = 8 * (j + 1) by omega]
theorem val_flip (xs : List Nat) (k : Nat) (h : k < 8 * xs.length) : val (flip xs k) = val xs ^^^ 2 ^ k := by
  unfold flip
  rw [val_set xs (k / 8) _ (by omega), ← Nat.pow_add, show 8 * (k / 8) + k % 8 = k by omega]

/-- The register after k zero bits behind a one. -/
def C (k : Nat) : Nat := shn k 1
theorem C_lt (k : Nat) : C k < 2 ^ 32 := shn_lt k (by decide)
theorem C_ne (k : Nat) : C k ≠ 0 := fun h => absurd (shn_eq_zero k (by decide) h) (by decide)
theorem shn_pow (n a : Nat) (h : a ≤ n) : shn n (2 ^ a) = C (n - a) := by
  rw [show n = a + (n - a) by omega, shn_add, show (2 : Nat) ^ a = 2 ^ a * 1 by omega, shn_mul]
  congr 1
  omega
theorem C_add (a b : Nat) : C (a + b) = shn b (C a) := shn_add a b 1

def setC : Nat → Nat → Nat → Nat
  | 0, _, acc => acc
  | n + 1, r, acc => setC n (sh r) (acc ||| 1 <<< (r % 52970))
def noHit : Nat → Nat → Nat → Bool
  | 0, _, _ => true
  | n + 1, r, M => !(M.testBit ((r ^^^ 1) % 52970)) && (r != 1) && noHit n (sh r) M

theorem setC_acc : ∀ (n r acc t : Nat), acc.testBit t = true → (setC n r acc).testBit t = true
  | 0, _, _, _, h => h
  | n + 1, r, acc, t, h => setC_acc n _ _ t (by simp [Nat.testBit_or, h])
theorem setC_mem : ∀ (n r acc i : Nat), i < n → (setC n r acc).testBit (shn i r % 52970) = true
  | 0, _, _, _, h => by omega
  | n + 1, r, acc, 0, _ => setC_acc n _ _ _ (by simp [Nat.testBit_or, shn, Nat.testBit_shiftLeft])
  | n + 1, r, acc, i + 1, h => setC_mem n (sh r) _ i (by omega)
theorem noHit_out : ∀ (n r M i : Nat), noHit n r M = true → i < n → M.testBit ((shn i r ^^^ 1) % 52970) = false ∧ shn i r ≠ 1
  | 0, _, _, _, _, h => by omega
  | n + 1, r, M, 0, h, _ => by
    simp [noHit] at h
    exact ⟨h.1.1, h.1.2⟩
  | n + 1, r, M, i + 1, h, hi => by
    simp only [noHit, Bool.and_eq_true] at h
    exact noHit_out n (sh r) M i h.2 (by omega)

set_option maxRecDepth 100000 in
theorem all_hit : noHit 799 (sh 1) (setC 799 (sh 1) 0) = true := by decide +kernel

theorem C_one {i : Nat} (h1 : 1 ≤ i) (h2 : i < 800) : C i ≠ 1 := by
  have h := (noHit_out 799 (sh 1) _ (i - 1) all_hit (by omega)).2
  have e : C i = shn (i - 1) (sh 1) := by
    obtain ⟨j, rfl⟩ : ∃ j, i = j + 1 := ⟨i - 1, by omega⟩
    rfl
  rw [e]; exact h
theorem C_two {i j : Nat} (h1 : 1 ≤ i) (h2 : i < 800) (h3 : 1 ≤ j) (h4 : j < 800) : C i ^^^ 1 ≠ C j := by
  intro h
  have hh := (noHit_out 799 (sh 1) _ (i - 1) all_hit (by omega)).1
  have hm := setC_mem 799 (sh 1) 0 (j - 1) (by omega)
  have ei : C i = shn (i - 1) (sh 1) := by
    obtain ⟨j, rfl⟩ : ∃ j, i = j + 1 := ⟨i - 1, by omega⟩
    rfl
  have ej : C j = shn (j - 1) (sh 1) := by
    obtain ⟨i, rfl⟩ : ∃ i, j = i + 1 := ⟨j - 1, by omega⟩
    rfl
  rw [← ei, h, ej, hm] at hh
  cases hh

/-- Two inverted bits leave a trace. -/
theorem two_ne {a b : Nat} (ha : a ≤ 800) (hb : b ≤ 800) (ha1 : 1 ≤ a) (hb1 : 1 ≤ b) (h : a ≠ b) : C a ^^^ C b ≠ 0 := by
  intro h0
  have key : ∀ a b : Nat, 1 ≤ a → a < b → b ≤ 800 → C a ≠ C b := by
    intro a b h1 h2 h3 he
    rw [show b = (b - a) + a by omega, C_add] at he
    exact C_one (i := b - a) (by omega) (by omega) (shn_inj a (by decide) (C_lt _) he).symm
  have he := xor_eq_zero h0
  rcases Nat.lt_or_gt_of_ne h with h | h
  · exact key a b ha1 h hb he
  · exact key b a hb1 h ha he.symm
/-- Three inverted bits leave a trace. -/
theorem three_min {a b c : Nat} (ha1 : 1 ≤ a) (hab : a < b) (hac : a < c) (hb : b ≤ 800) (hc : c ≤ 800) : C a ^^^ C b ^^^ C c ≠ 0 := by
  intro h0
  rw [show b = (b - a) + a by omega, show c = (c - a) + a by omega, C_add, C_add, show C a = shn a 1 from rfl, ← shn_xor, ← shn_xor] at h0
  have h1 := shn_eq_zero a (Nat.xor_lt_two_pow (Nat.xor_lt_two_pow (by decide) (C_lt _)) (C_lt _)) h0
  rw [Nat.xor_comm 1] at h1
  exact C_two (i := b - a) (j := c - a) (by omega) (by omega) (by omega) (by omega) (xor_eq_zero h1)
theorem three_ne {a b c : Nat} (ha : a ≤ 800) (hb : b ≤ 800) (hc : c ≤ 800) (ha1 : 1 ≤ a) (hb1 : 1 ≤ b) (hc1 : 1 ≤ c) : C a ^^^ C b ^^^ C c ≠ 0 := by
  by_cases hab : a = b
  · subst hab
    rw [Nat.xor_self, Nat.zero_xor]; exact C_ne c
  by_cases hac : a = c
  · subst hac
    rw [Nat.xor_comm (C a), Nat.xor_assoc, Nat.xor_self, Nat.xor_zero]; exact C_ne b
  by_cases hbc : b = c
  · subst hbc
    rw [Nat.xor_assoc, Nat.xor_self, Nat.xor_zero]; exact C_ne a
  by_cases h1 : a < b ∧ a < c
  · exact three_min ha1 h1.1 h1.2 hb hc
  by_cases h2 : b < a ∧ b < c
  · rw [Nat.xor_comm (C a)]; exact three_min hb1 h2.1 h2.2 ha hc
  · rw [Nat.xor_comm (C a ^^^ C b), ← Nat.xor_assoc]
    exact three_min hc1 (by omega) (by omega) ha hb

/-- A string differs from a sealed one by the bits of E: it has the seal's check sum only if E leaves no trace. -/
theorem crc_trace {ss zs : List Nat} {E : Nat} (hl : zs.length = ss.length) (hr : reg 4294967295 ss = 3736805603) (hv : val zs = val ss ^^^ E) (hc : crc zs = 558161692) : shn (8 * ss.length) E = 0 := by
  have h1 : reg 4294967295 zs = 3736805603 := by
    unfold crc at hc
    have := congrArg (· ^^^ 4294967295) hc
    simp only [Nat.xor_assoc, Nat.xor_self, Nat.xor_zero] at this
    rw [this]; decide
  rw [reg_val, hl, hv, ← Nat.xor_assoc, shn_xor, ← reg_val, hr] at h1
  have := congrArg (3736805603 ^^^ ·) h1
  simp only [← Nat.xor_assoc, Nat.xor_self, Nat.zero_xor] at this
  exact this

/-- The number of ones. -/
def pop (ds : List Nat) : Nat := (ds.map Lib.onesCount).sum
theorem es_pop : ∀ (ds : List Nat) (i c f l : Nat), (es i ds c f l).1 = c + pop ds
  | [], _, _, _, _ => by simp [es, pop]
  | d :: ds, i, c, f, l => by
    have h0 : Lib.onesCount 0 = 0 := by decide
    unfold es
    split
    · rename_i h
      rw [es_pop ds]; subst h
      simp [pop, h0]
    · rw [es_pop ds]
      simp [pop, Nat.add_assoc]
/-- A bit of a string. -/
def bitAt (ds : List Nat) (k : Nat) : Bool := (ds.getD (k / 8) 0).testBit (k % 8)
theorem ones_up : ∀ d < 256, ∀ j < 8, d.testBit j = false → Lib.onesCount (d ^^^ 2 ^ j) = Lib.onesCount d + 1 := by decide +kernel
theorem ones_down : ∀ d < 256, ∀ j < 8, d.testBit j = true → Lib.onesCount (d ^^^ 2 ^ j) + 1 = Lib.onesCount d := by decide +kernel

theorem pop_set : ∀ (ds : List Nat) (j v : Nat), j < ds.length → pop (ds.set j v) + Lib.onesCount (ds.getD j 0) = pop ds + Lib.onesCount v
  | [], _, _, h => by simp at h
  | d :: ds, 0, v, _ => by simp [pop]; omega
  | d :: ds, j + 1, v, h => by
    have ih := pop_set ds j v (by simpa using h)
    simp only [List.set_cons_succ, List.getD_cons_succ]
    simp only [pop, List.map_cons, List.sum_cons] at ih ⊢
    omega
theorem pop_up {ds : List Nat} {k : Nat} (hd : ∀ d ∈ ds, d < 256) (h : k < 8 * ds.length) (hb : bitAt ds k = false) : pop (flip ds k) = pop ds + 1 := by
  have h1 := pop_set ds (k / 8) (ds.getD (k / 8) 0 ^^^ 2 ^ (k % 8)) (by omega)
  have hk : ds.getD (k / 8) 0 < 256 := by
    rw [List.getD_eq_getElem?_getD, List.getElem?_eq_getElem (by omega)]; exact hd _ (List.getElem_mem _)
  have h2 := ones_up _ hk (k % 8) (Nat.mod_lt _ (by decide)) hb
  unfold flip
  omega
theorem pop_down {ds : List Nat} {k : Nat} (hd : ∀ d ∈ ds, d < 256) (h : k < 8 * ds.length) (hb : bitAt ds k = true) : pop (flip ds k) + 1 = pop ds := by
  have h1 := pop_set ds (k / 8) (ds.getD (k / 8) 0 ^^^ 2 ^ (k % 8)) (by omega)
  have hk : ds.getD (k / 8) 0 < 256 := by
    rw [List.getD_eq_getElem?_getD, List.getElem?_eq_getElem (by omega)]; exact hd _ (List.getElem_mem _)
  have h2 := ones_down _ hk (k % 8) (Nat.mod_lt _ (by decide)) hb
  unfold flip
  omega
theorem bit_flip {ds : List Nat} {a b : Nat} (ha : a < 8 * ds.length) : bitAt (flip ds a) b = if a = b then !bitAt ds b else bitAt ds b := by
  unfold bitAt flip
  by_cases h8 : a / 8 = b / 8
  · rw [← h8, List.getD_eq_getElem?_getD, List.getElem?_set_self (by omega), Option.getD_some, Nat.testBit_xor, Nat.testBit_two_pow]
    by_cases hab : a = b
    · subst hab; simp
    · have : ¬ a % 8 = b % 8 := by omega
      simp [hab, this]
  · rw [List.getD_eq_getElem?_getD, List.getElem?_set_ne h8, ← List.getD_eq_getElem?_getD, if_neg (by rintro rfl; exact h8 rfl)]
theorem flip_lt {ds : List Nat} {k : Nat} (hd : ∀ d ∈ ds, d < 256) (h : k < 8 * ds.length) : ∀ d ∈ flip ds k, d < 256 := by
  intro d hm
  have hk : ds.getD (k / 8) 0 < 256 := by
    rw [List.getD_eq_getElem?_getD, List.getElem?_eq_getElem (by omega)]; exact hd _ (List.getElem_mem _)
  rcases List.mem_or_eq_of_mem_set hm with h | rfl
  · exact hd d h
  · exact Nat.xor_lt_two_pow (n := 8) hk (Nat.lt_of_lt_of_le (Nat.pow_lt_pow_right (by decide) (Nat.mod_lt k (by decide : 8 > 0))) (by decide))
theorem zip_flip {ss zs : List Nat} {k : Nat} (hl : zs.length = ss.length) (h : k < 8 * ss.length) : List.zipWith (· ^^^ ·) ss (flip zs k) = flip (List.zipWith (· ^^^ ·) ss zs) k := by
  apply List.ext_getElem?
  intro i
  unfold flip
  simp only [List.getElem?_zipWith, List.getElem?_set, List.getD_eq_getElem?_getD, List.length_zipWith]
  by_cases hi : k / 8 = i
  · subst hi
    have h1 : k / 8 < ss.length := by omega
    have h2 : k / 8 < zs.length := by omega
    simp [h1, h2, Nat.xor_assoc]
    omega
  · simp [hi]
theorem zip_self (ss : List Nat) : List.zipWith (· ^^^ ·) ss ss = List.replicate ss.length 0 := by
  induction ss with
  | nil => rfl
  | cons x ss ih => simp only [List.zipWith_cons_cons, Nat.xor_self, ih, List.length_cons, List.replicate_succ]
theorem pop_zero (n : Nat) : pop (List.replicate n 0) = 0 := by
  have h0 : Lib.onesCount 0 = 0 := by decide
  simp [pop, h0]
theorem bit_zero (n k : Nat) : bitAt (List.replicate n 0) k = false := by
  unfold bitAt
  rw [List.getD_eq_getElem?_getD, List.getElem?_replicate]
  split <;> simp
theorem pop_one {n a : Nat} (ha : a < 8 * n) : pop (flip (List.replicate n 0) a) = 1 := by
  rw [pop_up (by simp) (by simpa using ha) (bit_zero _ _), pop_zero]
theorem pop_two {n a b : Nat} (ha : a < 8 * n) (hb : b < 8 * n) (hab : a ≠ b) : pop (flip (flip (List.replicate n 0) a) b) = 2 := by
  rw [pop_up (flip_lt (by simp) (by simpa using ha)) (by simpa [flip_length] using hb) (by rw [bit_flip (by simpa using ha), if_neg hab, bit_zero]), pop_one ha]
theorem pop_back {n a : Nat} (ha : a < 8 * n) : pop (flip (flip (List.replicate n 0) a) a) = 0 := by
  have := pop_down (ds := flip (List.replicate n 0) a) (k := a) (flip_lt (by simp) (by simpa using ha)) (by simpa [flip_length] using ha) (by rw [bit_flip (by simpa using ha), if_pos rfl, bit_zero]; rfl)
  rw [pop_one ha] at this
  omega
theorem pop_three {n a b c : Nat} (ha : a < 8 * n) (hb : b < 8 * n) (hc : c < 8 * n) : pop (flip (flip (flip (List.replicate n 0) a) b) c) = 1 ∨ pop (flip (flip (flip (List.replicate n 0) a) b) c) = 3 := by
  have l1 : ∀ d ∈ flip (List.replicate n 0) a, d < 256 := flip_lt (by simp) (by simpa using ha)
  have l2 : ∀ d ∈ flip (flip (List.replicate n 0) a) b, d < 256 := flip_lt l1 (by simpa [flip_length] using hb)
  have hB : bitAt (flip (flip (List.replicate n 0) a) b) c = if b = c then !(if a = c then true else false) else if a = c then true else false := by
    rw [bit_flip (by simpa [flip_length] using hb), bit_flip (by simpa using ha), bit_zero]
    rfl
  have hlen : c < 8 * (flip (flip (List.replicate n 0) a) b).length := by simpa [flip_length] using hc
  by_cases hab : a = b
  · subst hab
    have hz : bitAt (flip (flip (List.replicate n 0) a) a) c = false := by rw [hB]; by_cases h : a = c <;> simp [h]
    left
    rw [pop_up l2 hlen hz, pop_back ha]
  · have h2 := pop_two ha hb hab
    by_cases hbc : b = c
    · have ht : bitAt (flip (flip (List.replicate n 0) a) b) c = true := by
        rw [hB, if_pos hbc, if_neg (by omega)]; rfl
      have := pop_down l2 hlen ht
      left; omega
    · by_cases hac : a = c
      · have ht : bitAt (flip (flip (List.replicate n 0) a) b) c = true := by rw [hB, if_neg hbc, if_pos hac]
        have := pop_down l2 hlen ht
        left; omega
      · have ht : bitAt (flip (flip (List.replicate n 0) a) b) c = false := by rw [hB, if_neg hbc, if_neg hac]
        right
        rw [pop_up l2 hlen ht, h2]

theorem bits_math' (ss : List Nat) (m a b c : Nat) (hm : ss.length = m) (h100 : m ≤ 100) (hr : reg 4294967295 ss = 3736805603) (ha : a < 8 * m) (hb : b < 8 * m) (hc : c < 8 * m) :
    ((es 0 (List.zipWith (· ^^^ ·) ss (flip (flip (flip ss a) b) c)) 0 0 0).1 = 1 ∨ (es 0 (List.zipWith (· ^^^ ·) ss (flip (flip (flip ss a) b) c)) 0 0 0).1 = 3) ∧ crc (flip (flip (flip ss a) b) c) ≠ 558161692 := by
  subst hm
  constructor
  · rw [es_pop, zip_flip (by simp [flip_length]) (by omega), zip_flip (by simp [flip_length]) (by omega), zip_flip rfl (by omega), zip_self, Nat.zero_add]
    exact pop_three ha hb hc
  · intro h
    have h0 := crc_trace (E := 2 ^ a ^^^ 2 ^ b ^^^ 2 ^ c) (by simp [flip_length]) hr (by
      rw [val_flip _ _ (by simpa [flip_length] using hc), val_flip _ _ (by simpa [flip_length] using hb), val_flip _ _ ha, Nat.xor_assoc, Nat.xor_assoc, Nat.xor_assoc]) h
    rw [shn_xor, shn_xor, shn_pow _ _ (by omega), shn_pow _ _ (by omega), shn_pow _ _ (by omega)] at h0
    exact three_ne (by omega) (by omega) (by omega) (by omega) (by omega) (by omega) h0

theorem pairs_math (ss : List Nat) (m a b : Nat) (hm : ss.length = m) (h100 : m ≤ 100) (hr : reg 4294967295 ss = 3736805603) (ha : a < 8 * m) (hb : b < 8 * m) (hab : a ≠ b) : crc (flip (flip ss a) b) ≠ 558161692 := by
  subst hm
  intro h
  have h0 := crc_trace (E := 2 ^ a ^^^ 2 ^ b) (by simp [flip_length]) hr (by
    rw [val_flip _ _ (by simpa [flip_length] using hb), val_flip _ _ ha, Nat.xor_assoc]) h
  rw [shn_xor, shn_pow _ _ (by omega), shn_pow _ _ (by omega)] at h0
  exact two_ne (by omega) (by omega) (by omega) (by omega) (by omega) h0
end Go.Proofs.YthfoakomapmkeaaDoor.Crc
