/- Sums and runs of the bits of symbols, as plain mathematics. -/
import Derived.Test.YthjhgmcikfekmaaDoorLinM3
namespace Go.Proofs.YthjhgmcikfekmaaDoor

/-- The bit with the index i. -/
def bt (xs : List Nat) (i : Nat) : Nat := xs.getD (i / 6) 0 / 2 ^ (5 - i % 6) % 2
theorem bt_lt (xs : List Nat) (i : Nat) : bt xs i < 2 := Nat.mod_lt _ (by decide)
/-- The sum of the first i bits. -/
def sm (f : Nat → Nat) : Nat → Int
  | 0 => 0
  | i + 1 => sm f i + (2 * (f i : Int) - 1)
/-- All symbols have six bits. -/
def small (xs : List Nat) : Bool := xs.all fun x => decide (x ≤ 63)
/-- No sum of the first m bits or fewer is far from zero. -/
def near (f : Nat → Nat) : Nat → Bool
  | 0 => true
  | i + 1 => near f i && (decide (-3 ≤ sm f (i + 1)) && decide (sm f (i + 1) ≤ 3))
theorem near_of_le {f : Nat → Nat} {m i : Nat} (h : near f m = true) (hi : i ≤ m) : near f i = true := by
  induction m with
  | zero => obtain rfl : i = 0 := by omega
            exact h
  | succ m ih =>
    rcases Nat.lt_or_ge i (m + 1) with h1 | h1
    · simp only [near, Bool.and_eq_true] at h
      exact ih h.1 (by omega)
    · obtain rfl : i = m + 1 := by omega
      exact h
theorem near_bound {f : Nat → Nat} {m : Nat} (h : near f m = true) : ∀ i ≤ m, -3 ≤ sm f i ∧ sm f i ≤ 3 := by
  intro i hi
  have h := near_of_le h hi
  cases i with
  | zero => simp [sm]
  | succ i =>
    simp only [near, Bool.and_eq_true, decide_eq_true_eq] at h
    exact h.2
theorem near_of_bound {f : Nat → Nat} {m : Nat} (h : ∀ i ≤ m, -3 ≤ sm f i ∧ sm f i ≤ 3) : near f m = true := by
  induction m with
  | zero => rfl
  | succ m ih =>
    simp only [near, Bool.and_eq_true, decide_eq_true_eq]
    exact ⟨ih fun i hi => h i (by omega), h (m + 1) (by omega)⟩
theorem near_false {f : Nat → Nat} {m i : Nat} (hi : i ≤ m) (h : near f i = false) : near f m = false := by
  cases hm : near f m with
  | false => rfl
  | true => rw [near_of_le hm hi] at h; cases h
theorem near_step {f : Nat → Nat} {i : Nat} (h : near f i = true) (hb : ¬ (-3 ≤ sm f (i + 1) ∧ sm f (i + 1) ≤ 3)) : near f (i + 1) = false := by
  simp only [near, h, Bool.true_and, Bool.and_eq_false_iff, decide_eq_false_iff_not]
  omega
theorem near_next {f : Nat → Nat} {i : Nat} (h : near f i = true) (hb : -3 ≤ sm f (i + 1) ∧ sm f (i + 1) ≤ 3) : near f (i + 1) = true := by
  simp [near, h, hb]
theorem small_mem {xs : List Nat} : small xs = true ↔ ∀ j < xs.length, xs.getD j 0 ≤ 63 := by
  unfold small
  rw [List.all_eq_true]
  constructor
  · intro h j hj
    rw [List.getD_eq_getElem?_getD, List.getElem?_eq_getElem hj]
    have := h _ (List.getElem_mem hj)
    simpa using this
  · intro h x hx
    obtain ⟨j, hj, rfl⟩ := List.mem_iff_getElem.1 hx
    have := h j hj
    rw [List.getD_eq_getElem?_getD, List.getElem?_eq_getElem hj] at this
    simpa using this
/-- What Balanced answers. -/
def balB (xs : List Nat) : Bool := small xs && near (bt xs) (6 * xs.length)

/-- All bits of a window are equal. -/
def const (f : Nat → Nat) (j m : Nat) : Prop := ∀ a b, j ≤ a → a < j + m → j ≤ b → b < j + m → f a = f b
/-- L is the length of the longest run of the first N bits. -/
def IsRun (f : Nat → Nat) (N L : Nat) : Prop := (L = 0 ∨ ∃ j, j + L ≤ N ∧ const f j L) ∧ ∀ j m, j + m ≤ N → const f j m → m ≤ L
theorem IsRun.eq {f : Nat → Nat} {N L M : Nat} (h : IsRun f N L) (k : IsRun f N M) : L = M := by
  have a : L ≤ M := by
    rcases h.1 with rfl | ⟨j, hj, hc⟩
    · omega
    · exact k.2 j L hj hc
  have b : M ≤ L := by
    rcases k.1 with rfl | ⟨j, hj, hc⟩
    · omega
    · exact h.2 j M hj hc
  omega
/-- The run that ends with the bit i - 1, and the longest one of the first i bits, as Run computes them. -/
def er (f : Nat → Nat) : Nat → Nat
  | 0 => 0
  | i + 1 => (if 0 < i ∧ f i ≠ f (i - 1) then 0 else er f i) + 1
def lg (f : Nat → Nat) : Nat → Nat
  | 0 => 0
  | i + 1 => max (lg f i) (er f (i + 1))
theorem er_le (f : Nat → Nat) (i : Nat) : er f i ≤ i := by
  induction i with
  | zero => exact Nat.le_refl _
  | succ i ih => simp only [er]; split <;> omega
theorem er_const (f : Nat → Nat) (i : Nat) : const f (i - er f i) (er f i) := by
  induction i with
  | zero => intro a b h1 h2 h3 h4; simp [er] at h2
  | succ i ih =>
    have hle := er_le f i
    by_cases h : 0 < i ∧ f i ≠ f (i - 1)
    · have e : er f (i + 1) = 1 := by simp only [er]; rw [if_pos h]
      rw [e]
      intro a b h1 h2 h3 h4
      have : a = b := by omega
      rw [this]
    · have e : er f (i + 1) = er f i + 1 := by simp only [er]; rw [if_neg h]
      rw [e, show i + 1 - (er f i + 1) = i - er f i by omega]
      have key : ∀ a, i - er f i ≤ a → a < i → f a = f i := by
        intro a h1 h2
        have h3 : f i = f (i - 1) := by
          rcases Nat.eq_zero_or_pos i with h0 | h0
          · omega
          · exact Classical.byContradiction fun hne => h ⟨h0, hne⟩
        rw [h3]
        exact ih a (i - 1) h1 (by omega) (by omega) (by omega)
      intro a b h1 h2 h3 h4
      rcases Nat.lt_or_ge a i with ha | ha
      · rcases Nat.lt_or_ge b i with hb | hb
        · rw [key a h1 ha, key b h3 hb]
        · obtain rfl : b = i := by omega
          exact key a h1 ha
      · obtain rfl : a = i := by omega
        rcases Nat.lt_or_ge b a with hb | hb
        · exact (key b h3 hb).symm
        · have : a = b := by omega
          rw [this]
theorem er_most (f : Nat → Nat) : ∀ i j m, j + m = i → const f j m → m ≤ er f i := by
  intro i
  induction i with
  | zero => intro j m h _; simp [er]; omega
  | succ i ih =>
    intro j m h hc
    cases m with
    | zero => omega
    | succ m =>
      have hc' : const f j m := fun a b h1 h2 h3 h4 => hc a b h1 (by omega) h3 (by omega)
      have := ih j m (by omega) hc'
      by_cases h0 : 0 < i ∧ f i ≠ f (i - 1)
      · have e : er f (i + 1) = 1 := by simp only [er]; rw [if_pos h0]
        rw [e]
        rcases Nat.eq_zero_or_pos m with hm | hm
        · omega
        · exact absurd (hc i (i - 1) (by omega) (by omega) (by omega) (by omega)) h0.2
      · have e : er f (i + 1) = er f i + 1 := by simp only [er]; rw [if_neg h0]
        omega
theorem lg_run (f : Nat → Nat) (N : Nat) : IsRun f N (lg f N) := by
  induction N with
  | zero => exact ⟨.inl rfl, fun j m h _ => by omega⟩
  | succ N ih =>
    have hle := er_le f (N + 1)
    constructor
    · rcases Nat.le_total (lg f N) (er f (N + 1)) with h | h
      · right
        refine ⟨N + 1 - er f (N + 1), ?_, ?_⟩
        · simp only [lg, Nat.max_eq_right h]; omega
        · simp only [lg, Nat.max_eq_right h]; exact er_const f (N + 1)
      · simp only [lg, Nat.max_eq_left h]
        rcases ih.1 with h1 | ⟨j, hj, hc⟩
        · exact .inl h1
        · exact .inr ⟨j, by omega, hc⟩
    · intro j m hjm hc
      simp only [lg]
      rcases Nat.lt_or_ge (j + m) (N + 1) with h | h
      · exact Nat.le_trans (ih.2 j m (by omega) hc) (Nat.le_max_left _ _)
      · exact Nat.le_trans (er_most f (N + 1) j m (by omega) hc) (Nat.le_max_right _ _)

/-- The sums over a window of equal bits. -/
theorem sm_const {f : Nat → Nat} (hf : ∀ i, f i < 2) {j m : Nat} (h : const f j m) : sm f (j + m) = sm f j + m ∨ sm f (j + m) = sm f j - m := by
  cases m with
  | zero => left; simp
  | succ m =>
    have key : ∀ k, k ≤ m + 1 → sm f (j + k) = sm f j + k * (2 * (f j : Int) - 1) := by
      intro k
      induction k with
      | zero => intro _; simp
      | succ k ih =>
        intro hk
        rw [show j + (k + 1) = (j + k) + 1 by omega]
        simp only [sm]
        rw [ih (by omega), h (j + k) j (by omega) (by omega) (by omega) (by omega)]
        push_cast
        rw [Int.add_mul]
        omega
    have := key (m + 1) (Nat.le_refl _)
    have h2 := hf j
    rcases (by omega : f j = 0 ∨ f j = 1) with h0 | h0
    · right; rw [this, h0]; push_cast; omega
    · left; rw [this, h0]; push_cast; omega
theorem run_le_six {f : Nat → Nat} (hf : ∀ i, f i < 2) {N : Nat} (h : near f N = true) : lg f N ≤ 6 := by
  rcases (lg_run f N).1 with h0 | ⟨j, hj, hc⟩
  · omega
  · have a := near_bound h j (by omega)
    have b := near_bound h (j + lg f N) hj
    rcases sm_const hf hc with e | e <;> omega
theorem run_pos {f : Nat → Nat} {N : Nat} (h : 0 < N) : 1 ≤ lg f N :=
  (lg_run f N).2 0 1 (by omega) (fun a b h1 h2 h3 h4 => by rw [show a = b by omega])

/-- The sum of the first r bits of a symbol. -/
def part (s : Nat) : Nat → Int
  | 0 => 0
  | r + 1 => part s r + (2 * ((s / 2 ^ (5 - r) % 2 : Nat) : Int) - 1)
theorem part_ok : ∀ i < 20, part (syms.getD i 0) 6 = 0 ∧ ∀ r ≤ 6, -3 ≤ part (syms.getD i 0) r ∧ part (syms.getD i 0) r ≤ 3 := by decide +kernel
theorem sm_part (xs : List Nat) (i r : Nat) (hr : r ≤ 6) : sm (bt xs) (6 * i + r) = sm (bt xs) (6 * i) + part (xs.getD i 0) r := by
  induction r with
  | zero => simp [part]
  | succ r ih =>
    rw [show 6 * i + (r + 1) = (6 * i + r) + 1 by omega]
    simp only [sm, part]
    rw [ih (by omega)]
    have e : bt xs (6 * i + r) = xs.getD i 0 / 2 ^ (5 - r) % 2 := by
      unfold bt
      rw [show (6 * i + r) / 6 = i by omega, show (6 * i + r) % 6 = r by omega]
    rw [e]
    omega
/-- Lists of valid symbols are balanced. -/
theorem valid_near {xs : List Nat} (h : ∀ j < xs.length, ∃ i < 20, xs.getD j 0 = syms.getD i 0) : near (bt xs) (6 * xs.length) = true := by
  have z : ∀ i ≤ xs.length, sm (bt xs) (6 * i) = 0 := by
    intro i
    induction i with
    | zero => intro _; rfl
    | succ i ih =>
      intro hi
      obtain ⟨q, hq, e⟩ := h i (by omega)
      rw [show 6 * (i + 1) = 6 * i + 6 by omega, sm_part xs i 6 (by omega), ih (by omega), e, (part_ok q hq).1]
      rfl
  apply near_of_bound
  intro k hk
  rcases Nat.lt_or_ge k (6 * xs.length) with hlt | hge
  · obtain ⟨q, hq, e⟩ := h (k / 6) (by omega)
    have := sm_part xs (k / 6) (k % 6) (by omega)
    rw [show 6 * (k / 6) + k % 6 = k by omega, z (k / 6) (by omega), e] at this
    have p := (part_ok q hq).2 (k % 6) (by omega)
    omega
  · obtain rfl : k = 6 * xs.length := by omega
    rw [z xs.length (Nat.le_refl _)]
    omega
end Go.Proofs.YthjhgmcikfekmaaDoor
