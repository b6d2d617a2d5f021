/- Plain mathematics for layer 2 (crc): the register as a linear map, its inverse, strings of bytes as strings of bits. -/
namespace Go.Proofs.YthfoakomapmkeaaDoor.Crc

/-- The polynomial, reflected. -/
def poly : Nat := 3988292384
/-- The register, shifted by one bit that is 0. -/
def sh (r : Nat) : Nat := (r / 2) ^^^ (if r % 2 = 1 then poly else 0)
/-- The register, shifted by n bits that are 0. -/
def shn : Nat → Nat → Nat
  | 0, r => r
  | n + 1, r => shn n (sh r)
/-- The register behind one byte. -/
def byteStep (r x : Nat) : Nat := shn 8 (r ^^^ x)
/-- The register behind a string. -/
def reg (r : Nat) (xs : List Nat) : Nat := xs.foldl byteStep r
/-- The check sum. -/
def crc (xs : List Nat) : Nat := reg 4294967295 xs ^^^ 4294967295

theorem xor_eq_zero {a b : Nat} (h : a ^^^ b = 0) : a = b := by
  have := congrArg (· ^^^ b) h
  simpa [Nat.xor_assoc] using this

theorem sh_xor (a b : Nat) : sh (a ^^^ b) = sh a ^^^ sh b := by
  unfold sh
  have h1 : (a ^^^ b) / 2 = a / 2 ^^^ b / 2 := Nat.xor_div_two
  have h2 : ((a ^^^ b) % 2 = 1) ↔ ¬ (a % 2 = 1 ↔ b % 2 = 1) := by
    have := @Nat.xor_mod_two_eq_one a b
    exact this
  rw [h1]
  by_cases ha : a % 2 = 1 <;> by_cases hb : b % 2 = 1
  · rw [if_neg (by rw [h2]; simp [ha, hb]), if_pos ha, if_pos hb]
    rw [Nat.xor_zero, Nat.xor_assoc, ← Nat.xor_assoc poly, Nat.xor_comm poly (b / 2), Nat.xor_assoc (b / 2), Nat.xor_self, Nat.xor_zero]
  · rw [if_pos (by rw [h2]; simp [ha, hb]), if_pos ha, if_neg hb, Nat.xor_zero, Nat.xor_assoc, Nat.xor_assoc, Nat.xor_comm poly]
  · rw [if_pos (by rw [h2]; simp [ha, hb]), if_neg ha, if_pos hb, Nat.xor_zero, Nat.xor_assoc]
  · rw [if_neg (by rw [h2]; simp [ha, hb]), if_neg ha, if_neg hb, Nat.xor_zero, Nat.xor_zero, Nat.xor_zero]

theorem sh_lt {r : Nat} (h : r < 2 ^ 32) : sh r < 2 ^ 32 := by
  unfold sh
  refine Nat.xor_lt_two_pow (by omega) ?_
  split
  · decide
  · decide
theorem sh_zero : sh 0 = 0 := by decide
theorem sh_double (q : Nat) : sh (2 * q) = q := by
  unfold sh
  rw [if_neg (by omega), Nat.xor_zero]; omega

theorem shn_xor (n : Nat) : ∀ a b, shn n (a ^^^ b) = shn n a ^^^ shn n b := by
  induction n with
  | zero => intro a b; rfl
  | succ n ih => intro a b; simp only [shn, sh_xor, ih]
theorem shn_zero (n : Nat) : shn n 0 = 0 := by
  induction n with
  | zero => rfl
  | succ n ih => simp only [shn, sh_zero, ih]
theorem shn_lt (n : Nat) : ∀ {r : Nat}, r < 2 ^ 32 → shn n r < 2 ^ 32 := by
  induction n with
  | zero => intro r h; exact h
  | succ n ih => intro r h; exact ih (sh_lt h)
theorem shn_add (n m : Nat) : ∀ r, shn (n + m) r = shn m (shn n r) := by
  induction n with
  | zero => intro r; rw [Nat.zero_add]; rfl
  | succ n ih => intro r; rw [Nat.add_right_comm]; simp only [shn]; rw [ih]
theorem shn_succ' (n r : Nat) : shn (n + 1) r = sh (shn n r) := by rw [shn_add]; rfl
theorem shn_mul (n : Nat) : ∀ q, shn n (2 ^ n * q) = q := by
  induction n with
  | zero => intro q; simp [shn]
  | succ n ih => intro q; rw [shn, Nat.pow_succ, Nat.mul_comm (2 ^ n) 2, Nat.mul_assoc, sh_double, ih]

/-- Shifting loses nothing. -/
theorem sh_eq_zero {r : Nat} (h : r < 2 ^ 32) (h0 : sh r = 0) : r = 0 := by
  unfold sh at h0
  by_cases hr : r % 2 = 1
  · rw [if_pos hr] at h0
    have : r / 2 = poly := xor_eq_zero h0
    unfold poly at this
    omega
  · rw [if_neg hr, Nat.xor_zero] at h0
    omega
theorem shn_eq_zero (n : Nat) : ∀ {r : Nat}, r < 2 ^ 32 → shn n r = 0 → r = 0 := by
  induction n with
  | zero => intro r _ h; exact h
  | succ n ih => intro r hr h; exact sh_eq_zero hr (ih (sh_lt hr) h)
theorem shn_inj (n : Nat) {a b : Nat} (ha : a < 2 ^ 32) (hb : b < 2 ^ 32) (h : shn n a = shn n b) : a = b :=
  xor_eq_zero (shn_eq_zero n (Nat.xor_lt_two_pow ha hb) (by rw [shn_xor, h, Nat.xor_self]))

/-- The split of a number in its low bits and the rest, as an exclusive or. -/
theorem split_xor (n x : Nat) : x = (2 ^ n * (x / 2 ^ n)) ^^^ (x % 2 ^ n) := by
  apply Nat.eq_of_testBit_eq
  intro i
  rw [Nat.testBit_xor, Nat.testBit_mod_two_pow, Nat.testBit_two_pow_mul, Nat.testBit_div_two_pow]
  by_cases hi : i < n
  · have : ¬ n ≤ i := by omega
    simp [hi, this]
  · have h2 : n ≤ i := by omega
    simp [hi, h2, Nat.sub_add_cancel h2]

/-- Shifting by n bits: the low bits decide what is combined with the rest. -/
theorem shn_split (n x : Nat) : shn n x = (x / 2 ^ n) ^^^ shn n (x % 2 ^ n) := by
  conv => lhs; rw [split_xor n x]
  rw [shn_xor, shn_mul]

theorem xor_lt32 {a b : Nat} (ha : a < 2 ^ 32) (hb : b < 2 ^ 32) : a ^^^ b < 2 ^ 32 := Nat.xor_lt_two_pow ha hb
theorem byteStep_lt {r x : Nat} (hr : r < 2 ^ 32) (hx : x < 256) : byteStep r x < 2 ^ 32 :=
  shn_lt 8 (Nat.xor_lt_two_pow hr (by omega))
theorem reg_nil (r : Nat) : reg r [] = r := rfl
theorem reg_cons (r x : Nat) (xs : List Nat) : reg r (x :: xs) = reg (byteStep r x) xs := rfl
theorem reg_append (r : Nat) (xs ys : List Nat) : reg r (xs ++ ys) = reg (reg r xs) ys := by simp [reg]
theorem reg_lt : ∀ (xs : List Nat) {r : Nat}, r < 2 ^ 32 → (∀ x ∈ xs, x < 256) → reg r xs < 2 ^ 32
  | [], _, hr, _ => hr
  | x :: xs, _, hr, hx => reg_lt xs (byteStep_lt hr (hx x List.mem_cons_self)) fun y hy => hx y (List.mem_cons_of_mem _ hy)
theorem crc_lt {xs : List Nat} (hx : ∀ x ∈ xs, x < 256) : crc xs < 2 ^ 32 := Nat.xor_lt_two_pow (reg_lt xs (by decide) hx) (by decide)

theorem byteStep_xor (r s x y : Nat) : byteStep (r ^^^ s) (x ^^^ y) = byteStep r x ^^^ byteStep s y := by
  unfold byteStep
  rw [← shn_xor]
  congr 1
  rw [Nat.xor_assoc, ← Nat.xor_assoc s, Nat.xor_comm s x, Nat.xor_assoc x, ← Nat.xor_assoc r]
/-- The register is linear. -/
theorem reg_xor : ∀ (xs ys : List Nat) (r s : Nat), xs.length = ys.length → reg (r ^^^ s) (List.zipWith (· ^^^ ·) xs ys) = reg r xs ^^^ reg s ys
  | [], [], _, _, _ => rfl
  | x :: xs, y :: ys, r, s, h => by
    simp only [List.zipWith_cons_cons, reg_cons, byteStep_xor]
    exact reg_xor xs ys _ _ (by simpa using h)
  | [], _ :: _, _, _, h => by simp at h
  | _ :: _, [], _, _, h => by simp at h

/-- The four bytes of a number, the least one first. -/
def le4 (v : Nat) : List Nat := [v % 256, v / 256 % 256, v / 65536 % 256, v / 16777216 % 256]
theorem le4_lt (v : Nat) : ∀ x ∈ le4 v, x < 256 := by intro x hx; simp [le4] at hx; omega
theorem le4_length (v : Nat) : (le4 v).length = 4 := rfl

theorem byteStep_eq (r x : Nat) (hx : x < 256) : byteStep r x = (r / 256) ^^^ shn 8 (r % 256 ^^^ x) := by
  unfold byteStep
  rw [shn_split]
  have h1 : (r ^^^ x) / 2 ^ 8 = r / 256 := by
    rw [Nat.xor_div_two_pow, Nat.div_eq_of_lt (show x < 2 ^ 8 by omega), Nat.xor_zero]
  have h2 : (r ^^^ x) % 2 ^ 8 = r % 256 ^^^ x := by
    rw [Nat.xor_mod_two_pow, Nat.mod_eq_of_lt (show x < 2 ^ 8 by omega)]
  rw [h1, h2]

/-- A string as a number, its first byte lowest. -/
def val : List Nat → Nat
  | [] => 0
  | x :: xs => x ^^^ 256 * val xs
/-- The register behind a string: all of its bits at once. -/
theorem reg_val : ∀ (xs : List Nat) (r : Nat), reg r xs = shn (8 * xs.length) (r ^^^ val xs)
  | [], r => by simp [reg, val, shn]
  | x :: xs, r => by
    have h8 : val xs = shn 8 (256 * val xs) := (shn_mul 8 (val xs)).symm
    rw [reg_cons, reg_val xs, List.length_cons, show 8 * (xs.length + 1) = 8 + 8 * xs.length by omega, shn_add, val, ← Nat.xor_assoc]
    congr 1
    rw [shn_xor 8 (r ^^^ x), ← h8]
    rfl
end Go.Proofs.YthfoakomapmkeaaDoor.Crc
