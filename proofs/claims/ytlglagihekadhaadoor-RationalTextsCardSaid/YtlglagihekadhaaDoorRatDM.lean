/- Plain mathematics of bits.Div64: two digits of a quotient, each guessed and then lowered. -/
import Derived.Laws.Bits64b
import Derived.Lib.ItoaNum
import Derived.Shelf.Small.Bits
namespace Go.Proofs.YtlglagihekadhaaDoor

/-- What holds of a guessed digit q and its rest r, for the dividend u and the next digit u1, by the divisor v1, v0. -/
structure KD (u v1 v0 u1 q r : Int) : Prop where
  eq : q * v1 + r = u
  lo : (u * 4294967296 + u1) / (v1 * 4294967296 + v0) ≤ q
/-- The ranges. -/
structure KR (u v1 v0 u1 : Int) : Prop where
  a1 : 2147483648 ≤ v1
  a2 : v1 < 4294967296
  b1 : 0 ≤ v0
  b2 : v0 < 4294967296
  c1 : 0 ≤ u
  c2 : u < v1 * 4294967296 + v0
  d1 : 0 ≤ u1
  d2 : u1 < 4294967296

theorem KD.start {u v1 v0 u1 : Int} (h : KR u v1 v0 u1) : KD u v1 v0 u1 (u / v1) (u - u / v1 * v1) := by
  obtain ⟨a1, a2, b1, b2, c1, c2, d1, d2⟩ := h
  refine ⟨by omega, ?_⟩
  rw [Int.le_ediv_iff_mul_le (by omega)]
  generalize hQ : (u * 4294967296 + u1) / (v1 * 4294967296 + v0) = Q
  have h1 : Q * (v1 * 4294967296 + v0) ≤ u * 4294967296 + u1 := by rw [← hQ]; exact Int.ediv_mul_le _ (by omega)
  have h0 : 0 ≤ Q := by rw [← hQ]; exact Int.ediv_nonneg (by omega) (by omega)
  have h2 : 0 ≤ Q * v0 := Int.mul_nonneg h0 b1
  have h3 : Q * (v1 * 4294967296 + v0) = Q * v1 * 4294967296 + Q * v0 := by rw [Int.mul_add, Int.mul_assoc]
  omega
theorem KD.start_rest {u v1 v0 u1 : Int} (h : KR u v1 v0 u1) : 0 ≤ u - u / v1 * v1 ∧ u - u / v1 * v1 < v1 ∧ 0 ≤ u / v1 ∧ u / v1 ≤ 4294967297 := by
  obtain ⟨a1, a2, b1, b2, c1, c2, d1, d2⟩ := h
  have e := Int.emod_add_mul_ediv u v1
  have e0 := Int.emod_nonneg u (b := v1) (by omega)
  have e1 := Int.emod_lt_of_pos u (b := v1) (by omega)
  rw [Int.mul_comm v1] at e
  refine ⟨by omega, by omega, Int.ediv_nonneg c1 (by omega), ?_⟩
  have : u / v1 < 4294967298 := Int.ediv_lt_of_lt_mul (by omega) (by omega)
  omega
theorem KD.step {u v1 v0 u1 q r : Int} (h : KR u v1 v0 u1) (k : KD u v1 v0 u1 q r) (t : 4294967296 ≤ q ∨ 4294967296 * r + u1 < q * v0) :
    KD u v1 v0 u1 (q - 1) (r + v1) ∧ 1 ≤ q := by
  obtain ⟨a1, a2, b1, b2, c1, c2, d1, d2⟩ := h
  obtain ⟨e, l⟩ := k
  have hlt : (u * 4294967296 + u1) / (v1 * 4294967296 + v0) < q := by
    refine Int.ediv_lt_of_lt_mul (by omega) ?_
    rcases t with t | t
    · have := Int.mul_le_mul_of_nonneg_right t (show 0 ≤ v1 * 4294967296 + v0 by omega)
      omega
    · have h3 : q * (v1 * 4294967296 + v0) = q * v1 * 4294967296 + q * v0 := by rw [Int.mul_add, Int.mul_assoc]
      omega
  have h0 : 0 ≤ (u * 4294967296 + u1) / (v1 * 4294967296 + v0) := Int.ediv_nonneg (by omega) (by omega)
  refine ⟨⟨?_, by omega⟩, by omega⟩
  rw [Int.sub_mul]; omega
theorem KD.exit1 {u v1 v0 u1 q r : Int} (h : KR u v1 v0 u1) (k : KD u v1 v0 u1 q r) (t : q * v0 ≤ 4294967296 * r + u1) :
    q = (u * 4294967296 + u1) / (v1 * 4294967296 + v0) := by
  obtain ⟨a1, a2, b1, b2, c1, c2, d1, d2⟩ := h
  obtain ⟨e, l⟩ := k
  have : q ≤ (u * 4294967296 + u1) / (v1 * 4294967296 + v0) := by
    rw [Int.le_ediv_iff_mul_le (by omega)]
    have h3 : q * (v1 * 4294967296 + v0) = q * v1 * 4294967296 + q * v0 := by rw [Int.mul_add, Int.mul_assoc]
    omega
  omega
theorem KD.exit2 {u v1 v0 u1 q r : Int} (h : KR u v1 v0 u1) (k : KD u v1 v0 u1 q r) (t : 4294967296 ≤ r) (q1 : q ≤ 4294967296) :
    q = (u * 4294967296 + u1) / (v1 * 4294967296 + v0) := by
  refine KD.exit1 h k ?_
  obtain ⟨a1, a2, b1, b2, c1, c2, d1, d2⟩ := h
  have := Int.mul_le_mul_of_nonneg_right q1 b1
  omega
/-- A step's digit fits, its product too. -/
theorem KD.fits {u v1 v0 u1 q : Int} (h : KR u v1 v0 u1) (e : q = (u * 4294967296 + u1) / (v1 * 4294967296 + v0)) :
    0 ≤ q ∧ q < 4294967296 ∧ 0 ≤ u * 4294967296 + u1 - q * (v1 * 4294967296 + v0) ∧ u * 4294967296 + u1 - q * (v1 * 4294967296 + v0) < v1 * 4294967296 + v0 := by
  obtain ⟨a1, a2, b1, b2, c1, c2, d1, d2⟩ := h
  have e' := Int.emod_add_mul_ediv (u * 4294967296 + u1) (v1 * 4294967296 + v0)
  have e0 := Int.emod_nonneg (u * 4294967296 + u1) (b := v1 * 4294967296 + v0) (by omega)
  have e1 := Int.emod_lt_of_pos (u * 4294967296 + u1) (b := v1 * 4294967296 + v0) (by omega)
  rw [Int.mul_comm (v1 * 4294967296 + v0), ← e] at e'
  refine ⟨?_, ?_, by omega, by omega⟩
  · rw [e]; exact Int.ediv_nonneg (by omega) (by omega)
  · rw [e]; exact Int.ediv_lt_of_lt_mul (by omega) (by omega)

/-- Both digits together are the quotient, and the last rest is the remainder, all times p. -/
theorem KD.whole {n y p Y u10 u un1 un0 q1 q0 : Int} (hp : 0 < p) (hy : 0 < y) (hY : y * p = Y) (hu : n * p = u * 18446744073709551616 + u10)
    (h10 : u10 = un1 * 4294967296 + un0) (h2 : q0 = ((u * 4294967296 + un1 - q1 * Y) * 4294967296 + un0) / Y) :
    q1 * 4294967296 + q0 = n / y ∧ ((u * 4294967296 + un1 - q1 * Y) * 4294967296 + un0 - q0 * Y) / p = n % y := by
  have hYp : 0 < Y := by rw [← hY]; exact Int.mul_pos hy hp
  generalize hR : (u * 4294967296 + un1 - q1 * Y) * 4294967296 + un0 - q0 * Y = R
  have hR0 : 0 ≤ R := by
    have := Int.ediv_mul_le ((u * 4294967296 + un1 - q1 * Y) * 4294967296 + un0) (b := Y) (by omega)
    rw [← h2] at this; omega
  have hR1 : R < Y := by
    have := Int.lt_ediv_add_one_mul_self ((u * 4294967296 + un1 - q1 * Y) * 4294967296 + un0) hYp
    rw [← h2, Int.add_mul] at this; omega
  have hs : n * p = (q1 * 4294967296 + q0) * Y + R := by
    rw [Int.add_mul, Int.mul_right_comm]; omega
  have hq : q1 * 4294967296 + q0 = n / y := by
    have e1 : n / y = n * p / Y := by rw [← hY, Int.mul_ediv_mul_of_pos_left _ _ hp]
    rw [e1, hs, Int.add_comm _ R, Int.add_mul_ediv_right _ _ (by omega), Int.ediv_eq_zero_of_lt hR0 hR1, Int.zero_add]
  refine ⟨hq, ?_⟩
  have hr : R = (n % y) * p := by
    have e2 := Int.emod_add_mul_ediv n y
    have e3 : n * p = (n % y) * p + (n / y) * Y := by rw [← hY, ← Int.mul_assoc, Int.mul_comm (n / y), ← Int.add_mul, e2]
    rw [hs, hq] at e3
    omega
  rw [hr, Int.mul_ediv_cancel _ (by omega)]
theorem lz_spec (y : Int) (h1 : 1 ≤ y) (h2 : y ≤ 18446744073709551615) : ∃ s : Nat, s ≤ 63 ∧ 64 - (Lib.bitLen y.toNat : Int) = s ∧ 9223372036854775808 ≤ y * 2 ^ s ∧ y * 2 ^ s < 18446744073709551616 := by
  obtain ⟨n, rfl⟩ := Int.eq_ofNat_of_zero_le (show 0 ≤ y by omega)
  rw [Int.toNat_natCast]
  have hn : n ≠ 0 := by omega
  have b := Go.Lib.bitLenAux_bounds 64 n (by omega) hn
  obtain ⟨b1, b2, b3⟩ := b
  change 1 ≤ Lib.bitLen n at b1
  change 2 ^ (Lib.bitLen n - 1) ≤ n at b2
  change n < 2 ^ Lib.bitLen n at b3
  have b4 : Lib.bitLen n ≤ 64 := Go.Lib.bitLen_le n 64 (by omega) (by omega)
  generalize Lib.bitLen n = k at *
  have g1 : 2 ^ (k - 1) * 2 ^ (64 - k) = 9223372036854775808 := by rw [← Nat.pow_add, show k - 1 + (64 - k) = 63 by omega]
  have g2 : 2 ^ k * 2 ^ (64 - k) = 18446744073709551616 := by rw [← Nat.pow_add, show k + (64 - k) = 64 by omega]
  refine ⟨64 - k, by omega, by omega, ?_, ?_⟩
  · have : 9223372036854775808 ≤ n * 2 ^ (64 - k) := by rw [← g1]; exact Nat.mul_le_mul_right _ b2
    have t := Int.ofNat_le.2 this
    rw [Int.natCast_mul, Int.natCast_pow] at t
    exact t
  · have : n * 2 ^ (64 - k) < 18446744073709551616 := by rw [← g2]; exact Nat.mul_lt_mul_of_pos_right b3 (Nat.two_pow_pos _)
    have t := Int.ofNat_lt.2 this
    rw [Int.natCast_mul, Int.natCast_pow] at t
    exact t

theorem and_mask (x : Int) (h0 : 0 ≤ x) (h1 : x ≤ 18446744073709551615) : bits .and .u64 x 4294967295 = x % 4294967296 := by
  obtain ⟨n, rfl⟩ := Int.eq_ofNat_of_zero_le h0
  have := bits_and_u64_nat n 4294967295 (by omega) (by omega)
  rw [Nat.and_two_pow_sub_one_eq_mod n 32] at this
  exact this.trans (by omega)
theorem p2 (s : Nat) : (2 : Int) ^ s = ((2 ^ s : Nat) : Int) := by rw [Int.natCast_pow]; rfl
/-- The upper word of what was shifted. -/
theorem or_shift (hi lo y : Int) (s : Nat) (hs : s ≤ 63) (h0 : 0 ≤ hi) (hy : hi < y) (hY : y * 2 ^ s < 18446744073709551616) (l0 : 0 ≤ lo) (l1 : lo ≤ 18446744073709551615) :
    ∃ u u10 : Int, bits .or .u64 (IntKind.u64.wrap (hi * 2 ^ s)) (lo / 2 ^ (64 - s)) = u ∧ IntKind.u64.wrap (lo * 2 ^ s) = u10 ∧ 0 ≤ u ∧ u < y * 2 ^ s ∧ 0 ≤ u10 ∧ u10 ≤ 18446744073709551615 ∧
      (hi * 18446744073709551616 + lo) * 2 ^ s = u * 18446744073709551616 + u10 := by
  obtain ⟨a, rfl⟩ := Int.eq_ofNat_of_zero_le h0
  obtain ⟨b, rfl⟩ := Int.eq_ofNat_of_zero_le l0
  obtain ⟨z, rfl⟩ := Int.eq_ofNat_of_zero_le (show 0 ≤ y by omega)
  have hp : 2 ^ (64 - s) * 2 ^ s = 18446744073709551616 := by rw [← Nat.pow_add, show 64 - s + s = 64 by omega]
  have hd : b / 2 ^ (64 - s) < 2 ^ s := Nat.div_lt_of_lt_mul (by rw [hp]; omega)
  have ho := Nat.two_pow_add_eq_or_of_lt hd a
  have P0 : 0 < 2 ^ s := Nat.two_pow_pos s
  rw [p2 s] at hY ⊢
  rw [p2 (64 - s)]
  generalize 2 ^ s = P at *
  generalize 2 ^ (64 - s) = D at *
  have haz : a * P + P ≤ z * P := by
    have := Nat.mul_le_mul_right P (show a + 1 ≤ z by omega)
    rw [Nat.add_mul, Nat.one_mul] at this; exact this
  have e1 : IntKind.u64.wrap ((a : Int) * P) = ((a * P : Nat) : Int) := by
    rw [IntKind.wrap_u64]; omega
  have e2 : ((b : Int) / D) = ((b / D : Nat) : Int) := by omega
  have e3 : IntKind.u64.wrap ((b : Int) * P) = ((b * P % 18446744073709551616 : Nat) : Int) := by
    rw [IntKind.wrap_u64]; omega
  have hb : b * P / 18446744073709551616 = b / D := by rw [← hp, Nat.mul_div_mul_right _ _ P0]
  rw [e2]
  clear e2
  generalize b / D = q at *
  refine ⟨((a * P + q : Nat) : Int), ((b * P % 18446744073709551616 : Nat) : Int), ?_, e3, by omega, by omega, by omega, by omega, ?_⟩
  · rw [e1, bits_or_u64_nat _ _ (by omega) (by omega), Nat.mul_comm a, ← ho]
  · have : (a * 18446744073709551616 + b) * P = (a * P + q) * 18446744073709551616 + b * P % 18446744073709551616 := by
      rw [Nat.add_mul, Nat.mul_right_comm]; omega
    have t : (((a * 18446744073709551616 + b) * P : Nat) : Int) = (((a * P + q) * 18446744073709551616 + b * P % 18446744073709551616 : Nat) : Int) := by rw [this]
    rw [Int.natCast_mul, Int.natCast_add, Int.natCast_mul a, show ((18446744073709551616 : Nat) : Int) = 18446744073709551616 from rfl] at t
    omega
end Go.Proofs.YtlglagihekadhaaDoor
