/- Plain mathematics for layer 1 (rational): sizes, greatest common divisors, numbers in lowest terms. -/
namespace Go.Proofs.YtlglagihekadhaaDoor
/-- The size of a number. -/
def mag (n : Int) : Int := if n < 0 then -n else n
theorem mag_nonneg (n : Int) : 0 ≤ mag n := by unfold mag; split <;> omega
theorem mag_le {n b : Int} (h1 : -b ≤ n) (h2 : n ≤ b) : mag n ≤ b := by unfold mag; split <;> omega
theorem mag_pos {n : Int} (h : n ≠ 0) : 1 ≤ mag n := by unfold mag; split <;> omega
theorem mag_eq_natAbs (n : Int) : mag n = (n.natAbs : Int) := by unfold mag; split <;> omega
/-- The greatest common divisor of two numbers. -/
def gd (a b : Int) : Int := (Int.gcd a b : Int)
theorem gd_zero (a : Int) (h : 0 ≤ a) : gd a 0 = a := by unfold gd; simp; omega
theorem gd_step (a b : Int) (ha : 0 ≤ a) (hb : 0 ≤ b) : gd b (a % b) = gd a b := by
  obtain ⟨x, rfl⟩ := Int.eq_ofNat_of_zero_le ha
  obtain ⟨y, rfl⟩ := Int.eq_ofNat_of_zero_le hb
  unfold gd
  rw [← Int.natCast_emod, Int.gcd_natCast_natCast, Int.gcd_natCast_natCast, Nat.gcd_comm x y, Nat.gcd_rec y x, Nat.gcd_comm]
theorem gd_nonneg (a b : Int) : 0 ≤ gd a b := by unfold gd; omega
theorem gd_le_left {a b : Int} (h : 0 < a) : gd a b ≤ a := by
  unfold gd; exact Int.le_of_dvd h (Int.gcd_dvd_left ..)
theorem gd_le_right {a b : Int} (h : 0 < b) : gd a b ≤ b := by
  unfold gd; exact Int.le_of_dvd h (Int.gcd_dvd_right ..)
theorem gd_mag (a b : Int) : gd (mag a) (mag b) = gd a b := by
  unfold gd; rw [mag_eq_natAbs, mag_eq_natAbs]; simp [Int.gcd]
theorem gd_pos_right {a b : Int} (h : b ≠ 0) : 1 ≤ gd a b := by
  unfold gd
  have : Int.gcd a b ≠ 0 := by rw [Ne, Int.gcd_eq_zero_iff]; exact fun hh => h hh.2
  omega
theorem gd_pos_left {a b : Int} (h : a ≠ 0) : 1 ≤ gd a b := by
  unfold gd
  have : Int.gcd a b ≠ 0 := by rw [Ne, Int.gcd_eq_zero_iff]; exact fun hh => h hh.1
  omega
end Go.Proofs.YtlglagihekadhaaDoor
