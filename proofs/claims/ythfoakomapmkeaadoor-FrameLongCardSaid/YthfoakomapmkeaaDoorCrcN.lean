/- More plain mathematics for layer 2: four bytes as a number; sealed strings. -/
import Derived.Test.YthfoakomapmkeaaDoorCrcM
namespace Go.Proofs.YthfoakomapmkeaaDoor.Crc

theorem xor_add {x : Nat} (hx : x < 256) (y : Nat) : x ^^^ 256 * y = x + 256 * y := by
  have h := split_xor 8 (x + 256 * y)
  rw [show (x + 256 * y) / 2 ^ 8 = y by omega, show (x + 256 * y) % 2 ^ 8 = x by omega, show 2 ^ 8 = 256 by decide, Nat.xor_comm] at h
  exact h.symm
theorem val_le4 {v : Nat} (hv : v < 2 ^ 32) : val (le4 v) = v := by
  simp only [le4, val, Nat.mul_zero, Nat.xor_zero]
  rw [xor_add (Nat.mod_lt _ (by decide)), xor_add (Nat.mod_lt _ (by decide)), xor_add (Nat.mod_lt _ (by decide))]
  omega
theorem reg_le4 (r : Nat) {v : Nat} (hv : v < 2 ^ 32) : reg r (le4 v) = shn 32 (r ^^^ v) := by rw [reg_val, val_le4 hv]; rfl
/-- The register behind every sealed string. -/
theorem sealed_reg {xs : List Nat} (hx : ∀ x ∈ xs, x < 256) : reg 4294967295 (xs ++ le4 (crc xs)) = 3736805603 := by
  rw [reg_append, reg_le4 _ (crc_lt hx), crc, ← Nat.xor_assoc, Nat.xor_self, Nat.zero_xor]
  decide +kernel
theorem sealed_crc {xs : List Nat} (hx : ∀ x ∈ xs, x < 256) : crc (xs ++ le4 (crc xs)) = 558161692 := by
  rw [crc, sealed_reg hx]; decide
theorem sealed_lt {xs : List Nat} (hx : ∀ x ∈ xs, x < 256) : ∀ x ∈ xs ++ le4 (crc xs), x < 256 := by
  intro x h
  rcases List.mem_append.1 h with h | h
  · exact hx x h
  · exact le4_lt _ x h
theorem sealed_length (xs : List Nat) : (xs ++ le4 (crc xs)).length = xs.length + 4 := by simp [le4_length]
end Go.Proofs.YthfoakomapmkeaaDoor.Crc
