/- Sealed strings, as plain mathematics. -/
import Derived.Test.YthfoakomapmkeaaDoorCrcN
namespace Go.Proofs.YthfoakomapmkeaaDoor.Crc

theorem le4_val {t : List Nat} (hl : t.length = 4) (ht : ∀ x ∈ t, x < 256) : le4 (val t) = t ∧ val t < 2 ^ 32 := by
  match t, hl with
  | [a, b, c, d], _ =>
    have ha := ht a (by simp)
    have hb := ht b (by simp)
    have hc := ht c (by simp)
    have hd := ht d (by simp)
    have e : val [a, b, c, d] = a + 256 * (b + 256 * (c + 256 * d)) := by
      simp only [val, Nat.mul_zero, Nat.xor_zero]
      rw [xor_add hc, xor_add hb, xor_add ha]
    rw [e]
    constructor
    · unfold le4
      congr 1
      · omega
      congr 1
      · omega
      congr 1
      · omega
      congr 1
      omega
    · omega
/-- A string is sealed exactly if it has the seal's check sum. -/
theorem sealed_iff {xs : List Nat} (hx : ∀ x ∈ xs, x < 256) (h4 : 4 ≤ xs.length) : crc xs = 558161692 ↔ xs = xs.take (xs.length - 4) ++ le4 (crc (xs.take (xs.length - 4))) := by
  have hm : ∀ x ∈ xs.take (xs.length - 4), x < 256 := fun x h => hx x (List.mem_of_mem_take h)
  constructor
  · intro h
    have ht : ∀ x ∈ xs.drop (xs.length - 4), x < 256 := fun x h => hx x (List.mem_of_mem_drop h)
    obtain ⟨e1, e2⟩ := le4_val (t := xs.drop (xs.length - 4)) (by simp; omega) ht
    have h1 : reg 4294967295 xs = 3736805603 := by
      unfold crc at h
      have := congrArg (· ^^^ 4294967295) h
      simp only [Nat.xor_assoc, Nat.xor_self, Nat.xor_zero] at this
      rw [this]; decide
    rw [← List.take_append_drop (xs.length - 4) xs, reg_append, ← e1, reg_le4 _ e2] at h1
    have h2 : reg 4294967295 (xs.take (xs.length - 4)) ^^^ val (xs.drop (xs.length - 4)) = 4294967295 := by
      refine shn_inj 32 (xor_lt32 (reg_lt _ (by decide) hm) e2) (by decide) ?_
      rw [h1]
      decide +kernel
    have h3 : val (xs.drop (xs.length - 4)) = crc (xs.take (xs.length - 4)) := by
      unfold crc
      generalize reg 4294967295 (xs.take (xs.length - 4)) = r at h2 ⊢
      rw [← h2, ← Nat.xor_assoc, Nat.xor_self, Nat.zero_xor]
    rw [← h3, e1, List.take_append_drop]
  · intro h
    rw [h]
    exact sealed_crc hm

end Go.Proofs.YthfoakomapmkeaaDoor.Crc
