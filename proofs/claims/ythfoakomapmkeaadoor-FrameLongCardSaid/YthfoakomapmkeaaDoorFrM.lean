/- The bytes of packets, as plain mathematics. -/
import Derived.Test.YthfoakomapmkeaaDoorLinM3
import Derived.Test.YthfoakomapmkeaaDoorCrcBm
namespace Go.Proofs.YthfoakomapmkeaaDoor

/-- The upper j of the five bytes of a number. -/
def fiveTo (n j : Nat) : List Nat := (List.range j).map fun i => n / 2 ^ (8 * (4 - i)) % 256
def five (n : Nat) : List Nat := fiveTo n 5
theorem fiveTo_length (n j : Nat) : (fiveTo n j).length = j := by simp [fiveTo]
theorem fiveTo_succ (n j : Nat) : fiveTo n (j + 1) = fiveTo n j ++ [n / 2 ^ (8 * (4 - j)) % 256] := by
  unfold fiveTo; rw [List.range_succ, List.map_append]; rfl
theorem five_length (n : Nat) : (five n).length = 5 := fiveTo_length n 5
theorem five_lt (n : Nat) : ∀ x ∈ five n, x < 256 := by
  intro x hx
  obtain ⟨i, _, rfl⟩ := List.mem_map.1 hx
  exact Nat.mod_lt _ (by decide)
/-- The number in the first j of some bytes. -/
def numTo (xs : List Nat) : Nat → Nat
  | 0 => 0
  | j + 1 => 256 * numTo xs j + xs.getD j 0
theorem numTo_lt {xs : List Nat} (hx : ∀ x ∈ xs, x < 256) : ∀ j ≤ xs.length, numTo xs j < 256 ^ j := by
  intro j
  induction j with
  | zero => intro _; simp [numTo]
  | succ j ih =>
    intro hj
    have h1 := ih (by omega)
    have h2 : xs.getD j 0 < 256 := by rw [List.getD_eq_getElem?_getD, List.getElem?_eq_getElem (by omega)]; exact hx _ (List.getElem_mem _)
    simp only [numTo, Nat.pow_succ]
    omega
theorem five_eq (n : Nat) : five n = [n / 4294967296 % 256, n / 16777216 % 256, n / 65536 % 256, n / 256 % 256, n % 256] := by
  simp [five, fiveTo, List.range_succ]
theorem num_five {n : Nat} (h : n < 1099511627776) : numTo (five n) 5 = n := by
  rw [five_eq]
  simp only [numTo, List.getD_cons_zero, List.getD_cons_succ]
  omega
theorem five_num {xs : List Nat} (hx : ∀ x ∈ xs, x < 256) (hl : xs.length = 5) : five (numTo xs 5) = xs := by
  match xs, hl with
  | [a, b, c, d, e], _ =>
    have ha := hx a (by simp)
    have hb := hx b (by simp)
    have hc := hx c (by simp)
    have hd := hx d (by simp)
    have he := hx e (by simp)
    rw [five_eq]
    simp only [numTo, List.getD_cons_zero, List.getD_cons_succ]
    congr 1
    · omega
    congr 1
    · omega
    congr 1
    · omega
    congr 1
    · omega
    congr 1
    omega
/-- The bytes of a packet ahead of the check sum, and all of them. -/
def bodyP (k c n v : Nat) (pay : List Nat) : List Nat := [k, c] ++ five n ++ five v ++ [pay.length] ++ pay
def bytesP (k c n v : Nat) (pay : List Nat) : List Nat := bodyP k c n v pay ++ Crc.le4 (Crc.crc (bodyP k c n v pay))
theorem bodyP_length (k c n v : Nat) (pay : List Nat) : (bodyP k c n v pay).length = 13 + pay.length := by
  simp [bodyP, five_length]; omega
theorem bytesP_length (k c n v : Nat) (pay : List Nat) : (bytesP k c n v pay).length = 17 + pay.length := by
  unfold bytesP
  rw [List.length_append, bodyP_length, Crc.le4_length]; omega
theorem bodyP_lt {k c n v : Nat} {pay : List Nat} (hk : k < 256) (hc : c < 256) (hp : ∀ x ∈ pay, x < 256) (hl : pay.length < 256) : ∀ x ∈ bodyP k c n v pay, x < 256 := by
  intro x hx
  simp only [bodyP, List.mem_append, List.mem_cons, List.not_mem_nil, or_false] at hx
  rcases hx with ((((rfl | rfl) | hx) | hx) | rfl) | hx
  · exact hk
  · exact hc
  · exact five_lt n x hx
  · exact five_lt v x hx
  · exact hl
  · exact hp x hx
end Go.Proofs.YthfoakomapmkeaaDoor
