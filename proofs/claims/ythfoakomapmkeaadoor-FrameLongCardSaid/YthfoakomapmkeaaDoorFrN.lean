/- Encoding and decoding undo each other, as plain mathematics. -/
import Derived.Test.YthfoakomapmkeaaDoorFrF
import Derived.Test.YthfoakomapmkeaaDoorCrcS
namespace Go.Proofs.YthfoakomapmkeaaDoor

theorem body_form (k c n v : Nat) (pay : List Nat) : bodyP k c n v pay = k :: c :: n / 4294967296 % 256 :: n / 16777216 % 256 :: n / 65536 % 256 :: n / 256 % 256 :: n % 256 :: v / 4294967296 % 256 :: v / 16777216 % 256 :: v / 65536 % 256 :: v / 256 % 256 :: v % 256 :: pay.length :: pay := by
  simp [bodyP, five_eq]
theorem bytes_form (k c n v : Nat) (pay : List Nat) : bytesP k c n v pay = k :: c :: n / 4294967296 % 256 :: n / 16777216 % 256 :: n / 65536 % 256 :: n / 256 % 256 :: n % 256 :: v / 4294967296 % 256 :: v / 16777216 % 256 :: v / 65536 % 256 :: v / 256 % 256 :: v % 256 :: pay.length :: (pay ++ Crc.le4 (Crc.crc (bodyP k c n v pay))) := by
  unfold bytesP
  conv => lhs; lhs; rw [body_form]
  rfl
theorem bytes_fields (k c n v : Nat) (pay : List Nat) (hn : n < 1099511627776) (hv : v < 1099511627776) :
    (bytesP k c n v pay).getD 0 0 = k ∧ (bytesP k c n v pay).getD 1 0 = c ∧ (bytesP k c n v pay).getD 12 0 = pay.length ∧ numAt (bytesP k c n v pay) 2 = n ∧ numAt (bytesP k c n v pay) 7 = v ∧ ((bytesP k c n v pay).drop 13).take pay.length = pay := by
  rw [bytes_form]
  refine ⟨rfl, rfl, rfl, ?_, ?_, ?_⟩
  · show numTo [n / 4294967296 % 256, n / 16777216 % 256, n / 65536 % 256, n / 256 % 256, n % 256] 5 = n
    rw [← five_eq, num_five hn]
  · show numTo [v / 4294967296 % 256, v / 16777216 % 256, v / 65536 % 256, v / 256 % 256, v % 256] 5 = v
    rw [← five_eq, num_five hv]
  · show List.take pay.length (pay ++ _) = pay
    rw [List.take_left]
theorem bytes_seal (k c n v : Nat) (pay : List Nat) : (bytesP k c n v pay).drop ((bytesP k c n v pay).length - 4) = Crc.le4 (Crc.crc ((bytesP k c n v pay).take ((bytesP k c n v pay).length - 4))) := by
  have hl : (bytesP k c n v pay).length - 4 = (bodyP k c n v pay).length := by rw [bytesP_length, bodyP_length]; omega
  rw [hl]
  unfold bytesP
  rw [List.drop_left, List.take_left]
theorem dec_bytes (k c n v : Nat) (pay : List Nat) (hok : okP k c n v pay.length = true) : decE (bytesP k c n v pay) = 0 := by
  obtain ⟨_, _, _, _, n1, _, v1, l1⟩ := of_decide_eq_true hok
  obtain ⟨f0, f1, f2, f3, f4, f5⟩ := bytes_fields k c n v pay (by omega) (by omega)
  have hl := bytesP_length (k := k) (c := c) (n := n) (v := v) (pay := pay)
  unfold decE
  rw [f2, f0, f1, f3, f4, if_neg (by omega), if_neg (by omega), if_neg (fun h => h (bytes_seal k c n v pay)), hl, Nat.add_sub_cancel_left, hok]
  rfl
theorem cons_of {xs : List Nat} (h : 0 < xs.length) : ∃ a t, xs = a :: t ∧ t.length + 1 = xs.length := by
  match xs, h with
  | a :: t, _ => exact ⟨a, t, rfl, rfl⟩
theorem body_take {xs : List Nat} (hx : ∀ x ∈ xs, x < 256) (h17 : 17 ≤ xs.length) (h1 : xs.getD 12 0 + 17 = xs.length) : xs.take (xs.length - 4) = bodyP (xs.getD 0 0) (xs.getD 1 0) (numAt xs 2) (numAt xs 7) ((xs.drop 13).take (xs.length - 17)) := by
  have g2 := five_num (xs := (xs.drop 2).take 5) (fun x hx' => hx x (List.mem_of_mem_drop (List.mem_of_mem_take hx'))) (by simp; omega)
  have g7 := five_num (xs := (xs.drop 7).take 5) (fun x hx' => hx x (List.mem_of_mem_drop (List.mem_of_mem_take hx'))) (by simp; omega)
  unfold bodyP numAt
  rw [g2, g7]
  clear g2 g7 hx
  have hl : ((xs.drop 13).take (xs.length - 17)).length = xs.getD 12 0 := by simp only [List.length_take, List.length_drop]; omega
  rw [hl]
  generalize hn : xs.length = n at h17 h1
  obtain ⟨a0, t1, rfl, e1⟩ := cons_of (xs := xs) (by omega)
  obtain ⟨a1, t2, rfl, e2⟩ := cons_of (xs := t1) (by omega)
  obtain ⟨a2, t3, rfl, e3⟩ := cons_of (xs := t2) (by omega)
  obtain ⟨a3, t4, rfl, e4⟩ := cons_of (xs := t3) (by omega)
  obtain ⟨a4, t5, rfl, e5⟩ := cons_of (xs := t4) (by omega)
  obtain ⟨a5, t6, rfl, e6⟩ := cons_of (xs := t5) (by omega)
  obtain ⟨a6, t7, rfl, e7⟩ := cons_of (xs := t6) (by omega)
  obtain ⟨a7, t8, rfl, e8⟩ := cons_of (xs := t7) (by omega)
  obtain ⟨a8, t9, rfl, e9⟩ := cons_of (xs := t8) (by omega)
  obtain ⟨a9, t10, rfl, e10⟩ := cons_of (xs := t9) (by omega)
  obtain ⟨a10, t11, rfl, e11⟩ := cons_of (xs := t10) (by omega)
  obtain ⟨a11, t12, rfl, e12⟩ := cons_of (xs := t11) (by omega)
  obtain ⟨a12, t13, rfl, e13⟩ := cons_of (xs := t12) (by omega)
  obtain ⟨m, rfl⟩ : ∃ m, n = m + 17 := ⟨n - 17, by omega⟩
  rw [show m + 17 - 4 = m + 13 by omega, show m + 17 - 17 = m by omega]
  rfl
/-- What decodes is the bytes of its packet. -/
theorem bytes_dec {xs : List Nat} (hx : ∀ x ∈ xs, x < 256) (h : decE xs = 0) :
    okP (xs.getD 0 0) (xs.getD 1 0 : Nat) (numAt xs 2 : Nat) (numAt xs 7 : Nat) (xs.length - 17) = true ∧ 17 ≤ xs.length ∧ xs = bytesP (xs.getD 0 0) (xs.getD 1 0) (numAt xs 2) (numAt xs 7) ((xs.drop 13).take (xs.length - 17)) := by
  unfold decE at h
  split at h
  · omega
  split at h
  · omega
  split at h
  · omega
  split at h
  · rename_i h17 hf hs hok
    refine ⟨hok, by omega, ?_⟩
    have h1 : xs.getD 12 0 + 17 = xs.length := by omega
    have hs : xs.drop (xs.length - 4) = Crc.le4 (Crc.crc (xs.take (xs.length - 4))) := Classical.byContradiction hs
    have key := body_take hx (by omega) h1
    unfold bytesP
    rw [← key, ← hs, List.take_append_drop]
  · omega
/-- A part of the bytes of a packet. -/
theorem dec_part (k c n v : Nat) (pay : List Nat) (hn : n < 1099511627776) (hv : v < 1099511627776) (j : Nat) (hj : j < 17 + pay.length) : decE ((bytesP k c n v pay).take j) = if j < 17 then 4 else 3 := by
  have hl := bytesP_length (k := k) (c := c) (n := n) (v := v) (pay := pay)
  have ht : ((bytesP k c n v pay).take j).length = j := by simp; omega
  unfold decE
  rw [ht]
  by_cases h : j < 17
  · rw [if_pos h, if_pos h]
  · rw [if_neg h, if_neg h, if_pos]
    right
    rw [show ((bytesP k c n v pay).take j).getD 12 0 = (bytesP k c n v pay).getD 12 0 by simp [List.getD_eq_getElem?_getD, show 12 < j by omega], (bytes_fields k c n v pay hn hv).2.2.1]
    omega
/-- The bytes of a packet, and others behind them. -/
theorem dec_more (k c n v : Nat) (pay more : List Nat) (hn : n < 1099511627776) (hv : v < 1099511627776) (hm : more ≠ []) : decE (bytesP k c n v pay ++ more) = 3 := by
  have hl := bytesP_length (k := k) (c := c) (n := n) (v := v) (pay := pay)
  have h0 : 0 < more.length := List.length_pos_iff.2 hm
  unfold decE
  rw [List.length_append, hl, if_neg (by omega), if_pos]
  right
  rw [show (bytesP k c n v pay ++ more).getD 12 0 = (bytesP k c n v pay).getD 12 0 by
    rw [List.getD_eq_getElem?_getD, List.getD_eq_getElem?_getD, List.getElem?_append_left (by omega)], (bytes_fields k c n v pay hn hv).2.2.1]
  omega
end Go.Proofs.YthfoakomapmkeaaDoor
