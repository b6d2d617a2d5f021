/- Layer 4: the texts FrA FrM FrB FrC FrD FrE FrF FrG FrH FrI in one. -/
import Derived.Test.YthfoakomapmkeaaDoorMrA
import Derived.Test.YthfoakomapmkeaaDoorMrB
import Derived.Laws.BytesArg
import Derived.Deep.RegionHeld3
import Derived.BigRegion
import Derived.Lib.AppendZeros
/- Packets as values; the reference's Valid: its contract. -/
namespace Go.Proofs.YthfoakomapmkeaaDoor
open Go.RowKit

/-- A packet as a value. -/
abbrev pkV (k : Nat) (c n v : Int) (a : Option Addr) (l cap : Nat) : Value := .agg #[nU8 k, .int .i64 c, .int .i64 n, .int .i64 v, .slice a l cap]
/-- Its cells. -/
abbrev pkC (k : Nat) (c n v : Int) (a : Option Addr) (l cap : Nat) : Array Value := #[nU8 k, .int .i64 c, .int .i64 n, .int .i64 v, .slice a l cap]
/-- Is a packet valid? -/
def okP (k : Nat) (c n v : Int) (l : Nat) : Bool := decide (k ≠ 0 ∧ 0 ≤ c ∧ c < 4 ∧ 0 ≤ n ∧ n < 1099511627776 ∧ 0 ≤ v ∧ v < 1099511627776 ∧ l ≤ 64)

set_option maxRecDepth 100000 in
set_option maxHeartbeats 8000000 in
theorem rvalid_any (k : Nat) (c n v : Int) (a : Option Addr) (l cap : Nat) (r : Bool) (hr : okP k c n v l = r) (w : World) :
    Calls Tryd.prog 15 #[pkV k c n v a l cap] w fun e w' => e = .returned (.bool r) ∧ Below w.heap.size w w' := by
  unfold okP at hr
  by_cases h0 : k = 0
  · obtain rfl : r = false := by rw [← hr]; first | exact decide_eq_true (by omega) | exact decide_eq_false (by omega)
    have d0 : ((k : Int) != 0) = false := by simp [h0]
    clear hr h0
    go_enter Tryd.func15, Tryd.ntmps15
    go_wp2_with fail
    go_ret
    exact ⟨rfl, (Below.refl _ _).alloc (Nat.le_refl _) _⟩
  by_cases h1 : ¬ (0 ≤ c)
  · obtain rfl : r = false := by rw [← hr]; first | exact decide_eq_true (by omega) | exact decide_eq_false (by omega)
    have d0 : ((k : Int) != 0) = true := by simp; omega
    have d1 : decide (0 ≤ c) = false := decide_eq_false (by omega)
    clear hr h0 h1
    go_enter Tryd.func15, Tryd.ntmps15
    go_wp2_with fail
    go_ret
    exact ⟨rfl, (Below.refl _ _).alloc (Nat.le_refl _) _⟩
  by_cases h2 : ¬ (c < 4)
  · obtain rfl : r = false := by rw [← hr]; first | exact decide_eq_true (by omega) | exact decide_eq_false (by omega)
    have d0 : ((k : Int) != 0) = true := by simp; omega
    have d1 : decide (0 ≤ c) = true := decide_eq_true (by omega)
    have d2 : decide (c < 4) = false := decide_eq_false (by omega)
    clear hr h0 h1 h2
    go_enter Tryd.func15, Tryd.ntmps15
    go_wp2_with fail
    go_ret
    exact ⟨rfl, (Below.refl _ _).alloc (Nat.le_refl _) _⟩
  by_cases h3 : ¬ (0 ≤ n)
  · obtain rfl : r = false := by rw [← hr]; first | exact decide_eq_true (by omega) | exact decide_eq_false (by omega)
    have d0 : ((k : Int) != 0) = true := by simp; omega
    have d1 : decide (0 ≤ c) = true := decide_eq_true (by omega)
    have d2 : decide (c < 4) = true := decide_eq_true (by omega)
    have d3 : decide (0 ≤ n) = false := decide_eq_false (by omega)
    clear hr h0 h1 h2 h3
    go_enter Tryd.func15, Tryd.ntmps15
    go_wp2_with fail
    go_ret
    exact ⟨rfl, (Below.refl _ _).alloc (Nat.le_refl _) _⟩
  by_cases h4 : ¬ (n < 1099511627776)
  · obtain rfl : r = false := by rw [← hr]; first | exact decide_eq_true (by omega) | exact decide_eq_false (by omega)
    have d0 : ((k : Int) != 0) = true := by simp; omega
    have d1 : decide (0 ≤ c) = true := decide_eq_true (by omega)
    have d2 : decide (c < 4) = true := decide_eq_true (by omega)
    have d3 : decide (0 ≤ n) = true := decide_eq_true (by omega)
    have d4 : decide (n < 1099511627776) = false := decide_eq_false (by omega)
    clear hr h0 h1 h2 h3 h4
    go_enter Tryd.func15, Tryd.ntmps15
    go_wp2_with fail
    go_ret
    exact ⟨rfl, (Below.refl _ _).alloc (Nat.le_refl _) _⟩
  by_cases h5 : ¬ (0 ≤ v)
  · obtain rfl : r = false := by rw [← hr]; first | exact decide_eq_true (by omega) | exact decide_eq_false (by omega)
    have d0 : ((k : Int) != 0) = true := by simp; omega
    have d1 : decide (0 ≤ c) = true := decide_eq_true (by omega)
    have d2 : decide (c < 4) = true := decide_eq_true (by omega)
    have d3 : decide (0 ≤ n) = true := decide_eq_true (by omega)
    have d4 : decide (n < 1099511627776) = true := decide_eq_true (by omega)
    have d5 : decide (0 ≤ v) = false := decide_eq_false (by omega)
    clear hr h0 h1 h2 h3 h4 h5
    go_enter Tryd.func15, Tryd.ntmps15
    go_wp2_with fail
    go_ret
    exact ⟨rfl, (Below.refl _ _).alloc (Nat.le_refl _) _⟩
  by_cases h6 : ¬ (v < 1099511627776)
  · obtain rfl : r = false := by rw [← hr]; first | exact decide_eq_true (by omega) | exact decide_eq_false (by omega)
    have d0 : ((k : Int) != 0) = true := by simp; omega
    have d1 : decide (0 ≤ c) = true := decide_eq_true (by omega)
    have d2 : decide (c < 4) = true := decide_eq_true (by omega)
    have d3 : decide (0 ≤ n) = true := decide_eq_true (by omega)
    have d4 : decide (n < 1099511627776) = true := decide_eq_true (by omega)
    have d5 : decide (0 ≤ v) = true := decide_eq_true (by omega)
    have d6 : decide (v < 1099511627776) = false := decide_eq_false (by omega)
    clear hr h0 h1 h2 h3 h4 h5 h6
    go_enter Tryd.func15, Tryd.ntmps15
    go_wp2_with fail
    go_ret
    exact ⟨rfl, (Below.refl _ _).alloc (Nat.le_refl _) _⟩
  by_cases h7 : ¬ (l ≤ 64)
  · obtain rfl : r = false := by rw [← hr]; first | exact decide_eq_true (by omega) | exact decide_eq_false (by omega)
    have d0 : ((k : Int) != 0) = true := by simp; omega
    have d1 : decide (0 ≤ c) = true := decide_eq_true (by omega)
    have d2 : decide (c < 4) = true := decide_eq_true (by omega)
    have d3 : decide (0 ≤ n) = true := decide_eq_true (by omega)
    have d4 : decide (n < 1099511627776) = true := decide_eq_true (by omega)
    have d5 : decide (0 ≤ v) = true := decide_eq_true (by omega)
    have d6 : decide (v < 1099511627776) = true := decide_eq_true (by omega)
    have d7 : decide ((l : Int) ≤ 64) = false := decide_eq_false (by omega)
    clear hr h0 h1 h2 h3 h4 h5 h6 h7
    go_enter Tryd.func15, Tryd.ntmps15
    go_wp2_with fail
    go_ret
    exact ⟨rfl, (Below.refl _ _).alloc (Nat.le_refl _) _⟩
  obtain rfl : r = true := by rw [← hr]; first | exact decide_eq_true (by omega) | exact decide_eq_false (by omega)
  have d0 : ((k : Int) != 0) = true := by simp; omega
  have d1 : decide (0 ≤ c) = true := decide_eq_true (by omega)
  have d2 : decide (c < 4) = true := decide_eq_true (by omega)
  have d3 : decide (0 ≤ n) = true := decide_eq_true (by omega)
  have d4 : decide (n < 1099511627776) = true := decide_eq_true (by omega)
  have d5 : decide (0 ≤ v) = true := decide_eq_true (by omega)
  have d6 : decide (v < 1099511627776) = true := decide_eq_true (by omega)
  have d7 : decide ((l : Int) ≤ 64) = true := decide_eq_true (by omega)
  clear hr h0 h1 h2 h3 h4 h5 h6 h7
  go_enter Tryd.func15, Tryd.ntmps15
  go_wp2_with fail
  go_ret
  exact ⟨rfl, (Below.refl _ _).alloc (Nat.le_refl _) _⟩
end Go.Proofs.YthfoakomapmkeaaDoor
/- The bytes of packets, as plain mathematics. -/
namespace Go.Proofs.YthfoakomapmkeaaDoor

/-- The upper j of the five bytes of a number. -/
def fiveTo (n j : Nat) : List Nat := (List.range j).map fun i => n / 2 ^ (8 * (4 - i)) % 256
def five (n : Nat) : List Nat := fiveTo n 5
theorem fiveTo_length (n j : Nat) : (fiveTo n j).length = j := by simp [fiveTo]
theorem fiveTo_succ (n j : Nat) : fiveTo n (j + 1) = fiveTo n j ++ [n / 2 ^ (8 * (4 - j)) % 256] := by
  unfold fiveTo; rw [List.range_succ, List.map_append]; rfl
theorem five_length (n : Nat) : (five n).length = 5 := fiveTo_length n 5
theorem five_lt (n : Nat) : ∀ x ∈ five n, x < 256 := by
  intro x hx
  obtain ⟨i, _, rfl⟩ := List.mem_map.1 hx
  exact Nat.mod_lt _ (by decide)
/-- The number in the first j of some bytes. -/
def numTo (xs : List Nat) : Nat → Nat
  | 0 => 0
  | j + 1 => 256 * numTo xs j + xs.getD j 0
theorem numTo_lt {xs : List Nat} (hx : ∀ x ∈ xs, x < 256) : ∀ j ≤ xs.length, numTo xs j < 256 ^ j := by
  intro j
  induction j with
  | zero => intro _; simp [numTo]
  | succ j ih =>
    intro hj
    have h1 := ih (by omega)
    have h2 : xs.getD j 0 < 256 := by rw [List.getD_eq_getElem?_getD, List.getElem?_eq_getElem (by omega)]; exact hx _ (List.getElem_mem _)
    simp only [numTo, Nat.pow_succ]
    omega
theorem five_eq (n : Nat) : five n = [n / 4294967296 % 256, n / 16777216 % 256, n / 65536 % 256, n / 256 % 256, n % 256] := by
  simp [five, fiveTo, List.range_succ]
theorem num_five {n : Nat} (h : n < 1099511627776) : numTo (five n) 5 = n := by
  rw [five_eq]
  simp only [numTo, List.getD_cons_zero, List.getD_cons_succ]
  omega
theorem five_num {xs : List Nat} (hx : ∀ x ∈ xs, x < 256) (hl : xs.length = 5) : five (numTo xs 5) = xs := by
  match xs, hl with
  | [a, b, c, d, e], _ =>
    have ha := hx a (by simp)
    have hb := hx b (by simp)
    have hc := hx c (by simp)
    have hd := hx d (by simp)
    have he := hx e (by simp)
    rw [five_eq]
    simp only [numTo, List.getD_cons_zero, List.getD_cons_succ]
    congr 1
    · omega
    congr 1
    · omega
    congr 1
    · omega
    congr 1
    · omega
    congr 1
    omega
/-- The bytes of a packet ahead of the check sum, and all of them. -/
def bodyP (k c n v : Nat) (pay : List Nat) : List Nat := [k, c] ++ five n ++ five v ++ [pay.length] ++ pay
def bytesP (k c n v : Nat) (pay : List Nat) : List Nat := bodyP k c n v pay ++ Crc.le4 (Crc.crc (bodyP k c n v pay))
theorem bodyP_length (k c n v : Nat) (pay : List Nat) : (bodyP k c n v pay).length = 13 + pay.length := by
  simp [bodyP, five_length]; omega
theorem bytesP_length (k c n v : Nat) (pay : List Nat) : (bytesP k c n v pay).length = 17 + pay.length := by
  unfold bytesP
  rw [List.length_append, bodyP_length, Crc.le4_length]; omega
theorem bodyP_lt {k c n v : Nat} {pay : List Nat} (hk : k < 256) (hc : c < 256) (hp : ∀ x ∈ pay, x < 256) (hl : pay.length < 256) : ∀ x ∈ bodyP k c n v pay, x < 256 := by
  intro x hx
  simp only [bodyP, List.mem_append, List.mem_cons, List.not_mem_nil, or_false] at hx
  rcases hx with ((((rfl | rfl) | hx) | hx) | rfl) | hx
  · exact hk
  · exact hc
  · exact five_lt n x hx
  · exact five_lt v x hx
  · exact hl
  · exact hp x hx
end Go.Proofs.YthfoakomapmkeaaDoor
/- The reference's five and number: their contracts. -/
namespace Go.Proofs.YthfoakomapmkeaaDoor
open Go.RowKit

set_option maxHeartbeats 8000000 in
theorem five_any (n : Nat) (w : World) :
    Calls Tryd.prog 40 #[.int .i64 n] w fun e w' => ∃ v, e = .returned v ∧ Own w.heap.size w' v 5 (five n) ∧ Below w.heap.size w w' := by
  go_enter Tryd.func40, Tryd.ntmps40
  go_wp2_with fail
  go_loopw [3, 4] (fun t3 t4 wr => ∃ r : Nat, r ≤ 5 ∧ t4 = .int .i64 ((r : Int) - 1) ∧ Box (Own w.heap.size wr t3 (5 - r) (fiveTo n (5 - r))) ∧ Below w.heap.size w wr) (fun _ t4 _ => (intOf t4 + 1).toNat)
  case atStart => exact ⟨5, by omega, rfl, box (World.ownsRow_nil _ _ _ _), Below.refl _ _⟩
  case round =>
    obtain ⟨r, hr, rfl, hown, kb⟩ := hrel
    cases r with
    | zero =>
      have e : ((0 : Nat) : Int) - 1 = -1 := rfl
      rw [e]
      go_wp2_with fail
      go_ret
      exact ⟨_, rfl, hown.out, kb⟩
    | succ s =>
      have e : ((s + 1 : Nat) : Int) - 1 = (s : Int) := by omega
      rw [e]
      clear e
      have HE := box (show fiveTo n (5 - s) = fiveTo n (5 - (s + 1)) ++ [n / 2 ^ (8 * s) % 256] by
        rw [show 5 - s = 5 - (s + 1) + 1 by omega, fiveTo_succ, show 4 - (5 - (s + 1)) = s by omega])
      obtain ⟨y, hy⟩ : ∃ y, n / 2 ^ (8 * s) = y := ⟨_, rfl⟩
      have ey : (n : Int) / 2 ^ (8 * s) = (y : Int) := by rw [← hy]; push_cast; rfl
      have e8 : (8 * (s : Int)).toNat = 8 * s := by omega
      rw [hy] at HE
      clear hy
      have e2 : (y : Int) % 256 = ((y % 256 : Nat) : Int) := by omega
      generalize y % 256 = z at e2 HE
      go_wp2_with (at_builtin; refine wpList_append_new (o := ⟨some 16, _, _, _, _, _⟩) rfl (.tmp 9) (.tmp 15) rfl w.heap.size _ _ _ rfl hown.out [z] 1 rfl (0, 0) rfl (by omega) w kb kb.size ?_; intro v3 w3 ho3 hb3 hs3)
      go_roundw
      case rel => exact ⟨s, by omega, by go_num, box (by rw [HE.out]; have h := ho3.out; rwa [show 5 - s = 5 - (s + 1) + 1 by omega]), hb3⟩
      case measure => simp [intOf]

set_option maxHeartbeats 4000000 in
theorem number_any (b : Addr) (m c : Nat) (xs : List Nat) (hm : xs.length = m) (h5 : 5 ≤ m) (hx : ∀ x ∈ xs, x < 256) (w : World) (hc : At w b xs) :
    Calls Tryd.prog 45 #[.slice (some b) m c] w fun e w' => e = .returned (.int .i64 (numTo xs 5 : Nat)) ∧ w = w' := by
  have HX := box hx
  have HC := box hc
  obtain ⟨r, hr⟩ : ∃ r, numTo xs 5 = r := ⟨_, rfl⟩
  have HR := box hr
  rw [hr]
  clear hx hc hr
  go_enter Tryd.func45, Tryd.ntmps45
  go_wp2_with fail
  go_loop [3, 4] (fun t3 t4 => ∃ j q : Nat, j ≤ 5 ∧ t4 = .int .i64 j ∧ t3 = .int .i64 q ∧ q < 1099511627776 ∧ Box (numTo xs j = q)) (fun _ t4 => 5 - (intOf t4).toNat)
  case atStart => exact ⟨0, 0, by omega, rfl, rfl, by omega, box rfl⟩
  case round =>
    obtain ⟨j, q, hj, rfl, rfl, hq, hnum⟩ := hrel
    by_cases hlt : j < 5
    · have c1 := HC.out j (by omega)
      have HN := box (show numTo xs (j + 1) = 256 * q + xs.getD j 0 by simp only [numTo]; rw [hnum.out])
      have lx : xs.getD j 0 < 256 := by rw [List.getD_eq_getElem?_getD, List.getElem?_eq_getElem (by omega)]; exact HX.out _ (List.getElem_mem _)
      have lq : numTo xs (j + 1) < 1099511627776 := by
        have h1 := numTo_lt HX.out (j + 1) (by omega)
        have h2 : 256 ^ (j + 1) ≤ 256 ^ 5 := Nat.pow_le_pow_right (by decide) (by omega)
        have h3 : (256 : Nat) ^ 5 = 1099511627776 := by decide
        omega
      have hz : (j : Int) < (m : Int) := by omega
      generalize xs.getD j 0 = x at c1 HN lx
      go_wp2_with fail
      go_round
      case rel => exact ⟨j + 1, 256 * q + x, by omega, by go_num, by go_num, by rw [← HN.out]; exact lq, HN⟩
      case measure => simp [intOf]; omega
    · obtain rfl : j = 5 := by omega
      have HV := box (show r = q from HR.out.symm.trans hnum.out)
      go_wp2_with fail
      go_ret
      exact ⟨by rw [HV.out]; rfl, rfl⟩
end Go.Proofs.YthfoakomapmkeaaDoor
/- The reference's Encode and Symbols: their contracts. -/
namespace Go.Proofs.YthfoakomapmkeaaDoor
open Go.RowKit

theorem own_lit (w : World) (B n : Nat) (xs : List Nat) (hn : xs.length = n) (hB : B ≤ w.heap.size) (hb : n ≤ 10000) (g : Nat) (hg : g = w.heap.size) : Own B (w.alloc (.cells (xs.map nU8).toArray 5)) (.slice (some ⟨g, 0, none⟩) n n) n xs := by
  subst hg
  refine ⟨by simp [hn], .inr ⟨w.heap.size, n, (xs.map nU8).toArray, rfl, hB, heap_alloc_new w _, Nat.le_refl _, by unfold maxLen; omega, by simp [hn], ?_⟩⟩
  rw [← hn, Nat.mul_one, List.take_of_length_le (by simp)]

theorem le4_take (s j : Nat) (hj : j < 4) : (Crc.le4 s).take (j + 1) = (Crc.le4 s).take j ++ [s / 2 ^ (8 * j) % 256] := by
  rcases (by omega : j = 0 ∨ j = 1 ∨ j = 2 ∨ j = 3) with rfl | rfl | rfl | rfl <;> simp [Crc.le4]

set_option maxRecDepth 100000 in
set_option maxHeartbeats 8000000 in
theorem rencode_pk (k c n v : Nat) (a : Option Addr) (l cap : Nat) (pay : List Nat) (hl : pay.length = l) (hk : k < 256) (hc4 : c < 4) (hl64 : l ≤ 64) (hp : ∀ x ∈ pay, x < 256) (hnil : a = none → cap = 0) (w : World) (hin : In w a pay) :
    Calls Tryd.prog 20 #[pkV k c n v a l cap] w fun e w' => ∃ u, e = .returned u ∧ Own w.heap.size w' u (17 + l) (bytesP k c n v pay) ∧ Below w.heap.size w w' := by
  have HP := box hp
  have HI := box hin
  have HNIL := box hnil
  clear hp hin hnil
  obtain ⟨i0, hi, hz0, hz1, hz2⟩ := info_parts Tryd.infoU8
  have c256 : (c : Int) % 256 = (c : Int) := by omega
  have l256 : (l : Int) % 256 = (l : Int) := by omega
  go_enter Tryd.func20, Tryd.ntmps20
  go_wp2_with fail
  have f2 := World.cell?_alloc_mark w (pkC k c n v a l cap) 24 (0, 0) 2
  have f3 := World.cell?_alloc_mark w (pkC k c n v a l cap) 24 (0, 0) 3
  have f4 := World.cell?_alloc_mark w (pkC k c n v a l cap) 24 (0, 0) 4
  have kw : Below w.heap.size w (w.alloc (.cells (pkC k c n v a l cap) 24)) := (Below.refl _ _).alloc (Nat.le_refl _) _
  have ks : (w.alloc (.cells (pkC k c n v a l cap) 24)).heap.size = w.heap.size + 1 := by show (w.heap.push _).size = _; rw [Array.size_push]
  generalize w.alloc (.cells (pkC k c n v a l cap) 24) = w1 at f2 f3 f4 kw ks ⊢
  have KS := box ks
  have HO2 := box (own_lit w1 w1.heap.size 2 [k, c] rfl (Nat.le_refl _) (by omega) (w.heap.size + 1) ks.symm)
  have kb2 : Below w1.heap.size w1 (w1.alloc (.cells ([k, c].map nU8).toArray 5)) := (Below.refl _ _).alloc (Nat.le_refl _) _
  refine (five_any n _).mono ?_
  rintro e w3 ⟨u, rfl, hown, hb⟩
  obtain ⟨fa, fc, rfl, hin, hnil, _⟩ := own_form (five_length n) hown
  have HF3 := box hin
  have HN3 := box hnil
  have HO3 := box (own_later HO2.out hb)
  have kb3 := kb2.trans (hb.mono kb2.size)
  have g3 := keepc kb3 f3
  clear hown hin hnil hb HO2 kb2 ks
  go_wp2_with (first | (at_builtin; refine wpList_append_in (o := ⟨some 16, _, _, _, _, _⟩) rfl (.tmp 12) (.tmp 15) rfl w1.heap.size i0 hi hz0 hz1 hz2 (.slice (some ⟨w.heap.size + 1, 0, none⟩) 2 2) 2 ([k, c].map nU8) rfl HO3.out fa 5 fc (five n) rfl (five_length n) HF3.out HN3.out (by omega) w1.heap.size w1 (Nat.le_refl _) kb3 kb3.size ?_; intro v4 w4 ho4 hb4 hs4; have g4 := keepc hb4 f3) | fail)
  refine (five_any v _).mono ?_
  rintro e w5 ⟨u, rfl, hown, hb⟩
  obtain ⟨ga, gc, rfl, hin, hnil, _⟩ := own_form (five_length v) hown
  have HF5 := box hin
  have HN5 := box hnil
  have HO5 := box (own_later (xs := [k, c] ++ five n) (n := 2 + 5) (v := v4) (B := w1.heap.size) (by have h := ho4.out; rw [← List.map_append] at h; exact h) hb)
  have kb5 := hb4.trans (hb.mono hs4)
  have g5 := keepc kb5 f4
  clear hown hin hnil hb ho4 hb4 hs4 g4 g3 HF3 HN3 HO3
  go_wp2_with (first | (at_builtin; refine wpList_append_in (o := ⟨some 21, _, _, _, _, _⟩) rfl (.tmp 17) (.tmp 20) rfl w1.heap.size i0 hi hz0 hz1 hz2 v4 (2 + 5) (([k, c] ++ five n).map nU8) rfl HO5.out ga 5 gc (five v) rfl (five_length v) HF5.out HN5.out (by omega) w1.heap.size w1 (Nat.le_refl _) kb5 kb5.size ?_; intro v6 w6 ho6 hb6 hs6; have g6 := keepc hb6 f4; have HO6 := box (show Own w1.heap.size w6 v6 (2 + 5 + 5) ([k, c] ++ five n ++ five v) from by have h := ho6.out; rw [← List.map_append] at h; exact h)) | (at_builtin; refine wpList_append_new (o := ⟨some 28, _, _, _, _, _⟩) rfl (.tmp 22) (.tmp 27) rfl w1.heap.size v6 (2 + 5 + 5) ([k, c] ++ five n ++ five v) rfl HO6.out [l] 1 rfl (0, 0) rfl (by omega) w1 hb6 hs6 ?_; intro v7 w7 ho7 hb7 hs7; have g7 := keepc hb7 f4) | (at_builtin; refine wpList_append_in (o := ⟨some 32, _, _, _, _, _⟩) rfl (.tmp 29) (.tmp 31) rfl w1.heap.size i0 hi hz0 hz1 hz2 v7 (2 + 5 + 5 + 1) (([k, c] ++ five n ++ five v ++ [l]).map nU8) rfl ho7.out a l cap pay rfl hl (HI.out.below (kw.trans (hb7.mono kw.size))) HNIL.out (by omega) w1.heap.size w1 (Nat.le_refl _) hb7 hs7 ?_; intro v8 w8 ho8 hb8 hs8; obtain ⟨a8, c8, rfl, hi8, hn8, hc8⟩ := own_form (n := 13 + l) (xs := bodyP k c n v pay) (by rw [bodyP_length, hl]) (by have h := ho8.out; rw [← List.map_append] at h; rw [show 13 + l = 2 + 5 + 5 + 1 + l by omega]; unfold bodyP; rw [hl]; exact h); have HI8 := box hi8; have HO8 := box (show Own w1.heap.size w8 (.slice a8 (13 + l) c8) (13 + l) (bodyP k c n v pay) from by have h := ho8.out; rw [← List.map_append] at h; rw [show 13 + l = 2 + 5 + 5 + 1 + l by omega]; unfold bodyP; rw [hl]; exact h); clear ho6 ho7 ho8 hi8 hn8) | fail)
  have hbl : (bodyP k c n v pay).length = 13 + l := by rw [bodyP_length, hl]
  have hblt := bodyP_lt (k := k) (c := c) (n := n) (v := v) (pay := pay) hk (by omega) HP.out (by omega)
  have SU := box (Crc.rsum_any a8 (13 + l) c8 (bodyP k c n v pay) hbl hblt (by omega) w8 HI8.out)
  have HBY := box (show bytesP k c n v pay = bodyP k c n v pay ++ Crc.le4 (Crc.crc (bodyP k c n v pay)) from rfl)
  have hs : Crc.crc (bodyP k c n v pay) < 2 ^ 32 := Crc.crc_lt hblt
  generalize Crc.crc (bodyP k c n v pay) = s at SU HBY hs
  generalize bodyP k c n v pay = bs at HO8 HBY hbl
  clear HI8 HO5 HF5 HN5 g5 f2 f3 hblt
  refine SU.out.mono ?_
  rintro e w9 ⟨rfl, hw9⟩
  have hw9' := hw9.symm
  subst hw9'
  go_wp2_with fail
  go_loopw [3, 5] (fun t3 t5 wr => ∃ j : Nat, j ≤ 4 ∧ t5 = .int .i64 j ∧ Box (Own w1.heap.size wr t3 (13 + l + j) (bs ++ (Crc.le4 s).take j)) ∧ Below w1.heap.size w1 wr) (fun _ t5 _ => 4 - (intOf t5).toNat)
  case atStart => exact ⟨0, by omega, rfl, box (by simpa using HO8.out), hb8⟩
  case round =>
    obtain ⟨j, hj, rfl, hown, kb⟩ := hrel
    by_cases hlt : j < 4
    · have HE := box (le4_take s j hlt)
      obtain ⟨y, hy⟩ : ∃ y, s / 2 ^ (8 * j) = y := ⟨_, rfl⟩
      have ey : (s : Int) / 2 ^ (8 * j) = (y : Int) := by rw [← hy]; push_cast; rfl
      have e8 : (8 * (j : Int)).toNat = 8 * j := by omega
      rw [hy] at HE
      clear hy
      have e2 : (y : Int) % 256 = ((y % 256 : Nat) : Int) := by omega
      generalize y % 256 = z at e2 HE
      go_wp2_with (at_builtin; refine wpList_append_new (o := ⟨some 46, _, _, _, _, _⟩) rfl (.tmp 39) (.tmp 45) rfl w1.heap.size _ _ _ rfl hown.out [z] 1 rfl (0, 0) rfl (by omega) w1 kb kb.size ?_; intro v3 w3 ho3 hb3 hs3)
      go_roundw
      case rel => exact ⟨j + 1, by omega, by go_num, box (by rw [HE.out, ← List.append_assoc]; exact ho3.out), hb3⟩
      case measure => simp [intOf]; omega
    · obtain rfl : j = 4 := by omega
      go_wp2_with fail
      go_ret
      exact ⟨_, rfl, own_mono (by rw [HBY.out]; have h := hown.out; rw [show (Crc.le4 s).take 4 = Crc.le4 s from rfl] at h; rwa [show 17 + l = 13 + l + 4 by omega]) kw.size, kw.trans (kb.mono kw.size)⟩
end Go.Proofs.YthfoakomapmkeaaDoor
/- The reference's Symbols: its contract. -/
namespace Go.Proofs.YthfoakomapmkeaaDoor
open Go.RowKit

/-- The symbols of a packet. -/
def symsP (k c n v : Nat) (pay : List Nat) : List Nat := [49] ++ enc (bytesP k c n v pay) ++ [50]
theorem bytesP_lt {k c n v : Nat} {pay : List Nat} (hk : k < 256) (hc : c < 256) (hp : ∀ x ∈ pay, x < 256) (hl : pay.length < 256) : ∀ x ∈ bytesP k c n v pay, x < 256 := by
  intro x hx
  rcases List.mem_append.1 hx with h | h
  · exact bodyP_lt hk hc hp hl x h
  · exact Crc.le4_lt _ x h
theorem symsP_length (k c n v : Nat) (pay : List Nat) : (symsP k c n v pay).length = 36 + 2 * pay.length := by
  simp [symsP, enc_length, bytesP_length]; omega

set_option maxRecDepth 100000 in
set_option maxHeartbeats 8000000 in
theorem rsymbols_pk (k c n v : Nat) (a : Option Addr) (l cap : Nat) (pay : List Nat) (hl : pay.length = l) (hk : k < 256) (hc4 : c < 4) (hl64 : l ≤ 64) (hp : ∀ x ∈ pay, x < 256) (hnil : a = none → cap = 0) (w : World) (hin : In w a pay) :
    Calls Tryd.prog 21 #[pkV k c n v a l cap] w fun e w' => ∃ u, e = .returned u ∧ Own w.heap.size w' u (36 + 2 * l) (symsP k c n v pay) ∧ Below w.heap.size w w' := by
  have HP := box hp
  have HI := box hin
  have HNIL := box hnil
  clear hp hin hnil
  obtain ⟨i0, hi, hz0, hz1, hz2⟩ := info_parts Tryd.infoU8
  have hbl : (bytesP k c n v pay).length = 17 + l := by rw [bytesP_length, hl]
  have HBL := box (bytesP_lt (n := n) (v := v) (pay := pay) hk (show c < 256 by omega) HP.out (by omega))
  have hel : (enc (bytesP k c n v pay)).length = 2 * (17 + l) := by rw [enc_length, hbl]
  go_enter Tryd.func21, Tryd.ntmps21
  go_wp2_with fail
  have kw : Below w.heap.size w (w.alloc (.cells (pkC k c n v a l cap) 24)) := (Below.refl _ _).alloc (Nat.le_refl _) _
  have ks : (w.alloc (.cells (pkC k c n v a l cap) 24)).heap.size = w.heap.size + 1 := by show (w.heap.push _).size = _; rw [Array.size_push]
  generalize w.alloc (.cells (pkC k c n v a l cap) 24) = w1 at kw ks ⊢
  have HO2 := box (own_lit w1 w1.heap.size 1 [49] rfl (Nat.le_refl _) (by omega) (w.heap.size + 1) ks.symm)
  have kb2 : Below w1.heap.size w1 (w1.alloc (.cells ([49].map nU8).toArray 5)) := (Below.refl _ _).alloc (Nat.le_refl _) _
  refine (rencode_pk k c n v a l cap pay hl hk hc4 hl64 HP.out HNIL.out _ (HI.out.below (kw.trans (kb2.mono kw.size)))).mono ?_
  rintro e w3 ⟨u, rfl, hown, hb⟩
  obtain ⟨fa, fc, rfl, hin, _, _⟩ := own_form hbl hown
  have HO3 := box (own_later HO2.out hb)
  have kb3 := kb2.trans (hb.mono kb2.size)
  have HB3 := box hin
  clear hown hin hb HO2 kb2 ks
  go_wp2_with fail
  refine (rencode_any fa (17 + l) fc (bytesP k c n v pay) hbl HBL.out (by omega) _ HB3.out).mono ?_
  rintro e w4 ⟨u, rfl, hown, hb⟩
  obtain ⟨ga, gc, rfl, hin, hnil, _⟩ := own_form hel hown
  have HO4 := box (own_later HO3.out hb)
  have kb4 := kb3.trans (hb.mono kb3.size)
  have HE4 := box hin
  have HN4 := box hnil
  clear hown hin hnil hb HO3 kb3 HB3
  go_wp2_with (first | (at_builtin; refine wpList_append_in (o := ⟨some 9, _, _, _, _, _⟩) rfl (.tmp 5) (.tmp 8) rfl w1.heap.size i0 hi hz0 hz1 hz2 (.slice (some ⟨w.heap.size + 1, 0, none⟩) 1 1) 1 ([49].map nU8) rfl HO4.out ga (2 * (17 + l)) gc (enc (bytesP k c n v pay)) rfl hel HE4.out HN4.out (by omega) w1.heap.size w1 (Nat.le_refl _) kb4 kb4.size ?_; intro v5 w5 ho5 hb5 hs5; have HO5 := box (show Own w1.heap.size w5 v5 (1 + 2 * (17 + l)) ([49] ++ enc (bytesP k c n v pay)) from by have h := ho5.out; rw [← List.map_append] at h; exact h)) | (at_builtin; refine wpList_append_new (o := ⟨some 12, _, _, _, _, _⟩) rfl (.tmp 10) (.tmp 11) rfl w1.heap.size v5 (1 + 2 * (17 + l)) ([49] ++ enc (bytesP k c n v pay)) rfl HO5.out [50] 1 rfl (0, 0) rfl (by omega) w1 hb5 hs5 ?_; intro v6 w6 ho6 hb6 hs6) | fail)
  go_ret
  exact ⟨_, rfl, own_mono (by have h := ho6.out; rwa [show 36 + 2 * l = 1 + 2 * (17 + l) + 1 by omega]) kw.size, kw.trans (hb6.mono kw.size)⟩
end Go.Proofs.YthfoakomapmkeaaDoor
/- Equal packets: the contract of the reference's Same. -/
namespace Go.Proofs.YthfoakomapmkeaaDoor
open Go.RowKit

/-- The string of some bytes. -/
def strOf (xs : List Nat) : ByteArray := strOfNums (xs.map fun x : Nat => (x : Int))
theorem conv_any {w : World} {a : Option Addr} {n c : Nat} {xs : List Nat} (hn : xs.length = n) (h : In w a xs) :
    (convert 22 9 (.slice a n c)).run Tryd.prog w = .ok (.string (strOf xs)) w := by
  by_cases h0 : n = 0
  · subst h0
    obtain rfl := List.length_eq_zero_iff.1 hn
    rw [run_convert_bytes_string w 22 9 _ a 0 c Tryd.underlying22 Tryd.underlying5 Tryd.underlying9]
    cases a <;> simp [Conv.bytesToString, loadCells] <;> rfl
  · rcases h with rfl | ⟨⟨b, off, spot⟩, rfl, hat⟩
    · exact absurd hn.symm h0
    have hspot : spot = none := by simpa [Addr.add] using World.cell?_spot (hat 0 (by omega))
    subst hspot
    have hplain : ∀ j, (⟨b, off, none⟩ : Addr).add j = ⟨b, off + j, none⟩ := fun j => by unfold Addr.add; split <;> simp_all
    refine run_convert_bytes_arg w 22 5 Tryd.underlying22 Tryd.underlying5 b off n c _ (by simpa using hn) (fun i hi => ?_) 9 Tryd.underlying9
    have := hat i (by omega)
    rw [hplain] at this
    rw [this]
    simp [List.getD_eq_getElem?_getD, List.getElem?_eq_getElem (show i < xs.length by omega)]

set_option maxRecDepth 100000 in
set_option maxHeartbeats 8000000 in
theorem psame_any (k : Nat) (c n v : Int) (a b : Option Addr) (l ca cb : Nat) (pay : List Nat) (hl : pay.length = l) (w : World) (ha : In w a pay) (hb : In w b pay) :
    Calls Tryd.prog 24 #[pkV k c n v a l ca, pkV k c n v b l cb] w fun e w' => e = .returned (.bool true) ∧ Below w.heap.size w w' := by
  have kb : Below w.heap.size w ((w.alloc (.cells (pkC k c n v a l ca) 24)).alloc (.cells (pkC k c n v b l cb) 24)) := ((Below.refl _ _).alloc (Nat.le_refl _) _).alloc (size_alloc _ _ (Nat.le_refl _)) _
  have c1 := conv_any (c := ca) hl (ha.below kb)
  have c2 := conv_any (c := cb) hl (hb.below kb)
  clear ha hb
  have b1 : ((k : Int) == (k : Int)) = true := by simp
  have b2 : (c == c) = true := by simp
  have b3 : (n == n) = true := by simp
  have b4 : (v == v) = true := by simp
  go_enter Tryd.func24, Tryd.ntmps24
  go_wp2_with fail
  go_ret
  exact ⟨by simp, kb⟩
end Go.Proofs.YthfoakomapmkeaaDoor
/- The reference's Decode: its contract. -/
namespace Go.Proofs.YthfoakomapmkeaaDoor
open Go.RowKit

/-- An append of bytes that lie in memory, as a step of a region that draws. -/
theorem step_append_at {ops : Array Oper} {o : Oper} {a : Act} {w : World} {K : Act → World → Prop} {Q : Exit → Act → World → Prop} {E : Prop} (hg : o.guard = none) (s x : Operand)
    (hop : o.op = .call { callee := .builtin .append, args := #[s, x], argTypes := #[22, 22] })
    (base : Nat) (v : Value) (n : Nat) (xs : List Nat) (hs : a.eval s = v) (hown : Own base w v n xs) (ad : Addr) (m c : Nat) (news : List Nat) (hl : news.length = m)
    (hx : a.eval x = .slice (some ad) m c) (hat : At w ad news) (h63 : n + m ≤ 10000) (w0 : World) (hb : Below base w0 w) (hbase : base ≤ w.heap.size)
    (hK : ∀ v' w', Box (Own base w' v' (n + m) (xs ++ news)) → Below base w0 w' → base ≤ w'.heap.size → w.grownBy w' v.ownBlock → K (a.put o.dst v') w') :
    if Region.wanted o (yielded ops a.tmps) = true then Oper.wp Tryd.prog o a w K Q else E := by
  have hw : Region.wanted o (yielded ops a.tmps) = true := by simp [Region.wanted, hg]
  rw [if_pos hw]
  obtain ⟨i0, hi, hz0, hz1, hz2⟩ := info_parts Tryd.infoU8
  obtain ⟨v', w', hrun, r1, r2, _⟩ := run_append_own (P := Tryd.prog) w base 22 o.type 5 i0 (.int .u8 0) 1 1 Tryd.underlying22 hi hz0 hz1 hz2 rfl (by decide) v n (xs.map nU8) hown ad m c (news.map nU8) (by simp [hl]) (fun j u hj => by
    simp at hj
    obtain ⟨y, hy, rfl⟩ := hj
    have hjl : j < news.length := (List.getElem?_eq_some_iff.1 hy).1
    rw [hat j hjl]
    simp [List.getD_eq_getElem?_getD, hy]) (nU8_one _) (by unfold maxLen; omega) (by omega) hbase
  unfold Oper.wp
  simp [execOp, hop, resolve, invoke, builtin, hs, hx, hrun, Result.andThen]
  rw [← List.map_append] at r1
  exact hK v' w' (box r1) (own_below hown (Nat.le_refl _) hb hbase r2) (Nat.le_trans hbase r2.size) r2

abbrev pk0 : Value := pkV 0 0 0 0 none 0 0
/-- The number in the bytes from i on. -/
def numAt (xs : List Nat) (i : Nat) : Nat := numTo ((xs.drop i).take 5) 5
theorem add_pos (b : Addr) (i : Nat) (hi : 0 < i) : b.add i = ⟨b.block, b.off + i, none⟩ := by
  unfold Addr.add
  rw [if_neg (by omega)]
theorem at_pos {w : World} {b : Addr} {xs : List Nat} (h : At w b xs) (i : Nat) (hi : 0 < i) (hl : i < xs.length) : w.cell? ⟨b.block, b.off + i, none⟩ = some (nU8 (xs.getD i 0)) := by
  rw [← add_pos b i hi]; exact h i hl
theorem at_zero {w : World} {b : Addr} {xs : List Nat} (h : At w b xs) (hl : 0 < xs.length) : w.cell? b = some (nU8 (xs.getD 0 0)) := by
  have := h 0 hl
  rwa [show b.add 0 = b from by unfold Addr.add; simp] at this
/-- The form of an own slice, and where it lies. -/
theorem own_form2 {B n : Nat} {w : World} {v : Value} {xs : List Nat} (hn : xs.length = n) (h : Own B w v n xs) : ∃ (a : Option Addr) (c : Nat), v = .slice a n c ∧ In w a xs ∧ (a = none → c = 0) ∧ n ≤ c ∧ ∀ g, a = some g → B ≤ g.block := by
  have hc := h
  obtain ⟨_, hcase⟩ := h
  rcases hcase with ⟨rfl, h0⟩ | ⟨g, cap, cur, rfl, hg, hh, hnc, hcap, hsz, htake⟩
  · subst h0
    exact ⟨none, 0, rfl, .inl (List.length_eq_zero_iff.1 hn), fun _ => rfl, Nat.le_refl _, fun g h => by cases h⟩
  · exact ⟨some ⟨g, 0, none⟩, cap, rfl, own_in hn hc, (fun h => by cases h), hnc, fun g' h => by cases h; exact hg⟩
theorem grow_blk {w w' : World} {g z : Nat} {v : Value} {o : Obj} (h : w.grownBy w' v.ownBlock) (hv : v.ownBlock = some g) (hz : w.heap[z]? = some o) (hne : z ≠ g) : w'.heap[z]? = some o := by
  rw [h.block z (Array.getElem?_eq_some_iff.1 hz).1 (by rw [hv]; intro e; exact hne (Option.some.inj e))]
  exact hz
theorem blk_cell {w : World} {z : Nat} {cs : Array Value} {t : TypeId} (h : w.heap[z]? = some (.cells cs t (0, 0))) (j : Nat) : w.cell? ⟨z, j, none⟩ = cs[j]? := by
  simp [World.cell?, h]
theorem blk_free {w : World} {z : Nat} {cs : Array Value} {t : TypeId} (h : w.heap[z]? = some (.cells cs t (0, 0))) (j : Nat) : w.frozen? ⟨z, j, none⟩ = false := by
  simp [World.frozen?, h]
theorem at_drop {w : World} {b : Addr} {xs : List Nat} (h : At w b xs) (i m : Nat) (hi : 0 < i) : At w ⟨b.block, b.off + i, none⟩ ((xs.drop i).take m) := by
  intro j hj
  simp at hj
  have e : (⟨b.block, b.off + i, none⟩ : Addr).add j = b.add (i + j) := by
    rw [add_pos b (i + j) (by omega)]
    unfold Addr.add
    split
    · rename_i h0; subst h0; simp
    · simp [Nat.add_assoc]
  rw [e, h (i + j) (by omega)]
  have hjm : j < m := by omega
  simp [List.getD_eq_getElem?_getD, hjm]
theorem At.below {w w' : World} {b : Addr} {xs : List Nat} (h : At w b xs) (hb : Below w.heap.size w w') : At w' b xs := fun i hi => keepc hb (h i hi)
/-- What decoding answers, as an error. -/
def decE (xs : List Nat) : Nat :=
  if xs.length < 17 then 4
  else if 64 < xs.getD 12 0 ∨ xs.getD 12 0 + 17 ≠ xs.length then 3
  else if xs.drop (xs.length - 4) ≠ Crc.le4 (Crc.crc (xs.take (xs.length - 4))) then 9
  else if okP (xs.getD 0 0) (xs.getD 1 0) (numAt xs 2) (numAt xs 7) (xs.length - 17) then 0 else 1
/-- What the reference's Decode answers. -/
def RDec (xs : List Nat) (w : World) (e : Ending) (w' : World) : Prop :=
  Below w.heap.size w w' ∧
  ((decE xs ≠ 0 ∧ e = .returned (.tuple #[pk0, .int .i64 (decE xs : Nat)])) ∨
   (decE xs = 0 ∧ ∃ (a : Option Addr) (c : Nat), e = .returned (.tuple #[pkV (xs.getD 0 0) (xs.getD 1 0 : Nat) (numAt xs 2 : Nat) (numAt xs 7 : Nat) a (xs.length - 17) c, .int .i64 0]) ∧ In w' a ((xs.drop 13).take (xs.length - 17)) ∧ (a = none → c = 0) ∧ xs.length - 17 ≤ c ∧ (∀ g, a = some g → w.heap.size ≤ g.block)))

set_option maxRecDepth 100000 in
set_option maxHeartbeats 8000000 in
theorem rdec_short (a : Option Addr) (n c : Nat) (xs : List Nat) (hn : xs.length = n) (h17 : n < 17) (w : World) :
    Calls Tryd.prog 23 #[.slice a n c] w (RDec xs w) := by
  have he : decE xs = 4 := by unfold decE; rw [if_pos (by omega)]
  have d1 : decide ((n : Int) < 17) = true := decide_eq_true (by omega)
  have kb : Below w.heap.size w (w.alloc (.cells (pkC 0 0 0 0 none 0 0) 24)) := (Below.refl _ _).alloc (Nat.le_refl _) _
  have HF := fun w' (h : Below w.heap.size w w') => box (show RDec xs w (.returned (.tuple #[pk0, .int .i64 4])) w' from ⟨h, .inl ⟨by omega, by rw [he]; rfl⟩⟩)
  clear he
  go_enter Tryd.func23, Tryd.ntmps23
  go_wp2_with fail
  refine bodyPost_ret (v := .tuple #[pk0, .int .i64 4]) (by simp [results, Tryd.results23, go_sem]) rfl (HF _ ?_).out
  exact kb

set_option maxRecDepth 100000 in
set_option maxHeartbeats 8000000 in
theorem rdec_form (b : Addr) (n c : Nat) (xs : List Nat) (hn : xs.length = n) (hx : ∀ x ∈ xs, x < 256) (h17 : ¬ n < 17) (hf : 64 < xs.getD 12 0 ∨ xs.getD 12 0 + 17 ≠ n) (w : World) (hc : At w b xs) :
    Calls Tryd.prog 23 #[.slice (some b) n c] w (RDec xs w) := by
  have he : decE xs = 3 := by unfold decE; rw [if_neg (by omega), if_pos (by rw [hn]; exact hf)]
  have d1 : decide ((n : Int) < 17) = false := decide_eq_false (by omega)
  have kb : Below w.heap.size w (w.alloc (.cells (pkC 0 0 0 0 none 0 0) 24)) := (Below.refl _ _).alloc (Nat.le_refl _) _
  have HF := fun w' (h : Below w.heap.size w w') => box (show RDec xs w (.returned (.tuple #[pk0, .int .i64 3])) w' from ⟨h, .inl ⟨by omega, by rw [he]; rfl⟩⟩)
  have c1 := at_pos hc 12 (by omega) (by omega)
  have lb : b.block < w.heap.size := World.block_lt_of_cell? w ⟨b.block, b.off + 12, none⟩ c1
  have z1 : (12 : Int) < (n : Int) := by omega
  have lx := getD_lt hx (show 12 < xs.length by omega)
  clear he hc hx
  generalize xs.getD 12 0 = x at hf c1 lx
  by_cases h64 : 64 < x
  · have d2 : decide ((64 : Int) < (x : Int)) = true := decide_eq_true (by omega)
    clear hf h64
    go_enter Tryd.func23, Tryd.ntmps23
    go_wp2_with fail
    refine bodyPost_ret (v := .tuple #[pk0, .int .i64 3]) (by simp [results, Tryd.results23, go_sem]) rfl (HF _ ?_).out
    exact kb
  · have d2 : decide ((64 : Int) < (x : Int)) = false := decide_eq_false (by omega)
    have d3 : ((x : Int) + 17 != (n : Int)) = true := by simp; omega
    clear hf h64
    go_enter Tryd.func23, Tryd.ntmps23
    go_wp2_with fail
    refine bodyPost_ret (v := .tuple #[pk0, .int .i64 3]) (by simp [results, Tryd.results23, go_sem]) rfl (HF _ ?_).out
    exact kb

end Go.Proofs.YthfoakomapmkeaaDoor
/- slices.Equal and slices.Clone of bytes: their contracts. -/
namespace Go.Proofs.YthfoakomapmkeaaDoor
open Go.RowKit

set_option maxHeartbeats 8000000 in
theorem equal_any (a b : Option Addr) (n m ca cb : Nat) (xs ys : List Nat) (hn : xs.length = n) (hm : ys.length = m) (hx : ∀ x ∈ xs, x < 256) (hy : ∀ x ∈ ys, x < 256) (hbig : n ≤ 10000) (hbig2 : m ≤ 10000) (w : World) (ha : In w a xs) (hb : In w b ys) (r : Bool) (hr : decide (xs = ys) = r) :
    Calls Tryd.prog 19 #[.slice a n ca, .slice b m cb] w fun e w' => e = .returned (.bool r) ∧ ∃ t, w' = w.drewN t := by
  have HA := box ha
  have HB := box hb
  have HX := box hx
  have HY := box hy
  have HR := box hr
  clear ha hb hx hy hr
  by_cases hnm : n = m
  · subst hnm
    go_enter Tryd.func19, Tryd.ntmps19
    go_wp2_with fail
    go_loopw [13] (fun t13 wr => ∃ k t : Nat, k ≤ n ∧ t13 = .int .i64 k ∧ Box (wr = w.drewN t) ∧ Box (∀ j < k, xs.getD j 0 = ys.getD j 0)) (fun t13 _ => n - (intOf t13).toNat)
    case atStart => exact ⟨0, 0, by omega, rfl, box rfl, box (fun j hj => by omega)⟩
    case round =>
      obtain ⟨k, t, hk, rfl, hwr, heq⟩ := hrel
      by_cases hlt : k < n
      · have kb : Below w.heap.size w wr := by rw [hwr.out]; exact drewN_below w t
        obtain ⟨b1, rfl, c1⟩ := in_some (HA.out.below kb) (show k < xs.length by omega)
        obtain ⟨b2, rfl, c2⟩ := in_some (HB.out.below kb) (show k < ys.length by omega)
        have l1 := getD_lt HX.out (show k < xs.length by omega)
        have l2 := getD_lt HY.out (show k < ys.length by omega)
        obtain ⟨y1, h1⟩ : ∃ y1, xs.getD k 0 = y1 := ⟨_, rfl⟩
        obtain ⟨y2, h2⟩ : ∃ y2, ys.getD k 0 = y2 := ⟨_, rfl⟩
        have H1 := box h1
        have H2 := box h2
        rw [h1] at c1 l1
        rw [h2] at c2 l2
        clear h1 h2
        by_cases hy : y1 = y2
        · have hz : ((y1 : Int) != (y2 : Int)) = false := by simp [hy]
          have HYY := box hy
          clear hy
          go_wp2_with fail
          go_quiet (fail)
          go_wp2_with fail
          go_roundw
          case rel =>
            refine ⟨k + 1, t + nq, by omega, by go_num, box ?_, box (fun j hj => ?_)⟩
            · rw [hwr.out]; exact drewN_two w t nq
            · rcases Nat.lt_or_ge j k with h | h
              · exact heq.out j h
              · obtain rfl : j = k := by omega
                rw [H1.out, H2.out, HYY.out]
          case measure => simp [intOf]; omega
        · have hz : ((y1 : Int) != (y2 : Int)) = true := by simp; omega
          have HV := box (show r = false by
            rw [← HR.out]
            refine decide_eq_false (fun h => hy ?_)
            rw [← H1.out, ← H2.out, h])
          clear hy
          go_wp2_with fail
          go_quiet (fail)
          go_wp2_with fail
          go_ret
          exact ⟨by rw [HV.out]; rfl, t + nq, by rw [hwr.out]; exact drewN_two w t nq⟩
      · have hk' : k = n := by omega
        have HV := box (show r = true by
          rw [← HR.out]
          exact decide_eq_true (list_eq (by omega) (fun j hj => heq.out j (by omega))))
        subst hk'
        go_wp2_with fail
        go_ret
        exact ⟨by rw [HV.out]; rfl, t, hwr.out⟩
  · have hz : ((n : Int) != (m : Int)) = true := by simp; omega
    have HV := box (show r = false by
      rw [← HR.out]
      refine decide_eq_false (fun h => hnm ?_)
      rw [← hn, ← hm, h])
    clear hnm
    go_enter Tryd.func19, Tryd.ntmps19
    go_wp2_with fail
    go_ret
    exact ⟨by rw [HV.out]; rfl, 0, rfl⟩

end Go.Proofs.YthfoakomapmkeaaDoor
/- Lists of packets in memory; the law's same on equal lists. -/
namespace Go.Proofs.YthfoakomapmkeaaDoor
open Go.RowKit

/-- A packet's contents. -/
structure Pkt where
  k : Nat
  c : Int
  n : Int
  v : Int
  pay : List Nat
/-- A packet lies at an address: its five cells, and its payload. -/
def PkAt (w : World) (g i : Nat) (p : Pkt) : Prop := ∃ (a : Option Addr) (l cap : Nat), w.cell? ⟨g, i, none⟩ = some (nU8 p.k) ∧ w.cell? ⟨g, i + 1, none⟩ = some (.int .i64 p.c) ∧ w.cell? ⟨g, i + 2, none⟩ = some (.int .i64 p.n) ∧ w.cell? ⟨g, i + 3, none⟩ = some (.int .i64 p.v) ∧ w.cell? ⟨g, i + 4, none⟩ = some (.slice a l cap) ∧ p.pay.length = l ∧ In w a p.pay
/-- The packets ps lie from cell i on. -/
def PksAt (w : World) (g i : Nat) (ps : List Pkt) : Prop := ∀ j (h : j < ps.length), PkAt w g (i + j * 5) ps[j]
theorem PkAt.below {w w' : World} {g i : Nat} {p : Pkt} (h : PkAt w g i p) (hb : Below w.heap.size w w') : PkAt w' g i p := by
  obtain ⟨a, l, cap, h0, h1, h2, h3, h4, h5, h6⟩ := h
  exact ⟨a, l, cap, keepc hb h0, keepc hb h1, keepc hb h2, keepc hb h3, keepc hb h4, h5, h6.below hb⟩
theorem PksAt.below {w w' : World} {g i : Nat} {ps : List Pkt} (h : PksAt w g i ps) (hb : Below w.heap.size w w') : PksAt w' g i ps := fun j hj => (h j hj).below hb

set_option maxRecDepth 100000 in
set_option maxHeartbeats 8000000 in
theorem equalFunc_at (g i h j n ca cb : Nat) (ps : List Pkt) (hn : ps.length = n) (hbig : n ≤ 1000) (w : World) (ha : PksAt w g i ps) (hb : PksAt w h j ps) :
    Calls Tryd.prog 53 #[.slice (some ⟨g, i, none⟩) n ca, .slice (some ⟨h, j, none⟩) n cb, .func (.func 24) #[] #[]] w fun e w' => e = .returned (.bool true) ∧ Below w.heap.size w w' := by
  have HA := box ha
  have HB := box hb
  clear ha hb
  go_enter Tryd.func53, Tryd.ntmps53
  go_wp2_with fail
  go_loopw [17] (fun t17 wr => ∃ k : Nat, k ≤ n ∧ t17 = .int .i64 k ∧ Below w.heap.size w wr) (fun t17 _ => n - (intOf t17).toNat)
  case atStart => exact ⟨0, by omega, rfl, Below.refl _ _⟩
  case round =>
    obtain ⟨k, hk, rfl, kb⟩ := hrel
    by_cases hlt : k < n
    · obtain ⟨a1, l1, p1, x0, x1, x2, x3, x4, x5, x6⟩ := (HA.out k (by omega)).below kb
      obtain ⟨a2, l2, p2, y0, y1, y2, y3, y4, y5, y6⟩ := (HB.out k (by omega)).below kb
      generalize ps[k]'(by omega) = p at x0 x1 x2 x3 x4 x5 x6 y0 y1 y2 y3 y4 y5 y6
      obtain rfl : l1 = l2 := x5.symm.trans y5
      have lx := World.block_lt_of_cell? wr ⟨g, i + k * 5, none⟩ x0
      have ly := World.block_lt_of_cell? wr ⟨h, j + k * 5, none⟩ y0
      have X6 := box x6
      have Y6 := box y6
      have X5 := box x5
      clear x6 y6 x5 y5
      have k2 : Below wr.heap.size wr ((wr.alloc (.cells (pkC p.k p.c p.n p.v a1 l1 p1) 24)).alloc (.cells (pkC p.k p.c p.n p.v a2 l1 p2) 24)) := ((Below.refl _ _).alloc (Nat.le_refl _) _).alloc (size_alloc _ _ (Nat.le_refl _)) _
      go_wp2_with fail
      refine (psame_any p.k p.c p.n p.v a1 a2 l1 p1 p2 p.pay X5.out _ (X6.out.below k2) (Y6.out.below k2)).mono ?_
      rintro e w3 ⟨rfl, hb3⟩
      have kb3 : Below w.heap.size w w3 := (kb.trans (k2.mono kb.size)).trans (hb3.mono (Nat.le_trans kb.size k2.size))
      go_wp2_with fail
      go_roundw
      case rel => exact ⟨k + 1, by omega, by go_num, kb3⟩
      case measure => simp [intOf]; omega
    · obtain rfl : k = n := by omega
      go_wp2_with fail
      go_ret
      exact ⟨rfl, kb⟩

/-- The packets ps as a slice's elements. -/
def PksIn (w : World) (a : Option Addr) (ps : List Pkt) : Prop := ps = [] ∨ ∃ g i, a = some ⟨g, i, none⟩ ∧ PksAt w g i ps
theorem PksIn.below {w w' : World} {a : Option Addr} {ps : List Pkt} (h : PksIn w a ps) (hb : Below w.heap.size w w') : PksIn w' a ps := by
  rcases h with h | ⟨g, i, e, h⟩
  · exact .inl h
  · exact .inr ⟨g, i, e, h.below hb⟩

set_option maxRecDepth 100000 in
set_option maxHeartbeats 8000000 in
theorem equalFunc_any (a b : Option Addr) (n ca cb : Nat) (ps : List Pkt) (hn : ps.length = n) (hbig : n ≤ 1000) (w : World) (ha : PksIn w a ps) (hb : PksIn w b ps) :
    Calls Tryd.prog 53 #[.slice a n ca, .slice b n cb, .func (.func 24) #[] #[]] w fun e w' => e = .returned (.bool true) ∧ Below w.heap.size w w' := by
  by_cases h0 : n = 0
  · subst h0
    clear ha hb
    go_enter Tryd.func53, Tryd.ntmps53
    go_wp2_with fail
    go_loop [17] (fun t17 => t17 = .int .i64 0) (fun _ => 0)
    case atStart => rfl
    case round =>
      obtain rfl := hrel
      go_wp2_with fail
      go_ret
      exact ⟨rfl, Below.refl _ _⟩
  · rcases ha with h | ⟨g, i, rfl, ha⟩
    · subst h; simp at hn; omega
    rcases hb with h | ⟨h, j, rfl, hb⟩
    · subst h; simp at hn; omega
    exact equalFunc_at g i h j n ca cb ps hn hbig w ha hb

set_option maxHeartbeats 4000000 in
theorem lsame_any (a b : Option Addr) (n ca cb : Nat) (ps : List Pkt) (hn : ps.length = n) (hbig : n ≤ 1000) (w : World) (ha : PksIn w a ps) (hb : PksIn w b ps) :
    Calls Tryd.prog 31 #[.slice a n ca, .slice b n cb] w fun e w' => e = .returned (.bool true) ∧ Below w.heap.size w w' := by
  have E := box (equalFunc_any a b n ca cb ps hn hbig w ha hb)
  clear ha hb
  go_enter Tryd.func31, Tryd.ntmps31
  go_wp2_with fail
  refine E.out.mono ?_
  rintro e w2 ⟨rfl, hb2⟩
  go_wp2_with fail
  go_ret
  exact ⟨rfl, hb2⟩
end Go.Proofs.YthfoakomapmkeaaDoor
/- slices.Grow of nil, slices.Concat of two slices of bytes: their contracts. -/
namespace Go.Proofs.YthfoakomapmkeaaDoor
open Go.RowKit

set_option maxHeartbeats 4000000 in
theorem grow_nil (n : Nat) (hbig : n ≤ 10000) (w : World) :
    Calls Tryd.prog 54 #[.slice none 0 0, .int .i64 n] w fun e w' => ∃ v, e = .returned v ∧ Own w.heap.size w' v 0 [] ∧ Below w.heap.size w w' := by
  by_cases h0 : n = 0
  · subst h0
    go_enter Tryd.func54, Tryd.ntmps54
    go_wp2_with fail
    go_ret
    exact ⟨_, rfl, World.ownsRow_nil _ _ _ _, Below.refl _ _⟩
  · obtain ⟨i0, hi, hz0, hz1, hz2⟩ := info_parts Tryd.infoU8
    have hr := fun ty => Lib.run_append_nil_zeros (P := Tryd.prog) w 22 3 ty 5 i0 (.int .u8 0) .i64 .i64 Tryd.underlying22 Tryd.underlying3 hi hz0 n (by omega) (by omega) (by omega) (by rw [hz2]; omega)
    have hcap := grownCap_ge w n 0 5
    have hmx := grownCap_le_maxLen w n 0 5 (by unfold maxLen; omega)
    have h1 : (0 : Int) < (n : Int) := by omega
    have hsz : (Builtin.zeroCells (Value.int .u8 0).cells n ++ Builtin.zeroCells (Value.int .u8 0).cells (grownCap w n 0 5 - n)).size = grownCap w n 0 5 * 1 := by
      rw [Array.size_append, size_zeroCells, size_zeroCells, show (Value.int IntKind.u8 0).cells.size = 1 from rfl]
      omega
    generalize grownCap w n 0 5 = G at hr hcap hmx hsz
    have HSZ := box hsz
    generalize Builtin.zeroCells (Value.int .u8 0).cells n ++ Builtin.zeroCells (Value.int .u8 0).cells (G - n) = cs at hr HSZ
    have HR := fun ty => box (hr ty)
    have HM := box hmx
    clear hr hsz hmx h0
    go_enter Tryd.func54, Tryd.ntmps54
    go_wp2_with (at_builtin; refine Lib.wpList_append_run _ rfl (.tmp 20) (.tmp 21) 22 3 rfl (.slice none 0 0) (.int .i64 n) rfl rfl _ _ (HR _).out ?_)
    go_ret
    exact ⟨_, rfl, World.ownsRow_made w.drew cs G (Nat.le_refl _) HM.out (by rw [HSZ.out]), ((Below.refl _ _).drew).alloc (Nat.le_refl _) _⟩

/-- The bytes and the length behind the first k of two slices. -/
def catTo (xs ys : List Nat) (k : Nat) : List Nat := if k = 0 then [] else if k = 1 then xs else xs ++ ys

set_option maxHeartbeats 8000000 in
theorem concat_two (g : Nat) (a b : Option Addr) (n m ca cb : Nat) (xs ys : List Nat) (hn : xs.length = n) (hm : ys.length = m) (hbn : n ≤ 4000) (hbm : m ≤ 4000) (na : a = none → ca = 0) (nb : b = none → cb = 0) (w : World)
    (h0 : w.cell? ⟨g, 0, none⟩ = some (.slice a n ca)) (h1 : w.cell? ⟨g, 1, none⟩ = some (.slice b m cb)) (ha : In w a xs) (hb : In w b ys) :
    Calls Tryd.prog 32 #[.slice (some ⟨g, 0, none⟩) 2 2] w fun e w' => ∃ v, e = .returned v ∧ Own w.heap.size w' v (n + m) (xs ++ ys) ∧ Below w.heap.size w w' := by
  have HA := box ha
  have HB := box hb
  have NA := box na
  have NB := box nb
  clear ha hb na nb
  obtain ⟨i0, hi, hz0, hz1, hz2⟩ := info_parts Tryd.infoU8
  have H1 := box h1
  have H0 := box h0
  go_enter Tryd.func32, Tryd.ntmps32
  go_wp2_with fail
  go_loop [3, 11] (fun t3 t11 => ∃ k s : Nat, k ≤ 2 ∧ t11 = .int .i64 k ∧ t3 = .int .i64 s ∧ s ≤ 8000 ∧ Box (s = if k = 0 then 0 else if k = 1 then n else n + m)) (fun _ t11 => 2 - (intOf t11).toNat)
  case atStart => exact ⟨0, 0, by omega, rfl, rfl, by omega, box rfl⟩
  case round =>
    obtain ⟨k, s, hk, rfl, rfl, hs8, hs⟩ := hrel
    rcases (by omega : k = 0 ∨ k = 1 ∨ k = 2) with rfl | rfl | rfl
    · obtain rfl : s = 0 := hs.out
      go_wp2_with fail
      go_round
      case rel => exact ⟨1, n, by omega, by go_num, by go_num, by omega, box rfl⟩
      case measure => simp [intOf]
    · obtain rfl : s = n := hs.out
      go_wp2_with fail
      go_round
      case rel => exact ⟨2, s + m, by omega, by go_num, by go_num, by omega, box rfl⟩
      case measure => simp [intOf]
    · obtain rfl : s = n + m := hs.out
      clear hs
      have G := box (grow_nil (n + m) (by omega) w)
      have cz : ((n + m : Nat) : Int) = (n : Int) + (m : Int) := by omega
      rw [cz] at G
      clear cz
      go_wp2_with fail
      refine G.out.mono ?_
      rintro e w2 ⟨v, rfl, hown, kb⟩
      have HO := box hown
      clear hown h0 h1
      go_wp2_with fail
      go_loopw [6, 27] (fun t6 t27 wr => ∃ k : Nat, k ≤ 2 ∧ t27 = .int .i64 k ∧ Box (Own w.heap.size wr t6 (catTo xs ys k).length (catTo xs ys k)) ∧ Below w.heap.size w wr) (fun _ t27 _ => 2 - (intOf t27).toNat)
      case atStart => exact ⟨0, by omega, rfl, HO, kb⟩
      case round =>
        obtain ⟨k, hk, rfl, hown, kb⟩ := hrel
        rcases (by omega : k = 0 ∨ k = 1 ∨ k = 2) with rfl | rfl | rfl
        · have h0 := keepc kb H0.out
          go_wp2_with (at_builtin; refine wpList_append_in (o := ⟨some 33, _, _, _, _, _⟩) rfl (.tmp 31) (.tmp 32) rfl w.heap.size i0 hi hz0 hz1 hz2 _ 0 ([].map nU8) rfl hown.out a n ca xs rfl hn (HA.out.below kb) NA.out (by omega) w.heap.size w (Nat.le_refl _) kb kb.size ?_; intro v3 w3 ho3 hb3 hs3)
          go_roundw
          case rel => exact ⟨1, by omega, by go_num, box (by have h := ho3.out; rw [show catTo xs ys 1 = xs from rfl, hn]; simpa [Own] using h), hb3⟩
          case measure => simp [intOf]
        · have h1 := keepc kb H1.out
          have hown1 : Own w.heap.size wr u6 n xs := by have h := hown.out; rw [show catTo xs ys 1 = xs from rfl, hn] at h; exact h
          have HO1 := box hown1
          clear hown hown1
          go_wp2_with (at_builtin; refine wpList_append_in (o := ⟨some 33, _, _, _, _, _⟩) rfl (.tmp 31) (.tmp 32) rfl w.heap.size i0 hi hz0 hz1 hz2 _ n (xs.map nU8) rfl HO1.out b m cb ys rfl hm (HB.out.below kb) NB.out (by omega) w.heap.size w (Nat.le_refl _) kb kb.size ?_; intro v3 w3 ho3 hb3 hs3)
          go_roundw
          case rel => exact ⟨2, by omega, by go_num, box (by have h := ho3.out; rw [← List.map_append] at h; rw [show catTo xs ys 2 = xs ++ ys from rfl, List.length_append, hn, hm]; exact h), hb3⟩
          case measure => simp [intOf]
        · go_wp2_with fail
          go_ret
          exact ⟨_, rfl, by have h := hown.out; rw [show catTo xs ys 2 = xs ++ ys from rfl, List.length_append, hn, hm] at h; exact h, kb⟩
end Go.Proofs.YthfoakomapmkeaaDoor
