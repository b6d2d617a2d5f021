/- Layer 4: the texts FrT FrU FrV FrW FrX FrN FrY FrZ in one. -/
import Derived.Test.YthfoakomapmkeaaDoorMrC
import Derived.Test.YthfoakomapmkeaaDoorMrB
import Derived.Laws.IdiomCopy
import Derived.Laws.BitsLemmas
import Derived.Deep.DeepAppendRoom
import Derived.Laws.Rows
/- frame.Valid, appendNumber and Encode: their contracts. -/
namespace Go.Proofs.YthfoakomapmkeaaDoor
open Go.RowKit

set_option maxRecDepth 100000 in
set_option maxHeartbeats 8000000 in
theorem fvalid_any (k : Nat) (c n v : Int) (a : Option Addr) (l cap : Nat) (r : Bool) (hr : okP k c n v l = r) (w : World) :
    Calls Tryd.prog 18 #[pkV k c n v a l cap] w fun e w' => e = .returned (.bool r) ∧ Below w.heap.size w w' := by
  unfold okP at hr
  by_cases h0 : k = 0
  · obtain rfl : r = false := by rw [← hr]; first | exact decide_eq_true (by omega) | exact decide_eq_false (by omega)
    have d0 : ((k : Int) != 0) = false := by simp [h0]
    clear hr h0
    go_enter Tryd.func18, Tryd.ntmps18
    go_wp2_with fail
    go_ret
    exact ⟨rfl, (Below.refl _ _).alloc (Nat.le_refl _) _⟩
  by_cases h1 : ¬ (0 ≤ c)
  · obtain rfl : r = false := by rw [← hr]; first | exact decide_eq_true (by omega) | exact decide_eq_false (by omega)
    have d0 : ((k : Int) != 0) = true := by simp; omega
    have d1 : decide (0 ≤ c) = false := decide_eq_false (by omega)
    clear hr h0 h1
    go_enter Tryd.func18, Tryd.ntmps18
    go_wp2_with fail
    go_ret
    exact ⟨rfl, (Below.refl _ _).alloc (Nat.le_refl _) _⟩
  by_cases h2 : ¬ (c < 4)
  · obtain rfl : r = false := by rw [← hr]; first | exact decide_eq_true (by omega) | exact decide_eq_false (by omega)
    have d0 : ((k : Int) != 0) = true := by simp; omega
    have d1 : decide (0 ≤ c) = true := decide_eq_true (by omega)
    have d2 : decide (c < 4) = false := decide_eq_false (by omega)
    clear hr h0 h1 h2
    go_enter Tryd.func18, Tryd.ntmps18
    go_wp2_with fail
    go_ret
    exact ⟨rfl, (Below.refl _ _).alloc (Nat.le_refl _) _⟩
  by_cases h3 : ¬ (0 ≤ n)
  · obtain rfl : r = false := by rw [← hr]; first | exact decide_eq_true (by omega) | exact decide_eq_false (by omega)
    have d0 : ((k : Int) != 0) = true := by simp; omega
    have d1 : decide (0 ≤ c) = true := decide_eq_true (by omega)
    have d2 : decide (c < 4) = true := decide_eq_true (by omega)
    have d3 : decide (0 ≤ n) = false := decide_eq_false (by omega)
    clear hr h0 h1 h2 h3
    go_enter Tryd.func18, Tryd.ntmps18
    go_wp2_with fail
    go_ret
    exact ⟨rfl, (Below.refl _ _).alloc (Nat.le_refl _) _⟩
  by_cases h4 : ¬ (n < 1099511627776)
  · obtain rfl : r = false := by rw [← hr]; first | exact decide_eq_true (by omega) | exact decide_eq_false (by omega)
    have d0 : ((k : Int) != 0) = true := by simp; omega
    have d1 : decide (0 ≤ c) = true := decide_eq_true (by omega)
    have d2 : decide (c < 4) = true := decide_eq_true (by omega)
    have d3 : decide (0 ≤ n) = true := decide_eq_true (by omega)
    have d4 : decide (n < 1099511627776) = false := decide_eq_false (by omega)
    clear hr h0 h1 h2 h3 h4
    go_enter Tryd.func18, Tryd.ntmps18
    go_wp2_with fail
    go_ret
    exact ⟨rfl, (Below.refl _ _).alloc (Nat.le_refl _) _⟩
  by_cases h5 : ¬ (0 ≤ v)
  · obtain rfl : r = false := by rw [← hr]; first | exact decide_eq_true (by omega) | exact decide_eq_false (by omega)
    have d0 : ((k : Int) != 0) = true := by simp; omega
    have d1 : decide (0 ≤ c) = true := decide_eq_true (by omega)
    have d2 : decide (c < 4) = true := decide_eq_true (by omega)
    have d3 : decide (0 ≤ n) = true := decide_eq_true (by omega)
    have d4 : decide (n < 1099511627776) = true := decide_eq_true (by omega)
    have d5 : decide (0 ≤ v) = false := decide_eq_false (by omega)
    clear hr h0 h1 h2 h3 h4 h5
    go_enter Tryd.func18, Tryd.ntmps18
    go_wp2_with fail
    go_ret
    exact ⟨rfl, (Below.refl _ _).alloc (Nat.le_refl _) _⟩
  by_cases h6 : ¬ (v < 1099511627776)
  · obtain rfl : r = false := by rw [← hr]; first | exact decide_eq_true (by omega) | exact decide_eq_false (by omega)
    have d0 : ((k : Int) != 0) = true := by simp; omega
    have d1 : decide (0 ≤ c) = true := decide_eq_true (by omega)
    have d2 : decide (c < 4) = true := decide_eq_true (by omega)
    have d3 : decide (0 ≤ n) = true := decide_eq_true (by omega)
    have d4 : decide (n < 1099511627776) = true := decide_eq_true (by omega)
    have d5 : decide (0 ≤ v) = true := decide_eq_true (by omega)
    have d6 : decide (v < 1099511627776) = false := decide_eq_false (by omega)
    clear hr h0 h1 h2 h3 h4 h5 h6
    go_enter Tryd.func18, Tryd.ntmps18
    go_wp2_with fail
    go_ret
    exact ⟨rfl, (Below.refl _ _).alloc (Nat.le_refl _) _⟩
  by_cases h7 : ¬ (l ≤ 64)
  · obtain rfl : r = false := by rw [← hr]; first | exact decide_eq_true (by omega) | exact decide_eq_false (by omega)
    have d0 : ((k : Int) != 0) = true := by simp; omega
    have d1 : decide (0 ≤ c) = true := decide_eq_true (by omega)
    have d2 : decide (c < 4) = true := decide_eq_true (by omega)
    have d3 : decide (0 ≤ n) = true := decide_eq_true (by omega)
    have d4 : decide (n < 1099511627776) = true := decide_eq_true (by omega)
    have d5 : decide (0 ≤ v) = true := decide_eq_true (by omega)
    have d6 : decide (v < 1099511627776) = true := decide_eq_true (by omega)
    have d7 : decide ((l : Int) ≤ 64) = false := decide_eq_false (by omega)
    clear hr h0 h1 h2 h3 h4 h5 h6 h7
    go_enter Tryd.func18, Tryd.ntmps18
    go_wp2_with fail
    go_ret
    exact ⟨rfl, (Below.refl _ _).alloc (Nat.le_refl _) _⟩
  obtain rfl : r = true := by rw [← hr]; first | exact decide_eq_true (by omega) | exact decide_eq_false (by omega)
  have d0 : ((k : Int) != 0) = true := by simp; omega
  have d1 : decide (0 ≤ c) = true := decide_eq_true (by omega)
  have d2 : decide (c < 4) = true := decide_eq_true (by omega)
  have d3 : decide (0 ≤ n) = true := decide_eq_true (by omega)
  have d4 : decide (n < 1099511627776) = true := decide_eq_true (by omega)
  have d5 : decide (0 ≤ v) = true := decide_eq_true (by omega)
  have d6 : decide (v < 1099511627776) = true := decide_eq_true (by omega)
  have d7 : decide ((l : Int) ≤ 64) = true := decide_eq_true (by omega)
  clear hr h0 h1 h2 h3 h4 h5 h6 h7
  go_enter Tryd.func18, Tryd.ntmps18
  go_wp2_with fail
  go_ret
  exact ⟨rfl, (Below.refl _ _).alloc (Nat.le_refl _) _⟩

/-- Appending the five bytes of a number. -/
theorem appnum_any (n m : Nat) (v : Value) (xs : List Nat) (B : Nat) (w0 w : World) (ho : Own B w v m xs) (hb : Below B w0 w) (hs : B ≤ w.heap.size) (hm : m ≤ 1000) :
    Calls Tryd.prog 37 #[v, .int .i64 n] w fun e w' => ∃ v', e = .returned v' ∧ Own B w' v' (m + 5) (xs ++ five n) ∧ Below B w0 w' ∧ B ≤ w'.heap.size := by
  have HO := box ho
  clear ho
  go_enter Tryd.func37, Tryd.ntmps37
  go_wp2_with fail
  go_loopw [0, 6] (fun t0 t6 wr => ∃ r : Nat, r ≤ 5 ∧ t6 = .int .i64 (r : Int) ∧ Box (Own B wr t0 (m + r) (xs ++ fiveTo n r)) ∧ Below B w0 wr ∧ B ≤ wr.heap.size) (fun _ t6 _ => 5 - (intOf t6).toNat)
  case atStart => exact ⟨0, by omega, rfl, box (by simpa [fiveTo] using HO.out), hb, hs⟩
  case round =>
    obtain ⟨r, hr, rfl, hown, kb, ks⟩ := hrel
    by_cases hlt : r < 5
    · have HE := box (fiveTo_succ n r)
      obtain ⟨s, hs4⟩ : ∃ s, 4 - r = s := ⟨_, rfl⟩
      rw [hs4] at HE
      have e4 : (4 : Int) - (r : Int) = (s : Int) := by omega
      obtain ⟨y, hy⟩ : ∃ y, n / 2 ^ (8 * s) = y := ⟨_, rfl⟩
      have ey : (n : Int) / 2 ^ (8 * s) = (y : Int) := by rw [← hy]; push_cast; rfl
      have e8 : (8 * (s : Int)).toNat = 8 * s := by omega
      rw [hy] at HE
      clear hy
      have e2 : (y : Int) % 256 = ((y % 256 : Nat) : Int) := by omega
      generalize y % 256 = z at e2 HE
      go_wp2_with (at_builtin; refine wpList_append_new (o := ⟨some 17, _, _, _, _, _⟩) rfl (.tmp 9) (.tmp 16) rfl B _ _ _ rfl hown.out [z] 1 rfl (0, 0) rfl (by omega) w0 kb ks ?_; intro v3 w3 ho3 hb3 hs3)
      go_roundw
      case rel => exact ⟨r + 1, by omega, by go_num, box (by rw [HE.out, ← List.append_assoc]; exact ho3.out), hb3, hs3⟩
      case measure => simp [intOf]; omega
    · obtain rfl : r = 5 := by omega
      go_wp2_with fail
      go_ret
      exact ⟨_, rfl, hown.out, kb, ks⟩

set_option maxRecDepth 100000 in
set_option maxHeartbeats 8000000 in
theorem fencode_pk (k c n v : Nat) (a : Option Addr) (l cap : Nat) (pay : List Nat) (hl : pay.length = l) (hk : k < 256) (hok : okP k c n v l = true) (hp : ∀ x ∈ pay, x < 256) (hnil : a = none → cap = 0) (w : World) (hin : In w a pay) (hT : Crc.HasTab w) :
    Calls Tryd.prog 16 #[pkV k c n v a l cap] w fun e w' => ∃ u, e = .returned (.tuple #[u, .int .i64 0]) ∧ Own w.heap.size w' u (17 + l) (bytesP k c n v pay) ∧ Below w.heap.size w w' := by
  have HP := box hp
  have HI := box hin
  have HNIL := box hnil
  have HT := box hT
  have VA := fun w => box (fvalid_any k c n v a l cap true hok w)
  obtain ⟨hk0, _, hc4', _, _, _, _, hl64⟩ := of_decide_eq_true hok
  have hc4 : c < 4 := by omega
  clear hp hin hnil hT hok hc4' hk0
  obtain ⟨i0, hi, hz0, hz1, hz2⟩ := info_parts Tryd.infoU8
  have c256 : (c : Int) % 256 = (c : Int) := by omega
  have l256 : (l : Int) % 256 = (l : Int) := by omega
  go_enter Tryd.func16, Tryd.ntmps16
  go_wp2_with fail
  have f0 := World.cell?_alloc_mark w (pkC k c n v a l cap) 24 (0, 0) 0
  have f1 := World.cell?_alloc_mark w (pkC k c n v a l cap) 24 (0, 0) 1
  have f2 := World.cell?_alloc_mark w (pkC k c n v a l cap) 24 (0, 0) 2
  have f3 := World.cell?_alloc_mark w (pkC k c n v a l cap) 24 (0, 0) 3
  have f4 := World.cell?_alloc_mark w (pkC k c n v a l cap) 24 (0, 0) 4
  have kw0 : Below w.heap.size w (w.alloc (.cells (pkC k c n v a l cap) 24)) := (Below.refl _ _).alloc (Nat.le_refl _) _
  refine (VA _).out.mono ?_
  rintro e w1 ⟨rfl, hbv⟩
  have kw := kw0.trans (hbv.mono kw0.size)
  replace f0 := keepc hbv f0
  replace f1 := keepc hbv f1
  replace f2 := keepc hbv f2
  replace f3 := keepc hbv f3
  replace f4 := keepc hbv f4
  clear hbv kw0 VA
  have hmk := run_make (P := Tryd.prog) w1 22 5 i0 (.int .u8 0) Tryd.underlying22 hi hz0 .i64 .i64 0 (13 + (l : Int)) (by omega) (by omega) (by rw [hz2]; omega) (by omega)
  rw [hz1] at hmk
  have kt : (13 + (l : Int)).toNat * 1 = 13 + l := by omega
  have kt' : (13 + (l : Int)).toNat = 13 + l := by omega
  rw [kt, kt'] at hmk
  clear kt kt'
  replace hmk := hmk.trans (show _ = .ok (.slice (some ⟨w1.heap.size, 0, none⟩) 0 (13 + l)) (w1.alloc (.cells (madeCells #[Value.int .u8 0] (13 + l)) 5)) from rfl)
  have kb2 : Below w1.heap.size w1 (w1.alloc (.cells (madeCells #[Value.int .u8 0] (13 + l)) 5)) := (Below.refl _ _).alloc (Nat.le_refl _) _
  have HO2 : Box (Own w1.heap.size (w1.alloc (.cells (madeCells #[Value.int .u8 0] (13 + l)) 5)) (.slice (some ⟨w1.heap.size, 0, none⟩) 0 (13 + l)) 0 []) := box (World.ownsRow_made w1 _ _ (Nat.le_refl _) (by unfold maxLen; omega) (by rw [size_madeCells]; omega))
  generalize w1.alloc (.cells (madeCells #[Value.int .u8 0] (13 + l)) 5) = w2 at hmk kb2 HO2
  replace f0 := keepc kb2 f0
  replace f1 := keepc kb2 f1
  have g2 := keepc kb2 f2
  have g3 := keepc kb2 f3
  have g4 := keepc kb2 f4
  go_wp2_with (first | (at_builtin; refine wpList_append_new (o := ⟨some 20, _, _, _, _, _⟩) rfl (.tmp 13) (.tmp 19) rfl w1.heap.size _ 0 [] rfl HO2.out [k, c] 2 rfl (0, 0) rfl (by omega) w1 kb2 kb2.size ?_; intro v3 w3 ho3 hb3 hs3; replace g2 := keepc hb3 f2; replace g3 := keepc hb3 f3; replace g4 := keepc hb3 f4; clear f0 f1) | fail)
  refine (appnum_any n _ v3 _ w1.heap.size w1 w3 ho3.out hb3 hs3 (by omega)).mono ?_
  rintro e w4 ⟨v4, rfl, ho4, hb4, hs4⟩
  have HO4 := box ho4
  replace g3 := keepc hb4 f3
  replace g4 := keepc hb4 f4
  clear ho3 hb3 hs3 ho4 g2 HO2 hmk kb2
  go_wp2_with fail
  refine (appnum_any v _ v4 _ w1.heap.size w1 w4 HO4.out hb4 hs4 (by omega)).mono ?_
  rintro e w6 ⟨v6, rfl, ho6, hb6, hs6⟩
  have HO6 := box (show Own w1.heap.size w6 v6 (2 + 5 + 5) ([k, c] ++ five n ++ five v) from by simpa using ho6)
  replace g4 := keepc hb6 f4
  clear hb4 hs4 g3 HO4 ho6
  go_wp2_with (first | (at_builtin; refine wpList_append_new (o := ⟨some 35, _, _, _, _, _⟩) rfl (.tmp 29) (.tmp 34) rfl w1.heap.size v6 (2 + 5 + 5) ([k, c] ++ five n ++ five v) rfl HO6.out [l] 1 rfl (0, 0) rfl (by omega) w1 hb6 hs6 ?_; intro v7 w7 ho7 hb7 hs7; replace g4 := keepc hb7 f4) | (at_builtin; refine wpList_append_in (o := ⟨some 39, _, _, _, _, _⟩) rfl (.tmp 36) (.tmp 38) rfl w1.heap.size i0 hi hz0 hz1 hz2 v7 (2 + 5 + 5 + 1) (([k, c] ++ five n ++ five v ++ [l]).map nU8) rfl ho7.out a l cap pay rfl hl (HI.out.below (kw.trans (hb7.mono kw.size))) HNIL.out (by omega) w1.heap.size w1 (Nat.le_refl _) hb7 hs7 ?_; intro v8 w8 ho8 hb8 hs8; obtain ⟨a8, c8, rfl, hi8, hn8, hc8⟩ := own_form (n := 13 + l) (xs := bodyP k c n v pay) (by rw [bodyP_length, hl]) (by have h := ho8.out; rw [← List.map_append] at h; rw [show 13 + l = 2 + 5 + 5 + 1 + l by omega]; unfold bodyP; rw [hl]; exact h); have HI8 := box hi8; clear ho7 ho8 hi8 hn8) | fail)
  have hbl : (bodyP k c n v pay).length = 13 + l := by rw [bodyP_length, hl]
  have hblt := bodyP_lt (k := k) (c := c) (n := n) (v := v) (pay := pay) hk (by omega) HP.out (by omega)
  have kw8 := kw.trans (hb8.mono kw.size)
  refine (Crc.append_any a8 (13 + l) c8 (bodyP k c n v pay) hbl hblt (by omega) w8 HI8.out (HT.out.below kw8)).mono ?_
  rintro e w9 ⟨u, rfl, ho9, hb9⟩
  have HO9 : Box (Own w8.heap.size w9 u (17 + l) (bytesP k c n v pay)) := box (by
    have h : w9.ownsRow w8.heap.size 5 1 u (bytesP k c n v pay).length ((bytesP k c n v pay).map nU8) := ho9
    rw [bytesP_length, hl] at h
    exact h)
  clear ho9
  go_wp2_with fail
  refine bodyPost_ret (v := .tuple #[u, .int .i64 0]) (by simp [results, Tryd.results16, go_sem]) rfl ⟨u, rfl, own_mono HO9.out kw8.size, kw8.trans (hb9.mono kw8.size)⟩

set_option maxRecDepth 100000 in
set_option maxHeartbeats 8000000 in
theorem fencode_bad (k : Nat) (c n v : Int) (a : Option Addr) (l cap : Nat) (hok : okP k c n v l = false) (w : World) :
    Calls Tryd.prog 16 #[pkV k c n v a l cap] w fun e w' => e = .returned (.tuple #[.slice none 0 0, .int .i64 1]) ∧ Below w.heap.size w w' := by
  have VA := fun w => box (fvalid_any k c n v a l cap false hok w)
  clear hok
  go_enter Tryd.func16, Tryd.ntmps16
  go_wp2_with fail
  have kw0 : Below w.heap.size w (w.alloc (.cells (pkC k c n v a l cap) 24)) := (Below.refl _ _).alloc (Nat.le_refl _) _
  refine (VA _).out.mono ?_
  rintro e w1 ⟨rfl, hbv⟩
  go_wp2_with fail
  refine bodyPost_ret (v := .tuple #[.slice none 0 0, .int .i64 1]) (by simp [results, Tryd.results16, go_sem]) rfl ⟨rfl, kw0.trans (hbv.mono kw0.size)⟩
end Go.Proofs.YthfoakomapmkeaaDoor
/- frame.Symbols: its contract. -/
namespace Go.Proofs.YthfoakomapmkeaaDoor
open Go.RowKit

set_option maxRecDepth 100000 in
set_option maxHeartbeats 8000000 in
theorem fsymbols_pk (k c n v : Nat) (a : Option Addr) (l cap : Nat) (pay : List Nat) (hl : pay.length = l) (hk : k < 256) (hok : okP k c n v l = true) (hp : ∀ x ∈ pay, x < 256) (hnil : a = none → cap = 0) (w : World) (hin : In w a pay) (hT : Crc.HasTab w) (hT2 : HasTab w) :
    Calls Tryd.prog 17 #[pkV k c n v a l cap] w fun e w' => ∃ u, e = .returned (.tuple #[u, .int .i64 0]) ∧ Own w.heap.size w' u (36 + 2 * l) (symsP k c n v pay) ∧ Below w.heap.size w w' := by
  have HP := box hp
  have HI := box hin
  have HNIL := box hnil
  have HT := box hT
  have HT2 := box hT2
  have HOK := box hok
  obtain ⟨hk0, _, hc4', _, _, _, _, hl64⟩ := of_decide_eq_true hok
  have hc4 : c < 4 := by omega
  clear hp hin hnil hT hok hc4' hk0 hT2
  obtain ⟨i0, hi, hz0, hz1, hz2⟩ := info_parts Tryd.infoU8
  have hbl : (bytesP k c n v pay).length = 17 + l := by rw [bytesP_length, hl]
  have HBL := box (bytesP_lt (n := n) (v := v) (pay := pay) hk (show c < 256 by omega) HP.out (by omega))
  have hel : (enc (bytesP k c n v pay)).length = 2 * (17 + l) := by rw [enc_length, hbl]
  go_enter Tryd.func17, Tryd.ntmps17
  go_wp2_with fail
  have kw0 : Below w.heap.size w (w.alloc (.cells (pkC k c n v a l cap) 24)) := (Below.refl _ _).alloc (Nat.le_refl _) _
  refine (fencode_pk k c n v a l cap pay hl hk HOK.out HP.out HNIL.out _ (HI.out.below kw0) (HT.out.below kw0)).mono ?_
  rintro e w1 ⟨u, rfl, hown, hb⟩
  obtain ⟨fa, fc, rfl, hin, _, _⟩ := own_form hbl hown
  have HB1 := box hin
  have kw := kw0.trans (hb.mono kw0.size)
  clear hown hin hb kw0
  have T2 := HT2.out.below kw
  have HS0 := box (control_ok 0 (by omega) w1 T2)
  have HS1 := box (control_ok 1 (by omega) w1 T2)
  have HTW := box T2
  clear T2
  go_wp2_with fail
  refine HS0.out.mono ?_
  rintro e w2 ⟨rfl, rfl⟩
  go_wp2_with fail
  refine HS1.out.mono ?_
  rintro e w2 ⟨rfl, rfl⟩
  clear HS0 HS1
  have hmk := run_make (P := Tryd.prog) w1 22 5 i0 (.int .u8 0) Tryd.underlying22 hi hz0 .i64 .i64 0 (1 + 2 * (17 + (l : Int)) + 1) (by omega) (by omega) (by rw [hz2]; omega) (by omega)
  rw [hz1] at hmk
  have kt : (1 + 2 * (17 + (l : Int)) + 1).toNat * 1 = 36 + 2 * l := by omega
  have kt' : (1 + 2 * (17 + (l : Int)) + 1).toNat = 36 + 2 * l := by omega
  rw [kt, kt'] at hmk
  clear kt kt'
  replace hmk := hmk.trans (show _ = .ok (.slice (some ⟨w1.heap.size, 0, none⟩) 0 (36 + 2 * l)) (w1.alloc (.cells (madeCells #[Value.int .u8 0] (36 + 2 * l)) 5)) from rfl)
  have kb2 : Below w1.heap.size w1 (w1.alloc (.cells (madeCells #[Value.int .u8 0] (36 + 2 * l)) 5)) := (Below.refl _ _).alloc (Nat.le_refl _) _
  have HO2 : Box (Own w1.heap.size (w1.alloc (.cells (madeCells #[Value.int .u8 0] (36 + 2 * l)) 5)) (.slice (some ⟨w1.heap.size, 0, none⟩) 0 (36 + 2 * l)) 0 []) := box (World.ownsRow_made w1 _ _ (Nat.le_refl _) (by unfold maxLen; omega) (by rw [size_madeCells]; omega))
  generalize w1.alloc (.cells (madeCells #[Value.int .u8 0] (36 + 2 * l)) 5) = w2 at hmk kb2 HO2
  go_wp2_with (first | (at_builtin; refine wpList_append_new (o := ⟨some 36, _, _, _, _, _⟩) rfl (.tmp 33) (.tmp 35) rfl w1.heap.size _ 0 [] rfl HO2.out [49] 1 rfl (0, 0) rfl (by omega) w1 kb2 kb2.size ?_; intro v3 w3 ho3 hb3 hs3) | fail)
  refine (encode_any fa (17 + l) fc (bytesP k c n v pay) hbl HBL.out (by omega) _ (HB1.out.below hb3) (HTW.out.below hb3)).mono ?_
  rintro e w4 ⟨u, rfl, hown, hb⟩
  obtain ⟨ga, gc, rfl, hin, hnil, _⟩ := own_form hel hown
  have HO4 := box (own_later ho3.out hb)
  have kb4 := hb3.trans (hb.mono hs3)
  have HE4 := box hin
  have HN4 := box hnil
  clear hown hin hnil hb ho3 hb3 hs3 HO2 hmk kb2
  go_wp2_with (first | (at_builtin; refine wpList_append_in (o := ⟨some 40, _, _, _, _, _⟩) rfl (.tmp 37) (.tmp 39) rfl w1.heap.size i0 hi hz0 hz1 hz2 v3 1 ([49].map nU8) rfl HO4.out ga (2 * (17 + l)) gc (enc (bytesP k c n v pay)) rfl hel HE4.out HN4.out (by omega) w1.heap.size w1 (Nat.le_refl _) kb4 kb4.size ?_; intro v5 w5 ho5 hb5 hs5; have HO5 := box (show Own w1.heap.size w5 v5 (1 + 2 * (17 + l)) ([49] ++ enc (bytesP k c n v pay)) from by have h := ho5.out; rw [← List.map_append] at h; exact h)) | (at_builtin; refine wpList_append_new (o := ⟨some 44, _, _, _, _, _⟩) rfl (.tmp 41) (.tmp 43) rfl w1.heap.size v5 (1 + 2 * (17 + l)) ([49] ++ enc (bytesP k c n v pay)) rfl HO5.out [50] 1 rfl (0, 0) rfl (by omega) w1 hb5 hs5 ?_; intro v6 w6 ho6 hb6 hs6) | fail)
  refine bodyPost_ret (v := .tuple #[v6, .int .i64 0]) (by simp [results, Tryd.results17, go_sem]) rfl ⟨v6, rfl, own_mono (by have h := ho6.out; rwa [show 36 + 2 * l = 1 + 2 * (17 + l) + 1 by omega]) kw.size, kw.trans (hb6.mono kw.size)⟩

set_option maxRecDepth 100000 in
set_option maxHeartbeats 8000000 in
theorem fsymbols_bad (k : Nat) (c n v : Int) (a : Option Addr) (l cap : Nat) (hok : okP k c n v l = false) (w : World) :
    Calls Tryd.prog 17 #[pkV k c n v a l cap] w fun e w' => e = .returned (.tuple #[.slice none 0 0, .int .i64 1]) ∧ Below w.heap.size w w' := by
  have VA := fun w => box (fencode_bad k c n v a l cap hok w)
  clear hok
  go_enter Tryd.func17, Tryd.ntmps17
  go_wp2_with fail
  have kw0 : Below w.heap.size w (w.alloc (.cells (pkC k c n v a l cap) 24)) := (Below.refl _ _).alloc (Nat.le_refl _) _
  refine (VA _).out.mono ?_
  rintro e w1 ⟨rfl, hbv⟩
  go_wp2_with fail
  refine bodyPost_ret (v := .tuple #[.slice none 0 0, .int .i64 1]) (by simp [results, Tryd.results17, go_sem]) rfl ⟨rfl, kw0.trans (hbv.mono kw0.size)⟩
end Go.Proofs.YthfoakomapmkeaaDoor
/- frame.Decode: its contracts where the packet is not read. -/
namespace Go.Proofs.YthfoakomapmkeaaDoor
open Go.RowKit

theorem or_shift (q x : Nat) (hq : q < 1099511627776) (hx : x < 256) : bits .or .i64 ((q : Int) * 256) (x : Int) = ((256 * q + x : Nat) : Int) := by
  have h := bits_join .i64 63 (by decide) (fun n h0 h1 => by rw [IntKind.wrap_i64]; omega) 8 ((q : Int) * 256) (x : Int) (by omega) (by omega) (by omega) (by omega) (by omega) (by omega)
  rw [h]; omega

set_option maxHeartbeats 4000000 in
theorem readnum_any (b : Addr) (m c : Nat) (xs : List Nat) (hm : xs.length = m) (h5 : 5 ≤ m) (hx : ∀ x ∈ xs, x < 256) (w : World) (hc : At w b xs) :
    Calls Tryd.prog 44 #[.slice (some b) m c] w fun e w' => e = .returned (.int .i64 (numTo xs 5 : Nat)) ∧ w = w' := by
  have HX := box hx
  have HC := box hc
  obtain ⟨r, hr⟩ : ∃ r, numTo xs 5 = r := ⟨_, rfl⟩
  have HR := box hr
  rw [hr]
  clear hx hc hr
  go_enter Tryd.func44, Tryd.ntmps44
  go_wp2_with fail
  go_loop [3, 5] (fun t3 t5 => ∃ j q : Nat, j ≤ 5 ∧ t5 = .int .i64 j ∧ t3 = .int .i64 q ∧ q < 1099511627776 ∧ Box (numTo xs j = q)) (fun _ t5 => 5 - (intOf t5).toNat)
  case atStart => exact ⟨0, 0, by omega, rfl, rfl, by omega, box rfl⟩
  case round =>
    obtain ⟨j, q, hj, rfl, rfl, hq, hnum⟩ := hrel
    by_cases hlt : j < 5
    · have c1 := HC.out j (by omega)
      have HN := box (show numTo xs (j + 1) = 256 * q + xs.getD j 0 by simp only [numTo]; rw [hnum.out])
      have lx : xs.getD j 0 < 256 := by rw [List.getD_eq_getElem?_getD, List.getElem?_eq_getElem (by omega)]; exact HX.out _ (List.getElem_mem _)
      have lq : numTo xs (j + 1) < 1099511627776 := by
        have h1 := numTo_lt HX.out (j + 1) (by omega)
        have h2 : 256 ^ (j + 1) ≤ 256 ^ 5 := Nat.pow_le_pow_right (by decide) (by omega)
        have h3 : (256 : Nat) ^ 5 = 1099511627776 := by decide
        omega
      have hz : (j : Int) < (m : Int) := by omega
      generalize xs.getD j 0 = x at c1 HN lx
      have ho := or_shift q x hq lx
      go_wp2_with fail
      go_round
      case rel => exact ⟨j + 1, 256 * q + x, by omega, by go_num, by go_num, by rw [← HN.out]; exact lq, HN⟩
      case measure => simp [intOf]; omega
    · obtain rfl : j = 5 := by omega
      have HV := box (show r = q from HR.out.symm.trans hnum.out)
      go_wp2_with fail
      go_ret
      exact ⟨by rw [HV.out]; rfl, rfl⟩

/-- A string ends with its check sum exactly if it has the seal's check sum. -/
theorem seal_cases {xs : List Nat} (hx : ∀ x ∈ xs, x < 256) (h4 : 4 ≤ xs.length) : Crc.crc xs = 558161692 ↔ xs.drop (xs.length - 4) = Crc.le4 (Crc.crc (xs.take (xs.length - 4))) := by
  rw [Crc.sealed_iff hx h4]
  constructor
  · intro h
    have := congrArg (List.drop (xs.length - 4)) h
    rw [this]
    conv => lhs; rw [List.drop_append_of_le_length (by simp)]
    simp
  · intro h
    rw [← h, List.take_append_drop]

set_option maxRecDepth 100000 in
set_option maxHeartbeats 8000000 in
theorem fdec_short (a : Option Addr) (n c : Nat) (xs : List Nat) (hn : xs.length = n) (h17 : n < 17) (w : World) :
    Calls Tryd.prog 22 #[.slice a n c] w (RDec xs w) := by
  have he : decE xs = 4 := by unfold decE; rw [if_pos (by omega)]
  have d1 : decide ((n : Int) < 17) = true := decide_eq_true (by omega)
  have kb : Below w.heap.size w (w.alloc (.cells (pkC 0 0 0 0 none 0 0) 24)) := (Below.refl _ _).alloc (Nat.le_refl _) _
  have HF := fun w' (h : Below w.heap.size w w') => box (show RDec xs w (.returned (.tuple #[pk0, .int .i64 4])) w' from ⟨h, .inl ⟨by omega, by rw [he]; rfl⟩⟩)
  clear he
  go_enter Tryd.func22, Tryd.ntmps22
  go_wp2_with fail
  refine bodyPost_ret (v := .tuple #[pk0, .int .i64 4]) (by simp [results, Tryd.results22, go_sem]) rfl (HF _ ?_).out
  exact kb

set_option maxRecDepth 100000 in
set_option maxHeartbeats 8000000 in
theorem fdec_form (b : Addr) (n c : Nat) (xs : List Nat) (hbig : n ≤ 10000) (hn : xs.length = n) (hx : ∀ x ∈ xs, x < 256) (h17 : ¬ n < 17) (hf : 64 < xs.getD 12 0 ∨ xs.getD 12 0 + 17 ≠ n) (w : World) (hc : At w b xs) :
    Calls Tryd.prog 22 #[.slice (some b) n c] w (RDec xs w) := by
  have w64 : wrap64 ((n : Int) - 17) = (n : Int) - 17 := by unfold wrap64; omega
  have he : decE xs = 3 := by unfold decE; rw [if_neg (by omega), if_pos (by rw [hn]; exact hf)]
  have d1 : decide ((n : Int) < 17) = false := decide_eq_false (by omega)
  have kb : Below w.heap.size w (w.alloc (.cells (pkC 0 0 0 0 none 0 0) 24)) := (Below.refl _ _).alloc (Nat.le_refl _) _
  have HF := fun w' (h : Below w.heap.size w w') => box (show RDec xs w (.returned (.tuple #[pk0, .int .i64 3])) w' from ⟨h, .inl ⟨by omega, by rw [he]; rfl⟩⟩)
  have c1 := at_pos hc 12 (by omega) (by omega)
  have lb : b.block < w.heap.size := World.block_lt_of_cell? w ⟨b.block, b.off + 12, none⟩ c1
  have z1 : (12 : Int) < (n : Int) := by omega
  have lx := getD_lt hx (show 12 < xs.length by omega)
  clear he hc hx hbig
  generalize xs.getD 12 0 = x at hf c1 lx
  by_cases h64 : 64 < x
  · have d2 : decide ((64 : Int) < (x : Int)) = true := decide_eq_true (by omega)
    clear hf h64 w64
    go_enter Tryd.func22, Tryd.ntmps22
    go_wp2_with fail
    refine bodyPost_ret (v := .tuple #[pk0, .int .i64 3]) (by simp [results, Tryd.results22, go_sem]) rfl (HF _ ?_).out
    exact kb
  · have d2 : decide ((64 : Int) < (x : Int)) = false := decide_eq_false (by omega)
    have d3 : ((x : Int) != wrap64 ((n : Int) - 17)) = true := by rw [w64]; simp; omega
    clear hf h64 w64
    go_enter Tryd.func22, Tryd.ntmps22
    go_wp2_with fail
    refine bodyPost_ret (v := .tuple #[pk0, .int .i64 3]) (by simp [results, Tryd.results22, go_sem]) rfl (HF _ ?_).out
    exact kb


set_option maxRecDepth 100000 in
set_option maxHeartbeats 8000000 in
theorem fdec_sum (b : Addr) (n c : Nat) (xs : List Nat) (hn : xs.length = n) (hx : ∀ x ∈ xs, x < 256) (h17 : ¬ n < 17) (hf : ¬ (64 < xs.getD 12 0 ∨ xs.getD 12 0 + 17 ≠ n)) (hs : Crc.crc xs ≠ 558161692) (w : World) (hc : At w b xs) (hT : Crc.HasTab w) :
    Calls Tryd.prog 22 #[.slice (some b) n c] w (RDec xs w) := by
  have w64 : wrap64 ((n : Int) - 17) = (n : Int) - 17 := by unfold wrap64; omega
  have he : decE xs = 9 := by unfold decE; rw [if_neg (by omega), if_neg (by rw [hn]; exact hf), if_pos (fun h => hs ((seal_cases hx (by omega)).2 h))]
  have d1 : decide ((n : Int) < 17) = false := decide_eq_false (by omega)
  have kb : Below w.heap.size w (w.alloc (.cells (pkC 0 0 0 0 none 0 0) 24)) := (Below.refl _ _).alloc (Nat.le_refl _) _
  have HF := fun w' (h : Below w.heap.size w w') => box (show RDec xs w (.returned (.tuple #[pk0, .int .i64 9])) w' from ⟨h, .inl ⟨by omega, by rw [he]; rfl⟩⟩)
  have c1 := at_pos hc 12 (by omega) (by omega)
  have lb : b.block < w.heap.size := World.block_lt_of_cell? w ⟨b.block, b.off + 12, none⟩ c1
  have z1 : (12 : Int) < (n : Int) := by omega
  have lx := getD_lt hx (show 12 < xs.length by omega)
  have HK := fun w' (h : Below w.heap.size w w') => box (Crc.check_bad (some b) n c xs hn hx (by omega) (by omega) hs w' (.inr ⟨b, rfl, fun i hi => keepc h (hc i hi)⟩) (hT.below h))
  have d2 : decide ((64 : Int) < (xs.getD 12 0 : Int)) = false := decide_eq_false (by omega)
  have d3 : ((xs.getD 12 0 : Int) != wrap64 ((n : Int) - 17)) = false := by rw [w64, bne_eq_false_iff_eq]; omega
  clear he hc hx hs hf hT w64
  generalize xs.getD 12 0 = x at c1 lx d2 d3
  go_enter Tryd.func22, Tryd.ntmps22
  go_wp2_with fail
  refine (HK _ kb).out.mono ?_
  rintro e w2 ⟨rfl, rfl⟩
  go_wp2_with fail
  refine bodyPost_ret (v := .tuple #[pk0, .int .i64 9]) (by simp [results, Tryd.results22, go_sem]) rfl (HF _ ?_).out
  exact kb

/-- A packet's five cells. -/
structure Pk5 (w : World) (g : Nat) (y0 y1 y2 y3 y4 : Value) : Prop where
  q0 : w.cell? ⟨g, 0, none⟩ = some y0
  q1 : w.cell? ⟨g, 1, none⟩ = some y1
  q2 : w.cell? ⟨g, 2, none⟩ = some y2
  q3 : w.cell? ⟨g, 3, none⟩ = some y3
  q4 : w.cell? ⟨g, 4, none⟩ = some y4
  zq : ∀ j, w.frozen? ⟨g, j, none⟩ = false
theorem Pk5.keep {w w' : World} {g : Nat} {y0 y1 y2 y3 y4 : Value} (h : Pk5 w g y0 y1 y2 y3 y4) (hb : Below w.heap.size w w') : Pk5 w' g y0 y1 y2 y3 y4 :=
  ⟨keepc hb h.q0, keepc hb h.q1, keepc hb h.q2, keepc hb h.q3, keepc hb h.q4, fun j => by rw [hb.frozen (p := ⟨g, j, none⟩) (show g < w.heap.size from World.block_lt_of_cell? w ⟨g, 0, none⟩ h.q0)]; exact h.zq j⟩
theorem pk5_new (w : World) (k : Nat) (c n v : Int) (a : Option Addr) (l cap : Nat) (g : Nat) (hg : g = w.heap.size) : Pk5 (w.alloc (.cells (pkC k c n v a l cap) 24)) g (nU8 k) (.int .i64 c) (.int .i64 n) (.int .i64 v) (.slice a l cap) := by
  subst hg
  exact ⟨World.cell?_alloc_mark w (pkC k c n v a l cap) 24 (0, 0) 0, World.cell?_alloc_mark w (pkC k c n v a l cap) 24 (0, 0) 1, World.cell?_alloc_mark w (pkC k c n v a l cap) 24 (0, 0) 2, World.cell?_alloc_mark w (pkC k c n v a l cap) 24 (0, 0) 3, World.cell?_alloc_mark w (pkC k c n v a l cap) 24 (0, 0) 4, fun j => by
    unfold World.frozen?
    have h : (w.alloc (.cells (pkC k c n v a l cap) 24)).heap[w.heap.size]? = some (.cells (pkC k c n v a l cap) 24) := by show (w.heap.push _)[w.heap.size]? = _; simp
    rw [show (⟨w.heap.size, j, none⟩ : Addr).block = w.heap.size from rfl, h]
    simp⟩
/-- Five values laid in five cells. -/
abbrev put5 (w : World) (q : Nat) (y0 y1 y2 y3 y4 : Value) : World := ((((w.setCell ⟨q, 0, none⟩ y0).setCell ⟨q, 1, none⟩ y1).setCell ⟨q, 2, none⟩ y2).setCell ⟨q, 3, none⟩ y3).setCell ⟨q, 4, none⟩ y4
theorem pk5_put {w : World} {q : Nat} {v0 v1 v2 v3 v4 : Value} (h : Pk5 w q v0 v1 v2 v3 v4) (y0 y1 y2 y3 y4 : Value) : Pk5 (put5 w q y0 y1 y2 y3 y4) q y0 y1 y2 y3 y4 := by
  have e : put5 w q y0 y1 y2 y3 y4 = w.setCells q 0 [y0, y1, y2, y3, y4] := rfl
  have hQ := World.cell?_setCells_in q [y0, y1, y2, y3, y4] 0 w (by
    intro j hj
    rcases (by simp at hj; omega : j = 0 ∨ j = 1 ∨ j = 2 ∨ j = 3 ∨ j = 4) with rfl | rfl | rfl | rfl | rfl
    · rw [show 0 + 0 = 0 from rfl, h.q0]; rfl
    · rw [show 0 + 1 = 1 from rfl, h.q1]; rfl
    · rw [show 0 + 2 = 2 from rfl, h.q2]; rfl
    · rw [show 0 + 3 = 3 from rfl, h.q3]; rfl
    · rw [show 0 + 4 = 4 from rfl, h.q4]; rfl)
  refine ⟨?_, ?_, ?_, ?_, ?_, ?_⟩
  · rw [e]; exact hQ 0 (by simp)
  · rw [e]; exact hQ 1 (by simp)
  · rw [e]; exact hQ 2 (by simp)
  · rw [e]; exact hQ 3 (by simp)
  · rw [e]; exact hQ 4 (by simp)
  · intro j; simp only [put5, World.frozen?_setCell]; exact h.zq j
theorem put5_below {B : Nat} {w0 w : World} {q : Nat} (h : Below B w0 w) (hq : B ≤ q) (y0 y1 y2 y3 y4 : Value) : Below B w0 (put5 w q y0 y1 y2 y3 y4) :=
  ((((h.setCell hq _).setCell hq _).setCell hq _).setCell hq _).setCell hq _
theorem put5_cell {w : World} {q : Nat} {p : Addr} (h : q ≠ p.block) (y0 y1 y2 y3 y4 : Value) : (put5 w q y0 y1 y2 y3 y4).cell? p = w.cell? p := by
  simp only [put5]
  repeat rw [World.cell?_setCell_far _ _ p _ (by exact h)]
theorem put5_in {w : World} {p : Option Addr} {xs : List Nat} (h : In w p xs) (q : Nat) (y0 y1 y2 y3 y4 : Value) (hq : ∀ g, p = some g → q ≠ g.block) : In (put5 w q y0 y1 y2 y3 y4) p xs := by
  rcases h with h | ⟨g, rfl, h⟩
  · exact .inl h
  · exact .inr ⟨g, rfl, fun i hi => (put5_cell (by have := hq g rfl; unfold Addr.add; split <;> exact this) _ _ _ _ _).trans (h i hi)⟩
end Go.Proofs.YthfoakomapmkeaaDoor
/- frame.Decode: its contract where the packet is read. -/
namespace Go.Proofs.YthfoakomapmkeaaDoor
open Go.RowKit

theorem take_getD (xs : List Nat) (m i : Nat) (h : i < m) : (xs.take m).getD i 0 = xs.getD i 0 := by
  simp [List.getD_eq_getElem?_getD, h]

set_option maxRecDepth 100000 in
set_option maxHeartbeats 8000000 in
theorem fdec_main (b : Addr) (n c : Nat) (xs : List Nat) (hn : xs.length = n) (hx : ∀ x ∈ xs, x < 256) (hcap : n ≤ c) (h17 : ¬ n < 17) (hf : ¬ (64 < xs.getD 12 0 ∨ xs.getD 12 0 + 17 ≠ n)) (hs : Crc.crc xs = 558161692) (w : World) (hc : At w b xs) (hT : Crc.HasTab w) :
    Calls Tryd.prog 22 #[.slice (some b) n c] w (RDec xs w) := by
  have hn81 : n ≤ 81 := by omega
  have hsl := (seal_cases hx (by omega)).1 hs
  have w64 : wrap64 ((n : Int) - 17) = (n : Int) - 17 := by unfold wrap64; omega
  have d1 : decide ((n : Int) < 17) = false := decide_eq_false (by omega)
  have kb : Below w.heap.size w (w.alloc (.cells (pkC 0 0 0 0 none 0 0) 24)) := (Below.refl _ _).alloc (Nat.le_refl _) _
  have c12 := at_pos hc 12 (by omega) (by omega)
  have lb : b.block < w.heap.size := World.block_lt_of_cell? w ⟨b.block, b.off + 12, none⟩ c12
  have z1 : (12 : Int) < (n : Int) := by omega
  have d2 : decide ((64 : Int) < (xs.getD 12 0 : Int)) = false := decide_eq_false (by omega)
  have d3 : ((xs.getD 12 0 : Int) != wrap64 ((n : Int) - 17)) = false := by rw [w64, bne_eq_false_iff_eq]; omega
  have d3' : ((xs.getD 12 0 : Int) != (n : Int) - 17) = false := by rw [bne_eq_false_iff_eq]; omega
  have HK := fun w' (h : Below w.heap.size w w') => box (Crc.check_ok (some b) n c xs hn hx (by omega) (by omega) hcap hs w' (.inr ⟨b, rfl, fun i hi => keepc h (hc i hi)⟩) (hT.below h))
  have HX := box hx
  have lx : xs.getD 12 0 < 256 := getD_lt hx (by omega)
  have hm : ∀ x ∈ xs.take (n - 4), x < 256 := fun x h => hx x (List.mem_of_mem_take h)
  have hE := box (show decE xs = if okP (xs.getD 0 0) (xs.getD 1 0) (numAt xs 2) (numAt xs 7) (n - 17) then 0 else 1 by
    unfold decE; rw [if_neg (by omega), if_neg (by rw [hn]; exact hf), if_neg (fun h => h hsl), hn])
  clear hx hc hf hs hT hsl w64
  generalize xs.getD 12 0 = x at c12 d2 d3 d3' lx
  go_enter Tryd.func22, Tryd.ntmps22
  go_wp2_with fail
  have PZ := pk5_new w 0 0 0 0 none 0 0 w.heap.size rfl
  generalize w.alloc (.cells (pkC 0 0 0 0 none 0 0) 24) = w1 at kb PZ ⊢
  refine (HK _ kb).out.mono ?_
  rintro e w2 ⟨v, rfl, ho, hb⟩
  have ho' : w2.ownsRow w1.heap.size 5 1 v (xs.take (n - 4)).length ((xs.take (n - 4)).map nU8) := ho
  have hlm : (xs.take (n - 4)).length = n - 4 := by simp; omega
  rw [hlm] at ho'
  obtain ⟨ga, gc, rfl, hin, hnil, hgc, hg⟩ := own_form2 hlm ho'
  obtain ⟨g, rfl, hat⟩ : ∃ g, ga = some g ∧ At w2 g (xs.take (n - 4)) := by
    rcases hin with h | h
    · rw [h] at hlm; simp at hlm; omega
    · exact h
  have hgb := hg g rfl
  have hgb2 : w.heap.size < g.block := Nat.lt_of_lt_of_le (World.block_lt_of_cell? w1 ⟨w.heap.size, 0, none⟩ PZ.q0) hgb
  obtain ⟨m, hm4⟩ : ∃ m, n = m + 4 := ⟨n - 4, by omega⟩
  subst hm4
  rw [Nat.add_sub_cancel] at hat hlm hm hgc
  have hys : ∃ ys, xs.take m = ys := ⟨_, rfl⟩
  obtain ⟨ys, hys⟩ := hys
  have HYS := box hys
  rw [hys] at hat hlm hm
  have PZ2 := PZ.keep hb
  have kb2 := kb.trans (hb.mono kb.size)
  have HAT := box hat
  have HM := box hm
  have e0 := at_zero hat (by omega)
  have e1 := at_pos hat 1 (by omega) (by omega)
  have x0 := getD_lt hm (show 0 < ys.length by omega)
  have x1 := getD_lt hm (show 1 < ys.length by omega)
  have lg : g.block < w2.heap.size := World.block_lt_of_cell? w2 g e0
  have lt5 : ∀ i, ∀ x ∈ (ys.drop i).take 5, x < 256 := fun i x hx => HM.out x (List.mem_of_mem_drop (List.mem_of_mem_take hx))
  have N1 := fun w' (h : Below w2.heap.size w2 w') => box (readnum_any ⟨g.block, g.off + 2, none⟩ 5 (gc - 2) ((ys.drop 2).take 5) (by simp; omega) (by omega) (lt5 2) w' (at_drop (HAT.out.below h) 2 5 (by omega)))
  have N2 := fun w' (h : Below w2.heap.size w2 w') => box (readnum_any ⟨g.block, g.off + 7, none⟩ 5 (gc - 7) ((ys.drop 7).take 5) (by simp; omega) (by omega) (lt5 7) w' (at_drop (HAT.out.below h) 7 5 (by omega)))
  clear hat hin hnil ho ho' hb hm lt5 hg HK d1 d2 d3 d3' c12 z1 lb PZ
  have HPZ := box PZ2
  clear PZ2
  have y4 : (7 : Int) ≤ (gc : Int) := by omega
  have y5 : (12 : Int) ≤ (gc : Int) := by omega
  have y6 : (13 : Int) ≤ (m : Int) := by omega
  have y8 : (0 : Int) < (m : Int) := by omega
  have y9 : (1 : Int) < (m : Int) := by omega
  generalize hp0 : ys.getD 0 0 = p0 at e0 x0
  generalize hp1 : ys.getD 1 0 = p1 at e1 x1
  generalize hp2 : numTo ((ys.drop 2).take 5) 5 = p2 at N1
  generalize hp3 : numTo ((ys.drop 7).take 5) 5 = p3 at N2
  have HP := box (And.intro hp0 (And.intro hp1 (And.intro hp2 hp3)))
  clear hp0 hp1 hp2 hp3
  have y14 : IntKind.i64.wrap (p1 : Int) = (p1 : Int) := by rw [IntKind.wrap_i64]; omega
  have bd : Below w2.heap.size w2 w2.drew := (Below.refl _ _).drew
  have g0 : ∀ w' : World, Below w2.heap.size w2 w' → w'.cell? g = some (nU8 p0) := fun w' h => keepc h e0
  have g1 : ∀ w' : World, Below w2.heap.size w2 w' → w'.cell? ⟨g.block, g.off + 1, none⟩ = some (nU8 p1) := fun w' h => keepc h e1
  have y11 : ¬ gc = 2 := by omega
  have y12 : ¬ gc = 7 := by omega
  have y10 : 0 < m := by omega
  have y15 : 1 < m := by omega
  obtain ⟨r, hr⟩ : ∃ r, okP p0 p1 p2 p3 (m - 13) = r := ⟨_, rfl⟩
  have VA : ∀ w a cap, Box (Calls Tryd.prog 18 #[pkV p0 p1 p2 p3 a (m - 13) cap] w fun e w' => e = .returned (.bool r) ∧ Below w.heap.size w w') := fun w a cap => box (fvalid_any p0 p1 p2 p3 a (m - 13) cap r hr w)
  have HPZX := HPZ
  have HQL := box (show xs.length - 17 = m - 13 by omega)
  have HQ : Box (xs.getD 0 0 = p0 ∧ xs.getD 1 0 = p1 ∧ numAt xs 2 = p2 ∧ numAt xs 7 = p3) := box (by
    obtain ⟨h0, h1, h2, h3⟩ := HP.out
    have hd : ∀ i, i + 5 ≤ m → (ys.drop i).take 5 = (xs.drop i).take 5 := fun i hi => by
      rw [← HYS.out, List.drop_take, List.take_take, Nat.min_eq_left (by omega)]
    refine ⟨?_, ?_, ?_, ?_⟩
    · rw [← h0, ← HYS.out, take_getD _ _ _ (by omega)]
    · rw [← h1, ← HYS.out, take_getD _ _ _ (by omega)]
    · rw [← h2]; unfold numAt; rw [hd 2 (by omega)]
    · rw [← h3]; unfold numAt; rw [hd 7 (by omega)])
  have HQD := box (show (xs.drop 13).take (xs.length - 17) = ys.drop 13 by
    rw [← HYS.out, List.drop_take]; congr 1; omega)
  have hR := box (show okP (xs.getD 0 0) (xs.getD 1 0 : Nat) (numAt xs 2 : Nat) (numAt xs 7 : Nat) (m + 4 - 17) = r by
    rw [HQ.out.1, HQ.out.2.1, HQ.out.2.2.1, HQ.out.2.2.2, show m + 4 - 17 = m - 13 by omega]; exact hr)
  have hle := kb2.size
  clear hr HP kb hcap h17 hn81 hys hn
  clear hgb
  by_cases y13 : gc = 13
  · subst y13
    obtain rfl : m = 13 := by omega
    go_wp2_with fail
    go_region_held3 (fun w' => Below w2.heap.size w2 w') (first | assumption | exact bd | (repeat (first | assumption | exact bd | (refine Below.alloc ?_ (by first | exact Below.size (by assumption) | exact Nat.le_refl _ | exact size_alloc _ _ (Nat.le_refl _) | (simp <;> omega)) _) | (refine Below.setCell ?_ (by first | exact Below.size (by assumption) | exact Nat.le_refl _ | (simp <;> omega)) _) | (refine Below.drew ?_) | exact Below.refl _ _)))
      (first | (go_at_call 44; (with_reducible refine (N1 _ (by assumption)).out.mono ?_); rintro e wp ⟨rfl, rfl⟩) | (go_at_call 44; (with_reducible refine (N2 _ (by assumption)).out.mono ?_); rintro e wp ⟨rfl, rfl⟩))
    all_goals
      have P := pk5_new w2 p0 (p1 : Int) (p2 : Int) (p3 : Int) (some g) 0 0 w2.heap.size rfl
      have PK : Pk5 (w2.alloc (.cells (pkC p0 (p1 : Int) (p2 : Int) (p3 : Int) (some g) 0 0) 24)).drew w2.heap.size (nU8 p0) (.int .i64 p1) (.int .i64 p2) (.int .i64 p3) (.slice (some g) 0 0) := ⟨P.q0, P.q1, P.q2, P.q3, P.q4, P.zq⟩
      have k3 : Below w2.heap.size w2 (w2.alloc (.cells (pkC p0 (p1 : Int) (p2 : Int) (p3 : Int) (some g) 0 0) 24)).drew := ((Below.refl _ _).alloc (Nat.le_refl _) _).drew
      have PZ3 := HPZ.out.keep k3
      have HAT3 := HAT.out.below k3
      clear P
      change Exit.then _ _ Exit.normal _ (w2.alloc (.cells (pkC p0 (p1 : Int) (p2 : Int) (p3 : Int) (some g) 0 0) 24)).drew
      generalize (w2.alloc (.cells (pkC p0 (p1 : Int) (p2 : Int) (p3 : Int) (some g) 0 0) 24)).drew = w3 at PK k3 PZ3 HAT3 ⊢
      have kb3 := kb2.trans (k3.mono kb2.size)
      have PKB := box PK
      have PZB := box PZ3
      have HATB := box HAT3
      obtain ⟨q0, q1, q2, q3, q4, zq⟩ := PK
      clear PZ3 HAT3 HPZ N1 N2 g0 g1 bd e0 e1 k3
      have K3 := box kb3
      have LG := box (show w.heap.size < w2.heap.size from World.block_lt_of_cell? w2 ⟨w.heap.size, 0, none⟩ HPZX.out.q0)
      go_wp2_with fail
      refine (VA _ _ _).out.mono ?_
      rintro e w4 ⟨rfl, hb4⟩
      have K4 := box (K3.out.trans (hb4.mono K3.out.size))
      have PK4 := box (PKB.out.keep hb4)
      have PZ4 := box (PZB.out.keep hb4)
      have HAT4 := box (HATB.out.below hb4)
      clear PKB PZB HATB hb4 q0 q1 q2 q3 q4 zq K3 kb3
      have r0 := PK4.out.q0
      have r1 := PK4.out.q1
      have r2 := PK4.out.q2
      have r3 := PK4.out.q3
      have r4 := PK4.out.q4
      have s0 := PZ4.out.q0
      have s1 := PZ4.out.q1
      have s2 := PZ4.out.q2
      have s3 := PZ4.out.q3
      have s4 := PZ4.out.q4
      have t0 := PZ4.out.zq
      cases r
      · have HF := fun w' (h : Below w.heap.size w w') => box (show RDec xs w (.returned (.tuple #[pk0, .int .i64 1])) w' from ⟨h, .inl ⟨by rw [hE.out, hR.out]; simp, by rw [hE.out, hR.out]; rfl⟩⟩)
        go_wp2_with fail
        have Z := pk5_put PZ4.out (nU8 0) (.int .i64 0) (.int .i64 0) (.int .i64 0) (.slice none 0 0)
        have ZB := put5_below (q := w.heap.size) K4.out (Nat.le_refl _) (nU8 0) (.int .i64 0) (.int .i64 0) (.int .i64 0) (.slice none 0 0)
        change bodyPost _ _ _ _ _ (put5 w4 w.heap.size (nU8 0) (.int .i64 0) (.int .i64 0) (.int .i64 0) (.slice none 0 0))
        generalize put5 w4 w.heap.size (nU8 0) (.int .i64 0) (.int .i64 0) (.int .i64 0) (.slice none 0 0) = w5 at Z ZB ⊢
        clear r0 r1 r2 r3 r4 s0 s1 s2 s3 s4 t0
        obtain ⟨z0, z1, z2, z3, z4, _⟩ := Z
        refine bodyPost_ret (v := .tuple #[pk0, .int .i64 1]) (by simp [results, Tryd.results22, go_sem, z0, z1, z2, z3, z4]) rfl (HF _ ?_).out
        exact ZB
      · have HF := fun w' (h : Below w.heap.size w w') (hi : In w' (some g) (ys.drop 13)) => box (show RDec xs w (.returned (.tuple #[pkV p0 p1 p2 p3 (some g) 0 0, .int .i64 0])) w' from ⟨h, .inr ⟨by rw [hE.out, hR.out]; rfl, (some g), 0, by first | (rw [HQ.out.1, HQ.out.2.1, HQ.out.2.2.1, HQ.out.2.2.2, HQL.out]; done) | (rw [HQ.out.1, HQ.out.2.1, HQ.out.2.2.1, HQ.out.2.2.2, HQL.out]; rfl), by rw [HQD.out]; exact hi, (fun h => by cases h), by have := HQL.out; omega, fun g' h => by cases h; show w.heap.size ≤ g.block; omega⟩⟩)
        go_wp2_with fail
        have Z := pk5_put PZ4.out (nU8 p0) (.int .i64 p1) (.int .i64 p2) (.int .i64 p3) (.slice (some g) 0 0)
        have ZB := put5_below (q := w.heap.size) K4.out (Nat.le_refl _) (nU8 p0) (.int .i64 p1) (.int .i64 p2) (.int .i64 p3) (.slice (some g) 0 0)
        have ZI := put5_in (w := w4) (p := (some g)) (xs := ys.drop 13) (.inl (List.drop_eq_nil_of_le (by omega))) w.heap.size (nU8 p0) (.int .i64 p1) (.int .i64 p2) (.int .i64 p3) (.slice (some g) 0 0) (fun g' h => by cases h; show w.heap.size ≠ g.block; omega)
        change bodyPost _ _ _ _ _ (put5 w4 w.heap.size (nU8 p0) (.int .i64 p1) (.int .i64 p2) (.int .i64 p3) (.slice (some g) 0 0))
        generalize put5 w4 w.heap.size (nU8 p0) (.int .i64 p1) (.int .i64 p2) (.int .i64 p3) (.slice (some g) 0 0) = w5 at Z ZB ZI ⊢
        clear r0 r1 r2 r3 r4 s0 s1 s2 s3 s4 t0
        obtain ⟨z0, z1, z2, z3, z4, _⟩ := Z
        refine bodyPost_ret (v := .tuple #[pkV p0 p1 p2 p3 (some g) 0 0, .int .i64 0]) (by simp [results, Tryd.results22, go_sem, z0, z1, z2, z3, z4]) rfl (HF _ ?_ ?_).out
        · exact ZB
        · exact ZI
  go_wp2_with fail
  go_region_held3 (fun w' => Below w2.heap.size w2 w') (first | assumption | exact bd | (repeat (first | assumption | exact bd | (refine Below.alloc ?_ (by first | exact Below.size (by assumption) | exact Nat.le_refl _ | exact size_alloc _ _ (Nat.le_refl _) | (simp <;> omega)) _) | (refine Below.setCell ?_ (by first | exact Below.size (by assumption) | exact Nat.le_refl _ | (simp <;> omega)) _) | (refine Below.drew ?_) | exact Below.refl _ _)))
    (first | (go_at_call 44; (with_reducible refine (N1 _ (by assumption)).out.mono ?_); rintro e wp ⟨rfl, rfl⟩) | (go_at_call 44; (with_reducible refine (N2 _ (by assumption)).out.mono ?_); rintro e wp ⟨rfl, rfl⟩))
  all_goals
    have P := pk5_new w2 p0 (p1 : Int) (p2 : Int) (p3 : Int) (some ⟨g.block, g.off + 13, none⟩) (m - 13) (gc - 13) w2.heap.size rfl
    have PK : Pk5 (w2.alloc (.cells (pkC p0 (p1 : Int) (p2 : Int) (p3 : Int) (some ⟨g.block, g.off + 13, none⟩) (m - 13) (gc - 13)) 24)).drew w2.heap.size (nU8 p0) (.int .i64 p1) (.int .i64 p2) (.int .i64 p3) (.slice (some ⟨g.block, g.off + 13, none⟩) (m - 13) (gc - 13)) := ⟨P.q0, P.q1, P.q2, P.q3, P.q4, P.zq⟩
    have k3 : Below w2.heap.size w2 (w2.alloc (.cells (pkC p0 (p1 : Int) (p2 : Int) (p3 : Int) (some ⟨g.block, g.off + 13, none⟩) (m - 13) (gc - 13)) 24)).drew := ((Below.refl _ _).alloc (Nat.le_refl _) _).drew
    have PZ3 := HPZ.out.keep k3
    have HAT3 := HAT.out.below k3
    clear P
    change Exit.then _ _ Exit.normal _ (w2.alloc (.cells (pkC p0 (p1 : Int) (p2 : Int) (p3 : Int) (some ⟨g.block, g.off + 13, none⟩) (m - 13) (gc - 13)) 24)).drew
    generalize (w2.alloc (.cells (pkC p0 (p1 : Int) (p2 : Int) (p3 : Int) (some ⟨g.block, g.off + 13, none⟩) (m - 13) (gc - 13)) 24)).drew = w3 at PK k3 PZ3 HAT3 ⊢
    have kb3 := kb2.trans (k3.mono kb2.size)
    have PKB := box PK
    have PZB := box PZ3
    have HATB := box HAT3
    obtain ⟨q0, q1, q2, q3, q4, zq⟩ := PK
    clear PZ3 HAT3 HPZ N1 N2 g0 g1 bd e0 e1 k3
    have K3 := box kb3
    have LG := box (show w.heap.size < w2.heap.size from World.block_lt_of_cell? w2 ⟨w.heap.size, 0, none⟩ HPZX.out.q0)
    go_wp2_with fail
    refine (VA _ _ _).out.mono ?_
    rintro e w4 ⟨rfl, hb4⟩
    have K4 := box (K3.out.trans (hb4.mono K3.out.size))
    have PK4 := box (PKB.out.keep hb4)
    have PZ4 := box (PZB.out.keep hb4)
    have HAT4 := box (HATB.out.below hb4)
    clear PKB PZB HATB hb4 q0 q1 q2 q3 q4 zq K3 kb3
    have r0 := PK4.out.q0
    have r1 := PK4.out.q1
    have r2 := PK4.out.q2
    have r3 := PK4.out.q3
    have r4 := PK4.out.q4
    have s0 := PZ4.out.q0
    have s1 := PZ4.out.q1
    have s2 := PZ4.out.q2
    have s3 := PZ4.out.q3
    have s4 := PZ4.out.q4
    have t0 := PZ4.out.zq
    cases r
    · have HF := fun w' (h : Below w.heap.size w w') => box (show RDec xs w (.returned (.tuple #[pk0, .int .i64 1])) w' from ⟨h, .inl ⟨by rw [hE.out, hR.out]; simp, by rw [hE.out, hR.out]; rfl⟩⟩)
      go_wp2_with fail
      have Z := pk5_put PZ4.out (nU8 0) (.int .i64 0) (.int .i64 0) (.int .i64 0) (.slice none 0 0)
      have ZB := put5_below (q := w.heap.size) K4.out (Nat.le_refl _) (nU8 0) (.int .i64 0) (.int .i64 0) (.int .i64 0) (.slice none 0 0)
      change bodyPost _ _ _ _ _ (put5 w4 w.heap.size (nU8 0) (.int .i64 0) (.int .i64 0) (.int .i64 0) (.slice none 0 0))
      generalize put5 w4 w.heap.size (nU8 0) (.int .i64 0) (.int .i64 0) (.int .i64 0) (.slice none 0 0) = w5 at Z ZB ⊢
      clear r0 r1 r2 r3 r4 s0 s1 s2 s3 s4 t0
      obtain ⟨z0, z1, z2, z3, z4, _⟩ := Z
      refine bodyPost_ret (v := .tuple #[pk0, .int .i64 1]) (by simp [results, Tryd.results22, go_sem, z0, z1, z2, z3, z4]) rfl (HF _ ?_).out
      exact ZB
    · have HF := fun w' (h : Below w.heap.size w w') (hi : In w' (some ⟨g.block, g.off + 13, none⟩) (ys.drop 13)) => box (show RDec xs w (.returned (.tuple #[pkV p0 p1 p2 p3 (some ⟨g.block, g.off + 13, none⟩) (m - 13) (gc - 13), .int .i64 0])) w' from ⟨h, .inr ⟨by rw [hE.out, hR.out]; rfl, (some ⟨g.block, g.off + 13, none⟩), (gc - 13), by first | (rw [HQ.out.1, HQ.out.2.1, HQ.out.2.2.1, HQ.out.2.2.2, HQL.out]; done) | (rw [HQ.out.1, HQ.out.2.1, HQ.out.2.2.1, HQ.out.2.2.2, HQL.out]; rfl), by rw [HQD.out]; exact hi, (fun h => by cases h), by have := HQL.out; omega, fun g' h => by cases h; show w.heap.size ≤ g.block; omega⟩⟩)
      go_wp2_with fail
      have Z := pk5_put PZ4.out (nU8 p0) (.int .i64 p1) (.int .i64 p2) (.int .i64 p3) (.slice (some ⟨g.block, g.off + 13, none⟩) (m - 13) (gc - 13))
      have ZB := put5_below (q := w.heap.size) K4.out (Nat.le_refl _) (nU8 p0) (.int .i64 p1) (.int .i64 p2) (.int .i64 p3) (.slice (some ⟨g.block, g.off + 13, none⟩) (m - 13) (gc - 13))
      have ZI := put5_in (w := w4) (p := (some ⟨g.block, g.off + 13, none⟩)) (xs := ys.drop 13) (.inr ⟨_, rfl, by have h := at_drop HAT4.out 13 (m - 13) (by omega); rwa [List.take_of_length_le (by simp; omega)] at h⟩) w.heap.size (nU8 p0) (.int .i64 p1) (.int .i64 p2) (.int .i64 p3) (.slice (some ⟨g.block, g.off + 13, none⟩) (m - 13) (gc - 13)) (fun g' h => by cases h; show w.heap.size ≠ g.block; omega)
      change bodyPost _ _ _ _ _ (put5 w4 w.heap.size (nU8 p0) (.int .i64 p1) (.int .i64 p2) (.int .i64 p3) (.slice (some ⟨g.block, g.off + 13, none⟩) (m - 13) (gc - 13)))
      generalize put5 w4 w.heap.size (nU8 p0) (.int .i64 p1) (.int .i64 p2) (.int .i64 p3) (.slice (some ⟨g.block, g.off + 13, none⟩) (m - 13) (gc - 13)) = w5 at Z ZB ZI ⊢
      clear r0 r1 r2 r3 r4 s0 s1 s2 s3 s4 t0
      obtain ⟨z0, z1, z2, z3, z4, _⟩ := Z
      refine bodyPost_ret (v := .tuple #[pkV p0 p1 p2 p3 (some ⟨g.block, g.off + 13, none⟩) (m - 13) (gc - 13), .int .i64 0]) (by simp [results, Tryd.results22, go_sem, z0, z1, z2, z3, z4]) rfl (HF _ ?_ ?_).out
      · exact ZB
      · exact ZI

theorem fdec_any (a : Option Addr) (n c : Nat) (xs : List Nat) (hn : xs.length = n) (hx : ∀ x ∈ xs, x < 256) (hbig : n ≤ 10000) (hcap : n ≤ c) (w : World) (hc : In w a xs) (hT : Crc.HasTab w) :
    Calls Tryd.prog 22 #[.slice a n c] w (RDec xs w) := by
  by_cases h17 : n < 17
  · exact fdec_short a n c xs hn h17 w
  rcases hc with h | ⟨b, rfl, hc⟩
  · subst h; simp at hn; omega
  by_cases hf : 64 < xs.getD 12 0 ∨ xs.getD 12 0 + 17 ≠ n
  · exact fdec_form b n c xs hbig hn hx h17 hf w hc
  by_cases hs : Crc.crc xs = 558161692
  · exact fdec_main b n c xs hn hx hcap h17 hf hs w hc hT
  · exact fdec_sum b n c xs hn hx h17 hf hs w hc hT
end Go.Proofs.YthfoakomapmkeaaDoor
/- The scanner in memory, New, and the law's awake. -/
namespace Go.Proofs.YthfoakomapmkeaaDoor
open Go.RowKit

/-- All but two blocks is as it was. -/
structure Apart (g h : Nat) (w w' : World) : Prop where
  os : w'.os = w.os
  tape : w'.tape = w.tape
  output : w'.output = w.output
  size : w.heap.size ≤ w'.heap.size
  block : ∀ k, k < w.heap.size → k ≠ g → k ≠ h → w'.heap[k]? = w.heap[k]?
theorem Apart.refl (g h : Nat) (w : World) : Apart g h w w := ⟨rfl, rfl, rfl, Nat.le_refl _, fun _ _ _ _ => rfl⟩
theorem Apart.trans {g h : Nat} {a b c : World} (x : Apart g h a b) (y : Apart g h b c) : Apart g h a c :=
  ⟨y.os.trans x.os, y.tape.trans x.tape, y.output.trans x.output, Nat.le_trans x.size y.size, fun k hk h1 h2 => (y.block k (Nat.lt_of_lt_of_le hk x.size) h1 h2).trans (x.block k hk h1 h2)⟩
theorem Apart.ofBelow {g h : Nat} {w w' : World} (hb : Below w.heap.size w w') : Apart g h w w' := ⟨hb.os, hb.tape, hb.output, hb.size, fun k hk _ _ => hb.block k hk⟩
theorem Apart.ofGrown {g h : Nat} {w w' : World} (hb : w.grownBy w' (some h)) : Apart g h w w' := ⟨hb.os, hb.tape, hb.output, hb.size, fun k hk _ h2 => hb.block k hk (fun e => h2 (Option.some.inj e))⟩
theorem Apart.setCell {g h : Nat} {w w' : World} (x : Apart g h w w') (j : Nat) (v : Value) : Apart g h w (w'.setCell ⟨g, j, none⟩ v) := by
  have e := (Below.refl g w').setCell (p := ⟨g, j, none⟩) (Nat.le_refl _) v
  refine ⟨e.os.trans x.os, e.tape.trans x.tape, e.output.trans x.output, Nat.le_trans x.size e.size, fun k hk h1 h2 => ?_⟩
  rw [← x.block k hk h1 h2]
  exact Below.heap_setCell w' ⟨g, j, none⟩ v k h1
theorem Apart.cell {g h : Nat} {w w' : World} (x : Apart g h w w') {a : Addr} {v : Value} (hc : w.cell? a = some v) (h1 : a.block ≠ g) (h2 : a.block ≠ h) : w'.cell? a = some v :=
  (World.cell?_of_block (x.block _ (World.block_lt_of_cell? w a hc) h1 h2)).trans hc
theorem Apart.frozen {g h : Nat} {w w' : World} (x : Apart g h w w') {a : Addr} (hc : a.block < w.heap.size) (h1 : a.block ≠ g) (h2 : a.block ≠ h) : w'.frozen? a = w.frozen? a :=
  World.frozen?_of_block (x.block _ hc h1 h2)
theorem Apart.inn {g h : Nat} {w w' : World} (x : Apart g h w w') {a : Option Addr} {xs : List Nat} (hi : In w a xs) (hn : ∀ b, a = some b → b.block ≠ g ∧ b.block ≠ h) : In w' a xs := by
  rcases hi with hi | ⟨b, rfl, hi⟩
  · exact .inl hi
  · refine .inr ⟨b, rfl, fun i hj => x.cell (hi i hj) ?_ ?_⟩
    · unfold Addr.add; split <;> exact (hn b rfl).1
    · unfold Addr.add; split <;> exact (hn b rfl).2
theorem Apart.below {g h B : Nat} {w0 w w' : World} (x : Apart g h w w') (hb : Below B w0 w) (hB : B ≤ w.heap.size) (hg : B ≤ g) (hh : B ≤ h) : Below B w0 w' :=
  ⟨x.os.trans hb.os, x.tape.trans hb.tape, x.output.trans hb.output, Nat.le_trans hb.size x.size, fun k hk => (x.block k (by omega) (by omega) (by omega)).trans (hb.block k hk)⟩

/-- A scanner's state: inside or not, its data symbols, how many packets it discarded. -/
structure Sc where
  ins : Bool
  syms : List Nat
  bad : Nat
/-- A scanner in memory. -/
structure ScAt (w : World) (g h : Nat) (s : Sc) : Prop where
  c0 : w.cell? ⟨g, 0, none⟩ = some (.bool s.ins)
  c1 : w.cell? ⟨g, 1, none⟩ = some (.slice (some ⟨h, 0, none⟩) s.syms.length 163)
  c2 : w.cell? ⟨g, 2, none⟩ = some (.int .i64 s.bad)
  fr : ∀ j, w.frozen? ⟨g, j, none⟩ = false
  own : Own h w (.slice (some ⟨h, 0, none⟩) s.syms.length 163) s.syms.length s.syms
  ne : g ≠ h
theorem ScAt.keep {w w' : World} {g h : Nat} {s : Sc} (x : ScAt w g h s) (hb : Below w.heap.size w w') : ScAt w' g h s :=
  ⟨keepc hb x.c0, keepc hb x.c1, keepc hb x.c2, fun j => by rw [hb.frozen (p := ⟨g, j, none⟩) (show g < w.heap.size from World.block_lt_of_cell? w ⟨g, 0, none⟩ x.c0)]; exact x.fr j, own_later x.own hb, x.ne⟩
theorem ScAt.lt {w : World} {g h : Nat} {s : Sc} (x : ScAt w g h s) : g < w.heap.size := World.block_lt_of_cell? w ⟨g, 0, none⟩ x.c0
theorem ScAt.lth {w : World} {g h : Nat} {s : Sc} (x : ScAt w g h s) : h < w.heap.size := by
  obtain ⟨_, hc⟩ := x.own
  rcases hc with ⟨h0, _⟩ | ⟨g', cap, cur, hv, _, hh, _⟩
  · cases h0
  · cases hv
    exact (Array.getElem?_eq_some_iff.1 hh).1

set_option maxRecDepth 100000 in
set_option maxHeartbeats 8000000 in
theorem new_any (w : World) :
    Calls Tryd.prog 25 #[] w fun e w' => e = .returned (.pointer (some ⟨w.heap.size + 1, 0, none⟩)) ∧ Below w.heap.size w w' ∧ ScAt w' (w.heap.size + 1) w.heap.size ⟨false, [], 0⟩ := by
  obtain ⟨i0, hi, hz0, hz1, hz2⟩ := info_parts Tryd.infoU8
  have hmk := run_make (P := Tryd.prog) w 22 5 i0 (.int .u8 0) Tryd.underlying22 hi hz0 .i64 .i64 0 163 (by omega) (by omega) (by rw [hz2]; omega) (by omega)
  rw [hz1] at hmk
  replace hmk := hmk.trans (show _ = .ok (.slice (some ⟨w.heap.size, 0, none⟩) 0 163) (w.alloc (.cells (madeCells #[Value.int .u8 0] 163) 5)) from rfl)
  have kb : Below w.heap.size w (w.alloc (.cells (madeCells #[Value.int .u8 0] 163) 5)) := (Below.refl _ _).alloc (Nat.le_refl _) _
  have HO : Box (Own w.heap.size (w.alloc (.cells (madeCells #[Value.int .u8 0] 163) 5)) (.slice (some ⟨w.heap.size, 0, none⟩) 0 163) 0 []) := box (World.ownsRow_made w _ _ (Nat.le_refl _) (by unfold maxLen; omega) (by rw [size_madeCells]))
  have ks : (w.alloc (.cells (madeCells #[Value.int .u8 0] 163) 5)).heap.size = w.heap.size + 1 := by show (w.heap.push _).size = _; rw [Array.size_push]
  generalize w.alloc (.cells (madeCells #[Value.int .u8 0] 163) 5) = w1 at hmk kb HO ks
  have KS := box ks
  go_enter Tryd.func25, Tryd.ntmps25
  go_wp2_with fail
  go_ret
  have kb2 : Below w1.heap.size w1 (w1.alloc (.cells #[.bool false, .slice (some ⟨w.heap.size, 0, none⟩) 0 163, .int .i64 0] 74)) := (Below.refl _ _).alloc (Nat.le_refl _) _
  have d0 := World.cell?_alloc_mark w1 #[.bool false, .slice (some ⟨w.heap.size, 0, none⟩) 0 163, .int .i64 0] 74 (0, 0) 0
  have d1 := World.cell?_alloc_mark w1 #[.bool false, .slice (some ⟨w.heap.size, 0, none⟩) 0 163, .int .i64 0] 74 (0, 0) 1
  have d2 := World.cell?_alloc_mark w1 #[.bool false, .slice (some ⟨w.heap.size, 0, none⟩) 0 163, .int .i64 0] 74 (0, 0) 2
  have d3 : ∀ j, (w1.alloc (.cells #[.bool false, .slice (some ⟨w.heap.size, 0, none⟩) 0 163, .int .i64 0] 74)).frozen? ⟨w1.heap.size, j, none⟩ = false := fun j => by
    unfold World.frozen?
    have h : (w1.alloc (.cells #[.bool false, .slice (some ⟨w.heap.size, 0, none⟩) 0 163, .int .i64 0] 74)).heap[w1.heap.size]? = some (.cells #[.bool false, .slice (some ⟨w.heap.size, 0, none⟩) 0 163, .int .i64 0] 74) := by show (w1.heap.push _)[w1.heap.size]? = _; simp
    rw [show (⟨w1.heap.size, j, none⟩ : Addr).block = w1.heap.size from rfl, h]
    simp
  rw [ks] at d0 d1 d2 d3
  exact ⟨rfl, kb.trans (kb2.mono kb.size), ⟨d0, d1, d2, d3, own_later HO.out kb2, Nat.succ_ne_self _⟩⟩

theorem in_take {w : World} {a : Option Addr} {xs : List Nat} (h : In w a xs) (k : Nat) : In w a (xs.take k) := by
  rcases h with rfl | ⟨b, rfl, h⟩
  · exact .inl (List.take_nil)
  · refine .inr ⟨b, rfl, fun i hi => ?_⟩
    rw [List.length_take] at hi
    rw [h i (by omega), take_getD _ _ _ (by omega)]

set_option maxRecDepth 100000 in
set_option maxHeartbeats 8000000 in
theorem awake_any (w : World) (hT : Crc.HasTab w) (hT2 : HasTab w) :
    Calls Tryd.prog 13 #[] w fun e w' => e = .returned (.bool true) ∧ Below w.heap.size w w' := by
  have HT := box hT
  have HT2 := box hT2
  clear hT hT2
  have hok : okP 2 (1 : Nat) (258 : Nat) (3 : Nat) 1 = true := by decide
  go_enter Tryd.func13, Tryd.ntmps13
  go_wp2_with fail
  have ks : (w.alloc (.cells #[Value.int .u8 9] 5)).heap.size = w.heap.size + 1 := by show (w.heap.push _).size = _; rw [Array.size_push]
  have kb1 : Below w.heap.size w (w.alloc (.cells #[Value.int .u8 9] 5)) := (Below.refl _ _).alloc (Nat.le_refl _) _
  have HI : Box (In (w.alloc (.cells #[Value.int .u8 9] 5)) (some ⟨w.heap.size, 0, none⟩) [9]) := box (in_mark w [9] 5 (0, 0) _ rfl)
  generalize w.alloc (.cells #[Value.int .u8 9] 5) = w1 at ks kb1 HI ⊢
  have P := pk5_new w1 2 (1 : Nat) (258 : Nat) (3 : Nat) (some ⟨w.heap.size, 0, none⟩) 1 1 (w.heap.size + 1) ks.symm
  have kb2 : Below w1.heap.size w1 (w1.alloc (.cells (pkC 2 (1 : Nat) (258 : Nat) (3 : Nat) (some ⟨w.heap.size, 0, none⟩) 1 1) 24)) := (Below.refl _ _).alloc (Nat.le_refl _) _
  have HI2 := box (HI.out.below kb2)
  have kw := kb1.trans (kb2.mono kb1.size)
  change Calls _ _ #[pkV 2 (1 : Nat) (258 : Nat) (3 : Nat) (some ⟨w.heap.size, 0, none⟩) 1 1] (w1.alloc (.cells (pkC 2 (1 : Nat) (258 : Nat) (3 : Nat) (some ⟨w.heap.size, 0, none⟩) 1 1) 24)) _
  generalize w1.alloc (.cells (pkC 2 (1 : Nat) (258 : Nat) (3 : Nat) (some ⟨w.heap.size, 0, none⟩) 1 1) 24) = w2 at P kb2 HI2 kw ⊢
  have PB := box P
  clear P kb1 kb2 HI ks
  refine (fencode_pk 2 1 258 3 _ 1 1 [9] rfl (by omega) hok (by simp) (fun h => by cases h) w2 HI2.out (HT.out.below kw)).mono ?_
  rintro e w3 ⟨u, rfl, ho, hb⟩
  obtain ⟨ua, uc, rfl, hin, hnil, hcap, _⟩ := own_form2 (n := 17 + 1) (by simp [bytesP_length]) ho
  have HB := box (in_take hin 14)
  have kw3 := kw.trans (hb.mono kw.size)
  have PB3 := box (PB.out.keep hb)
  have HI3 := box (HI2.out.below hb)
  have ua' : ∃ g, ua = some g := by
    rcases hin with h | ⟨g, h, _⟩
    · have := congrArg List.length h; rw [bytesP_length] at this; simp at this
    · exact ⟨g, h⟩
  obtain ⟨g, rfl⟩ := ua'
  clear ho hin hnil hb PB HI2
  obtain ⟨q0, q1, q2, q3, q4, zq⟩ := PB3.out
  go_wp2_with fail
  refine (fsymbols_pk 2 1 258 3 _ 1 1 [9] rfl (by omega) hok (by simp) (fun h => by cases h) w3 HI3.out (HT.out.below kw3) (HT2.out.below kw3)).mono ?_
  rintro e w4 ⟨u, rfl, ho, hb⟩
  obtain ⟨va, vc, rfl, hin, _, _⟩ := own_form (n := 36 + 2 * 1) (by simp [symsP_length]) ho
  have HB4 := box (HB.out.below hb)
  have kw4 := kw3.trans (hb.mono kw3.size)
  clear ho hin hb HB q0 q1 q2 q3 q4 zq PB3 HI3
  have hc14 : (14 : Int) ≤ (uc : Int) := by omega
  go_wp2_with fail
  have kl : Below w4.heap.size w4 (w4.alloc (.cells (([2, 1, 0, 0, 0, 1, 2, 0, 0, 0, 0, 3, 1, 9] : List Nat).map nU8).toArray 5)) := (Below.refl _ _).alloc (Nat.le_refl _) _
  have HL := in_mark w4 [2, 1, 0, 0, 0, 1, 2, 0, 0, 0, 0, 3, 1, 9] 5 (0, 0) _ rfl
  have EQ := equal_any (some g) (some ⟨w4.heap.size, 0, none⟩) 14 14 uc 14 ((bytesP 2 1 258 3 [9]).take 14) [2, 1, 0, 0, 0, 1, 2, 0, 0, 0, 0, 3, 1, 9] (by simp [bytesP_length]) rfl (fun x h => bytesP_lt (by omega) (by omega) (by simp) (by simp) x (List.mem_of_mem_take h)) (by decide) (by omega) (by omega) _ (HB4.out.below kl) HL true (decide_eq_true (by unfold bytesP; rw [List.take_append_of_le_length (by decide)]; decide))
  refine EQ.mono ?_
  rintro e w5 ⟨rfl, t, rfl⟩
  have kw5 := kw4.trans ((kl.trans ((drewN_below _ t).mono kl.size)).mono kw4.size)
  clear HL EQ HB4
  go_wp2_with fail
  refine (new_any _).mono ?_
  rintro e w6 ⟨rfl, hb6, _⟩
  have kw6 := kw5.trans (hb6.mono kw5.size)
  go_wp2_with fail
  go_ret
  exact ⟨by simp, kw6⟩
end Go.Proofs.YthfoakomapmkeaaDoor
/- Encoding and decoding undo each other, as plain mathematics. -/
namespace Go.Proofs.YthfoakomapmkeaaDoor

theorem body_form (k c n v : Nat) (pay : List Nat) : bodyP k c n v pay = k :: c :: n / 4294967296 % 256 :: n / 16777216 % 256 :: n / 65536 % 256 :: n / 256 % 256 :: n % 256 :: v / 4294967296 % 256 :: v / 16777216 % 256 :: v / 65536 % 256 :: v / 256 % 256 :: v % 256 :: pay.length :: pay := by
  simp [bodyP, five_eq]
theorem bytes_form (k c n v : Nat) (pay : List Nat) : bytesP k c n v pay = k :: c :: n / 4294967296 % 256 :: n / 16777216 % 256 :: n / 65536 % 256 :: n / 256 % 256 :: n % 256 :: v / 4294967296 % 256 :: v / 16777216 % 256 :: v / 65536 % 256 :: v / 256 % 256 :: v % 256 :: pay.length :: (pay ++ Crc.le4 (Crc.crc (bodyP k c n v pay))) := by
  unfold bytesP
  conv => lhs; lhs; rw [body_form]
  rfl
theorem bytes_fields (k c n v : Nat) (pay : List Nat) (hn : n < 1099511627776) (hv : v < 1099511627776) :
    (bytesP k c n v pay).getD 0 0 = k ∧ (bytesP k c n v pay).getD 1 0 = c ∧ (bytesP k c n v pay).getD 12 0 = pay.length ∧ numAt (bytesP k c n v pay) 2 = n ∧ numAt (bytesP k c n v pay) 7 = v ∧ ((bytesP k c n v pay).drop 13).take pay.length = pay := by
  rw [bytes_form]
  refine ⟨rfl, rfl, rfl, ?_, ?_, ?_⟩
  · show numTo [n / 4294967296 % 256, n / 16777216 % 256, n / 65536 % 256, n / 256 % 256, n % 256] 5 = n
    rw [← five_eq, num_five hn]
  · show numTo [v / 4294967296 % 256, v / 16777216 % 256, v / 65536 % 256, v / 256 % 256, v % 256] 5 = v
    rw [← five_eq, num_five hv]
  · show List.take pay.length (pay ++ _) = pay
    rw [List.take_left]
theorem bytes_seal (k c n v : Nat) (pay : List Nat) : (bytesP k c n v pay).drop ((bytesP k c n v pay).length - 4) = Crc.le4 (Crc.crc ((bytesP k c n v pay).take ((bytesP k c n v pay).length - 4))) := by
  have hl : (bytesP k c n v pay).length - 4 = (bodyP k c n v pay).length := by rw [bytesP_length, bodyP_length]; omega
  rw [hl]
  unfold bytesP
  rw [List.drop_left, List.take_left]
theorem dec_bytes (k c n v : Nat) (pay : List Nat) (hok : okP k c n v pay.length = true) : decE (bytesP k c n v pay) = 0 := by
  obtain ⟨_, _, _, _, n1, _, v1, l1⟩ := of_decide_eq_true hok
  obtain ⟨f0, f1, f2, f3, f4, f5⟩ := bytes_fields k c n v pay (by omega) (by omega)
  have hl := bytesP_length (k := k) (c := c) (n := n) (v := v) (pay := pay)
  unfold decE
  rw [f2, f0, f1, f3, f4, if_neg (by omega), if_neg (by omega), if_neg (fun h => h (bytes_seal k c n v pay)), hl, Nat.add_sub_cancel_left, hok]
  rfl
theorem cons_of {xs : List Nat} (h : 0 < xs.length) : ∃ a t, xs = a :: t ∧ t.length + 1 = xs.length := by
  match xs, h with
  | a :: t, _ => exact ⟨a, t, rfl, rfl⟩
theorem body_take {xs : List Nat} (hx : ∀ x ∈ xs, x < 256) (h17 : 17 ≤ xs.length) (h1 : xs.getD 12 0 + 17 = xs.length) : xs.take (xs.length - 4) = bodyP (xs.getD 0 0) (xs.getD 1 0) (numAt xs 2) (numAt xs 7) ((xs.drop 13).take (xs.length - 17)) := by
  have g2 := five_num (xs := (xs.drop 2).take 5) (fun x hx' => hx x (List.mem_of_mem_drop (List.mem_of_mem_take hx'))) (by simp; omega)
  have g7 := five_num (xs := (xs.drop 7).take 5) (fun x hx' => hx x (List.mem_of_mem_drop (List.mem_of_mem_take hx'))) (by simp; omega)
  unfold bodyP numAt
  rw [g2, g7]
  clear g2 g7 hx
  have hl : ((xs.drop 13).take (xs.length - 17)).length = xs.getD 12 0 := by simp only [List.length_take, List.length_drop]; omega
  rw [hl]
  generalize hn : xs.length = n at h17 h1
  obtain ⟨a0, t1, rfl, e1⟩ := cons_of (xs := xs) (by omega)
  obtain ⟨a1, t2, rfl, e2⟩ := cons_of (xs := t1) (by omega)
  obtain ⟨a2, t3, rfl, e3⟩ := cons_of (xs := t2) (by omega)
  obtain ⟨a3, t4, rfl, e4⟩ := cons_of (xs := t3) (by omega)
  obtain ⟨a4, t5, rfl, e5⟩ := cons_of (xs := t4) (by omega)
  obtain ⟨a5, t6, rfl, e6⟩ := cons_of (xs := t5) (by omega)
  obtain ⟨a6, t7, rfl, e7⟩ := cons_of (xs := t6) (by omega)
  obtain ⟨a7, t8, rfl, e8⟩ := cons_of (xs := t7) (by omega)
  obtain ⟨a8, t9, rfl, e9⟩ := cons_of (xs := t8) (by omega)
  obtain ⟨a9, t10, rfl, e10⟩ := cons_of (xs := t9) (by omega)
  obtain ⟨a10, t11, rfl, e11⟩ := cons_of (xs := t10) (by omega)
  obtain ⟨a11, t12, rfl, e12⟩ := cons_of (xs := t11) (by omega)
  obtain ⟨a12, t13, rfl, e13⟩ := cons_of (xs := t12) (by omega)
  obtain ⟨m, rfl⟩ : ∃ m, n = m + 17 := ⟨n - 17, by omega⟩
  rw [show m + 17 - 4 = m + 13 by omega, show m + 17 - 17 = m by omega]
  rfl
/-- What decodes is the bytes of its packet. -/
theorem bytes_dec {xs : List Nat} (hx : ∀ x ∈ xs, x < 256) (h : decE xs = 0) :
    okP (xs.getD 0 0) (xs.getD 1 0 : Nat) (numAt xs 2 : Nat) (numAt xs 7 : Nat) (xs.length - 17) = true ∧ 17 ≤ xs.length ∧ xs = bytesP (xs.getD 0 0) (xs.getD 1 0) (numAt xs 2) (numAt xs 7) ((xs.drop 13).take (xs.length - 17)) := by
  unfold decE at h
  split at h
  · omega
  split at h
  · omega
  split at h
  · omega
  split at h
  · rename_i h17 hf hs hok
    refine ⟨hok, by omega, ?_⟩
    have h1 : xs.getD 12 0 + 17 = xs.length := by omega
    have hs : xs.drop (xs.length - 4) = Crc.le4 (Crc.crc (xs.take (xs.length - 4))) := Classical.byContradiction hs
    have key := body_take hx (by omega) h1
    unfold bytesP
    rw [← key, ← hs, List.take_append_drop]
  · omega
/-- A part of the bytes of a packet. -/
theorem dec_part (k c n v : Nat) (pay : List Nat) (hn : n < 1099511627776) (hv : v < 1099511627776) (j : Nat) (hj : j < 17 + pay.length) : decE ((bytesP k c n v pay).take j) = if j < 17 then 4 else 3 := by
  have hl := bytesP_length (k := k) (c := c) (n := n) (v := v) (pay := pay)
  have ht : ((bytesP k c n v pay).take j).length = j := by simp; omega
  unfold decE
  rw [ht]
  by_cases h : j < 17
  · rw [if_pos h, if_pos h]
  · rw [if_neg h, if_neg h, if_pos]
    right
    rw [show ((bytesP k c n v pay).take j).getD 12 0 = (bytesP k c n v pay).getD 12 0 by simp [List.getD_eq_getElem?_getD, show 12 < j by omega], (bytes_fields k c n v pay hn hv).2.2.1]
    omega
/-- The bytes of a packet, and others behind them. -/
theorem dec_more (k c n v : Nat) (pay more : List Nat) (hn : n < 1099511627776) (hv : v < 1099511627776) (hm : more ≠ []) : decE (bytesP k c n v pay ++ more) = 3 := by
  have hl := bytesP_length (k := k) (c := c) (n := n) (v := v) (pay := pay)
  have h0 : 0 < more.length := List.length_pos_iff.2 hm
  unfold decE
  rw [List.length_append, hl, if_neg (by omega), if_pos]
  right
  rw [show (bytesP k c n v pay ++ more).getD 12 0 = (bytesP k c n v pay).getD 12 0 by
    rw [List.getD_eq_getElem?_getD, List.getD_eq_getElem?_getD, List.getElem?_append_left (by omega)], (bytes_fields k c n v pay hn hv).2.2.1]
  omega
end Go.Proofs.YthfoakomapmkeaaDoor
/- FrameEncodes: its walk. -/
namespace Go.Proofs.YthfoakomapmkeaaDoor
open Go.RowKit

theorem clone_any (a : Option Addr) (n c : Nat) (xs : List Nat) (hn : xs.length = n) (hbig : n ≤ 1000) (hnil : a = none → c = 0) (w : World) (hc : In w a xs) :
    Calls Tryd.prog 14 #[.slice a n c] w fun e w' => ∃ v', e = .returned v' ∧ Own w.heap.size w' v' n xs ∧ Below w.heap.size w w' := by
  rcases a with _ | b
  · obtain rfl := hnil rfl
    obtain rfl : xs = [] := by
      rcases hc with h | ⟨b, h, _⟩
      · exact h
      · cases h
    obtain rfl : n = 0 := by simpa using hn.symm
    clear hc hnil
    have q22 : ∀ (w : World) (a : Option Addr) (n c n' c' : Nat), (binOp .eql 22 (.slice a n c) (.slice none n' c')).run Tryd.prog w = .ok (.bool a.isNone) w := fun w a n c n' c' => Lib.run_eql_slice_nil w _ _ a n c n' c' Tryd.underlying22
    go_enter Tryd.func14, Tryd.ntmps14
    go_wp2_with fail
    go_ret
    exact ⟨_, rfl, World.ownsRow_nil _ _ _ _, Below.refl _ _⟩
  · refine clone_at b n c xs hn hbig w ?_
    rcases hc with h | ⟨b', h, hc⟩
    · subst h; intro i hi; simp at hi
    · cases h; exact hc
theorem equal_bel (a b : Option Addr) (n m ca cb : Nat) (xs ys : List Nat) (hn : xs.length = n) (hm : ys.length = m) (hx : ∀ x ∈ xs, x < 256) (hy : ∀ x ∈ ys, x < 256) (hbig : n ≤ 10000) (hbig2 : m ≤ 10000) (w : World) (ha : In w a xs) (hb : In w b ys) (r : Bool) (hr : decide (xs = ys) = r) :
    Calls Tryd.prog 19 #[.slice a n ca, .slice b m cb] w fun e w' => e = .returned (.bool r) ∧ Below w.heap.size w w' :=
  (equal_any a b n m ca cb xs ys hn hm hx hy hbig hbig2 w ha hb r hr).mono fun e w' ⟨h, t, ht⟩ => ⟨h, by rw [ht]; exact drewN_below w t⟩
/-- What is an own slice, as a slice with its bytes. -/
theorem own_any {B n : Nat} {w : World} {v : Value} {xs : List Nat} (h : Own B w v n xs) : ∃ (a : Option Addr) (c : Nat), v = .slice a n c ∧ Box (In w a xs) ∧ (a = none → c = 0) ∧ n ≤ c := by
  obtain ⟨a, c, h1, h2, h3, h4⟩ := own_form (n := n) (xs := xs) (by obtain ⟨hl, _⟩ := h; simpa using hl) h
  exact ⟨a, c, h1, box h2, h3, h4⟩
theorem BoxIn.below {w w' : World} {a : Option Addr} {xs : List Nat} (h : In w a xs) (hb : Below w.heap.size w w') : In w' a xs := In.below h hb

theorem symsP_lt {k c n v : Nat} {pay : List Nat} (hk : k < 256) (hc : c < 256) (hp : ∀ x ∈ pay, x < 256) (hl : pay.length < 256) : ∀ x ∈ symsP k c n v pay, x < 256 := by
  intro x hx
  unfold symsP at hx
  rcases List.mem_append.1 hx with h | h
  · rcases List.mem_append.1 h with h | h
    · simp at h; omega
    · exact enc_lt (bytesP_lt hk hc hp hl) x h
  · simp at h; omega

set_option maxRecDepth 100000 in
set_option maxHeartbeats 8000000 in
theorem encodes_walk (kd : Nat) (c n v : Int) (a : Option Addr) (l cap : Nat) (pay : List Nat) (hl : pay.length = l) (hk : kd < 256) (hp : ∀ x ∈ pay, x < 256) (hnil : a = none → cap = 0) (_hcap : l ≤ cap) (w : World) (hin : In w a pay) (hT : Crc.HasTab w) (hT2 : HasTab w) :
    Calls Tryd.prog 3 #[pkV kd c n v a l cap] w fun e w' => e = .returned (.bool true) ∧ Below w.heap.size w w' := by
  have HP := box hp
  have HI := box hin
  have HNIL := box hnil
  have HT := box hT
  have HT2 := box hT2
  clear hp hin hnil hT hT2
  go_enter Tryd.func3, Tryd.ntmps3
  go_wp2_with fail
  have P := box (pk5_new w kd c n v a l cap w.heap.size rfl)
  have k : Below w.heap.size w (w.alloc (.cells (pkC kd c n v a l cap) 24)) := (Below.refl _ _).alloc (Nat.le_refl _) _
  generalize w.alloc (.cells (pkC kd c n v a l cap) 24) = w0 at P k ⊢
  refine (awake_any _ (HT.out.below k) (HT2.out.below k)).mono ?_
  rintro e w1 ⟨rfl, hb⟩
  replace k := k.trans (hb.mono k.size)
  replace P := box (P.out.keep hb)
  clear hb
  by_cases hbig : 300 < l
  · have d1 : decide ((300 : Int) < (l : Int)) = true := decide_eq_true (by omega)
    obtain ⟨Pq0, Pq1, Pq2, Pq3, Pq4, Pz⟩ := P.out
    go_wp2_with fail
    clear Pq0 Pq1 Pq2 Pq3 Pq4 Pz
    go_ret
    exact ⟨rfl, k⟩
  have d1 : decide ((300 : Int) < (l : Int)) = false := decide_eq_false (by omega)
  obtain ⟨Pq0, Pq1, Pq2, Pq3, Pq4, Pz⟩ := P.out
  go_wp2_with fail
  clear Pq0 Pq1 Pq2 Pq3 Pq4 Pz
  refine (clone_any a l cap pay hl (by omega) HNIL.out _ (HI.out.below k)).mono ?_
  rintro e w2 ⟨b, rfl, ho, hb⟩
  replace k := k.trans (hb.mono k.size)
  replace P := box (P.out.keep hb)
  clear hb
  obtain ⟨ba, bc, rfl, HB, _, _⟩ := own_any ho
  clear ho
  obtain ⟨r, hr⟩ : ∃ r, okP kd c n v l = r := ⟨_, rfl⟩
  obtain ⟨Pq0, Pq1, Pq2, Pq3, Pq4, Pz⟩ := P.out
  go_wp2_with fail
  clear Pq0 Pq1 Pq2 Pq3 Pq4 Pz
  refine (rvalid_any kd c n v a l cap r hr _).mono ?_
  rintro e w3 ⟨rfl, hb⟩
  replace k := k.trans (hb.mono k.size)
  replace P := box (P.out.keep hb)
  replace HB := box (HB.out.below hb)
  clear hb
  cases r
  · obtain ⟨Pq0, Pq1, Pq2, Pq3, Pq4, Pz⟩ := P.out
    go_wp2_with fail
    clear Pq0 Pq1 Pq2 Pq3 Pq4 Pz
    refine (fencode_bad kd c n v a l cap hr _).mono ?_
    rintro e w4 ⟨rfl, hb⟩
    replace k := k.trans (hb.mono k.size)
    replace P := box (P.out.keep hb)
    replace HB := box (HB.out.below hb)
    clear hb
    obtain ⟨Pq0, Pq1, Pq2, Pq3, Pq4, Pz⟩ := P.out
    go_wp2_with fail
    clear Pq0 Pq1 Pq2 Pq3 Pq4 Pz
    refine (fsymbols_bad kd c n v a l cap hr _).mono ?_
    rintro e w5 ⟨rfl, hb⟩
    replace k := k.trans (hb.mono k.size)
    replace P := box (P.out.keep hb)
    replace HB := box (HB.out.below hb)
    clear hb
    obtain ⟨Pq0, Pq1, Pq2, Pq3, Pq4, Pz⟩ := P.out
    go_wp2_with fail
    clear Pq0 Pq1 Pq2 Pq3 Pq4 Pz
    refine (fvalid_any kd c n v a l cap false hr _).mono ?_
    rintro e w6 ⟨rfl, hb⟩
    replace k := k.trans (hb.mono k.size)
    replace P := box (P.out.keep hb)
    replace HB := box (HB.out.below hb)
    clear hb
    obtain ⟨Pq0, Pq1, Pq2, Pq3, Pq4, Pz⟩ := P.out
    go_wp2_with fail
    clear Pq0 Pq1 Pq2 Pq3 Pq4 Pz
    refine (equal_bel a ba l l cap bc pay pay hl hl HP.out HP.out (by omega) (by omega) _ (HI.out.below k) HB.out true (decide_eq_true rfl)).mono ?_
    rintro e w7 ⟨rfl, hb⟩
    replace k := k.trans (hb.mono k.size)
    replace P := box (P.out.keep hb)
    replace HB := box (HB.out.below hb)
    clear hb
    obtain ⟨Pq0, Pq1, Pq2, Pq3, Pq4, Pz⟩ := P.out
    go_wp2_with fail
    clear Pq0 Pq1 Pq2 Pq3 Pq4 Pz
    go_ret
    exact ⟨by simp, k⟩
  · obtain ⟨_, c0, c1, n0, n1, v0, v1, l1⟩ := of_decide_eq_true hr
    obtain ⟨C, rfl⟩ := Int.eq_ofNat_of_zero_le c0
    obtain ⟨N, rfl⟩ := Int.eq_ofNat_of_zero_le n0
    obtain ⟨V, rfl⟩ := Int.eq_ofNat_of_zero_le v0
    have hC : C < 4 := by omega
    have HBL := box (bytesP_lt (n := N) (v := V) (pay := pay) hk (show C < 256 by omega) HP.out (by omega))
    have hbl : (bytesP kd C N V pay).length = 17 + l := by rw [bytesP_length, hl]
    have hsl : (symsP kd C N V pay).length = 36 + 2 * l := by rw [symsP_length, hl]; 
    have HSL := box (symsP_lt (n := N) (v := V) (pay := pay) hk (show C < 256 by omega) HP.out (by omega))
    clear c0 c1 n0 n1 v0 v1
    obtain ⟨Pq0, Pq1, Pq2, Pq3, Pq4, Pz⟩ := P.out
    go_wp2_with fail
    clear Pq0 Pq1 Pq2 Pq3 Pq4 Pz
    refine (fencode_pk kd C N V a l cap pay hl hk hr HP.out HNIL.out _ (HI.out.below k) (HT.out.below k)).mono ?_
    rintro e w4 ⟨u, rfl, ho, hb⟩
    replace k := k.trans (hb.mono k.size)
    replace P := box (P.out.keep hb)
    replace HB := box (HB.out.below hb)
    clear hb
    obtain ⟨ua, uc, rfl, HU, _, _⟩ := own_any ho
    clear ho
    obtain ⟨Pq0, Pq1, Pq2, Pq3, Pq4, Pz⟩ := P.out
    go_wp2_with fail
    clear Pq0 Pq1 Pq2 Pq3 Pq4 Pz
    refine (fsymbols_pk kd C N V a l cap pay hl hk hr HP.out HNIL.out _ (HI.out.below k) (HT.out.below k) (HT2.out.below k)).mono ?_
    rintro e w5 ⟨u, rfl, ho, hb⟩
    replace k := k.trans (hb.mono k.size)
    replace P := box (P.out.keep hb)
    replace HB := box (HB.out.below hb)
    replace HU := box (HU.out.below hb)
    clear hb
    obtain ⟨sa, sc, rfl, HS, _, _⟩ := own_any ho
    clear ho
    obtain ⟨Pq0, Pq1, Pq2, Pq3, Pq4, Pz⟩ := P.out
    go_wp2_with fail
    clear Pq0 Pq1 Pq2 Pq3 Pq4 Pz
    refine (fvalid_any kd C N V a l cap true hr _).mono ?_
    rintro e w6 ⟨rfl, hb⟩
    replace k := k.trans (hb.mono k.size)
    replace P := box (P.out.keep hb)
    replace HB := box (HB.out.below hb)
    replace HU := box (HU.out.below hb)
    replace HS := box (HS.out.below hb)
    clear hb
    obtain ⟨Pq0, Pq1, Pq2, Pq3, Pq4, Pz⟩ := P.out
    go_wp2_with fail
    clear Pq0 Pq1 Pq2 Pq3 Pq4 Pz
    refine (equal_bel a ba l l cap bc pay pay hl hl HP.out HP.out (by omega) (by omega) _ (HI.out.below k) HB.out true (decide_eq_true rfl)).mono ?_
    rintro e w7 ⟨rfl, hb⟩
    replace k := k.trans (hb.mono k.size)
    replace P := box (P.out.keep hb)
    replace HB := box (HB.out.below hb)
    replace HU := box (HU.out.below hb)
    replace HS := box (HS.out.below hb)
    clear hb
    obtain ⟨Pq0, Pq1, Pq2, Pq3, Pq4, Pz⟩ := P.out
    go_wp2_with fail
    clear Pq0 Pq1 Pq2 Pq3 Pq4 Pz
    refine (rencode_pk kd C N V a l cap pay hl hk hC l1 HP.out HNIL.out _ (HI.out.below k)).mono ?_
    rintro e w8 ⟨u, rfl, ho, hb⟩
    replace k := k.trans (hb.mono k.size)
    replace P := box (P.out.keep hb)
    replace HB := box (HB.out.below hb)
    replace HU := box (HU.out.below hb)
    replace HS := box (HS.out.below hb)
    clear hb
    obtain ⟨xa, xc, rfl, HX, _, _⟩ := own_any ho
    clear ho
    obtain ⟨Pq0, Pq1, Pq2, Pq3, Pq4, Pz⟩ := P.out
    go_wp2_with fail
    clear Pq0 Pq1 Pq2 Pq3 Pq4 Pz
    refine (equal_bel ua xa (17 + l) (17 + l) uc xc _ _ hbl hbl HBL.out HBL.out (by omega) (by omega) _ HU.out HX.out true (decide_eq_true rfl)).mono ?_
    rintro e w9 ⟨rfl, hb⟩
    replace k := k.trans (hb.mono k.size)
    replace P := box (P.out.keep hb)
    replace HB := box (HB.out.below hb)
    replace HU := box (HU.out.below hb)
    replace HS := box (HS.out.below hb)
    replace HX := box (HX.out.below hb)
    clear hb
    obtain ⟨Pq0, Pq1, Pq2, Pq3, Pq4, Pz⟩ := P.out
    go_wp2_with fail
    clear Pq0 Pq1 Pq2 Pq3 Pq4 Pz
    refine (rsymbols_pk kd C N V a l cap pay hl hk hC l1 HP.out HNIL.out _ (HI.out.below k)).mono ?_
    rintro e w10 ⟨u, rfl, ho, hb⟩
    replace k := k.trans (hb.mono k.size)
    replace P := box (P.out.keep hb)
    replace HB := box (HB.out.below hb)
    replace HU := box (HU.out.below hb)
    replace HS := box (HS.out.below hb)
    replace HX := box (HX.out.below hb)
    clear hb
    obtain ⟨ya, yc, rfl, HY, _, _⟩ := own_any ho
    clear ho
    obtain ⟨Pq0, Pq1, Pq2, Pq3, Pq4, Pz⟩ := P.out
    go_wp2_with fail
    clear Pq0 Pq1 Pq2 Pq3 Pq4 Pz
    refine (equal_bel sa ya (36 + 2 * l) (36 + 2 * l) sc yc _ _ hsl hsl HSL.out HSL.out (by omega) (by omega) _ HS.out HY.out true (decide_eq_true rfl)).mono ?_
    rintro e w11 ⟨rfl, hb⟩
    replace k := k.trans (hb.mono k.size)
    replace P := box (P.out.keep hb)
    replace HB := box (HB.out.below hb)
    replace HU := box (HU.out.below hb)
    replace HS := box (HS.out.below hb)
    replace HX := box (HX.out.below hb)
    replace HY := box (HY.out.below hb)
    clear hb
    obtain ⟨Pq0, Pq1, Pq2, Pq3, Pq4, Pz⟩ := P.out
    go_wp2_with fail
    clear Pq0 Pq1 Pq2 Pq3 Pq4 Pz
    go_ret
    exact ⟨by simp, k⟩
end Go.Proofs.YthfoakomapmkeaaDoor
/- frame.Decode by what it answers; rows of bytes that a loop changes. -/
namespace Go.Proofs.YthfoakomapmkeaaDoor
open Go.RowKit

theorem fdec_err (a : Option Addr) (n c : Nat) (xs : List Nat) (hn : xs.length = n) (hx : ∀ x ∈ xs, x < 256) (hbig : n ≤ 10000) (hcap : n ≤ c) (r : Nat) (hr : decE xs = r) (hr0 : r ≠ 0) (w : World) (hc : In w a xs) (hT : Crc.HasTab w) :
    Calls Tryd.prog 22 #[.slice a n c] w fun e w' => e = .returned (.tuple #[pk0, .int .i64 (r : Nat)]) ∧ Below w.heap.size w w' := by
  refine (fdec_any a n c xs hn hx hbig hcap w hc hT).mono ?_
  rintro e w' ⟨hb, h | h⟩
  · exact ⟨by rw [h.2, hr], hb⟩
  · exact absurd (hr.symm.trans h.1) hr0
theorem fdec_ok (a : Option Addr) (n c : Nat) (xs : List Nat) (hn : xs.length = n) (hx : ∀ x ∈ xs, x < 256) (hbig : n ≤ 10000) (hcap : n ≤ c) (hr : decE xs = 0) (w : World) (hc : In w a xs) (hT : Crc.HasTab w) :
    Calls Tryd.prog 22 #[.slice a n c] w fun e w' => ∃ (a' : Option Addr) (c' : Nat), e = .returned (.tuple #[pkV (xs.getD 0 0) (xs.getD 1 0 : Nat) (numAt xs 2 : Nat) (numAt xs 7 : Nat) a' (n - 17) c', .int .i64 0]) ∧ Box (In w' a' ((xs.drop 13).take (n - 17))) ∧ (a' = none → c' = 0) ∧ n - 17 ≤ c' ∧ Box (∀ g, a' = some g → w.heap.size ≤ g.block) ∧ Below w.heap.size w w' := by
  refine (fdec_any a n c xs hn hx hbig hcap w hc hT).mono ?_
  rintro e w' ⟨hb, h | ⟨_, a', c', h1, h2, h3, h4, h5⟩⟩
  · exact absurd hr h.1
  · rw [hn] at h1 h2 h4
    exact ⟨a', c', h1, box h2, h3, h4, box h5, hb⟩
theorem fdec_enc (k c n v : Nat) (pay : List Nat) (a : Option Addr) (l m cap : Nat) (hl : pay.length = l) (hm : m = 17 + l) (hok : okP k c n v l = true) (hk : k < 256) (hp : ∀ x ∈ pay, x < 256) (hcap : 17 + l ≤ cap) (w : World) (hc : In w a (bytesP k c n v pay)) (hT : Crc.HasTab w) :
    Calls Tryd.prog 22 #[.slice a m cap] w fun e w' => ∃ (a' : Option Addr) (c' : Nat), e = .returned (.tuple #[pkV k c n v a' l c', .int .i64 0]) ∧ Box (In w' a' pay) ∧ (a' = none → c' = 0) ∧ l ≤ c' ∧ Box (∀ g, a' = some g → w.heap.size ≤ g.block) ∧ Below w.heap.size w w' := by
  subst hl hm
  obtain ⟨_, _, c1, _, n1, _, v1, l1⟩ := of_decide_eq_true hok
  have hlen := bytesP_length (k := k) (c := c) (n := n) (v := v) (pay := pay)
  obtain ⟨f0, f1, f2, f3, f4, f5⟩ := bytes_fields k c n v pay (by omega) (by omega)
  refine (fdec_ok a (17 + pay.length) cap _ hlen (bytesP_lt hk (by omega) hp (by omega)) (by omega) hcap (dec_bytes k c n v pay hok) w hc hT).mono ?_
  rintro e w' ⟨a', c', h1, h2, h3, h4, h5, h6⟩
  rw [f0, f1, f3, f4, Nat.add_sub_cancel_left] at h1
  rw [Nat.add_sub_cancel_left, f5] at h2
  exact ⟨a', c', h1, h2, h3, by omega, h5, h6⟩

/-- A block holds some bytes. -/
def RowIs (w : World) (g : Nat) (ys : List Nat) : Prop := ∃ cur, w.heap[g]? = some (.cells cur 5 (0, 0)) ∧ ∀ i < ys.length, cur[i]? = some (nU8 (ys.getD i 0))
theorem RowIs.cell {w : World} {g : Nat} {ys : List Nat} (h : RowIs w g ys) (i : Nat) (hi : i < ys.length) : w.cell? ⟨g, i, none⟩ = some (nU8 (ys.getD i 0)) := by
  obtain ⟨cur, hc, hv⟩ := h
  rw [cell_of_row w g i _ _ _ hc, hv i hi]
theorem RowIs.free {w : World} {g : Nat} {ys : List Nat} (h : RowIs w g ys) (i : Nat) : w.frozen? ⟨g, i, none⟩ = false := by
  obtain ⟨cur, hc, _⟩ := h
  exact frozen_of_row w g i _ _ hc
theorem RowIs.inn {w : World} {g : Nat} {ys : List Nat} (h : RowIs w g ys) : In w (some ⟨g, 0, none⟩) ys := .inr ⟨_, rfl, fun i hi => by rw [add_off]; exact h.cell i hi⟩
theorem RowIs.set {w : World} {g : Nat} {ys : List Nat} (h : RowIs w g ys) (i y : Nat) (hi : i < ys.length) : RowIs (w.setCell ⟨g, i, none⟩ (nU8 y)) g (ys.set i y) := by
  obtain ⟨cur, hc, hv⟩ := h
  refine ⟨_, heap_setCell_same w g i cur _ (nU8 y) hc, fun j hj => ?_⟩
  simp at hj
  have hs : i < cur.size := (Array.getElem?_eq_some_iff.1 (hv i hi)).1
  by_cases e : i = j
  · subst e
    simp [hs, List.getD_eq_getElem?_getD, hj]
  · rw [Array.getElem?_setIfInBounds, if_neg e, hv j hj]
    simp [List.getD_eq_getElem?_getD, e]
theorem RowIs.below {w w' : World} {g : Nat} {ys : List Nat} (h : RowIs w g ys) (hb : Below w.heap.size w w') : RowIs w' g ys := by
  obtain ⟨cur, hc, hv⟩ := h
  exact ⟨cur, (hb.block g (Array.getElem?_eq_some_iff.1 hc).1).trans hc, hv⟩
theorem RowIs.lt {w : World} {g : Nat} {ys : List Nat} (h : RowIs w g ys) : g < w.heap.size := by
  obtain ⟨cur, hc, _⟩ := h
  exact (Array.getElem?_eq_some_iff.1 hc).1
theorem row_of_own {B n c : Nat} {w : World} {g : Nat} {ys : List Nat} (h : Own B w (.slice (some ⟨g, 0, none⟩) n c) n ys) : RowIs w g ys := by
  obtain ⟨hl, hc⟩ := h
  rcases hc with ⟨h0, _⟩ | ⟨g', cap, cur, hv, hg, hh, hnc, hcap, hsz, htake⟩
  · cases h0
  · cases hv
    refine ⟨cur, hh, fun i hi => ?_⟩
    have := congrArg (fun l => l[i]?) htake
    simp only [List.getElem?_take, List.length_map] at this hl
    rw [if_pos (by omega)] at this
    simpa [List.getD_eq_getElem?_getD, List.getElem?_eq_getElem hi] using this
theorem Pk5.apart {w w' : World} {g h p : Nat} {y0 y1 y2 y3 y4 : Value} (x : Pk5 w p y0 y1 y2 y3 y4) (hb : Apart g h w w') (h1 : p ≠ g) (h2 : p ≠ h) : Pk5 w' p y0 y1 y2 y3 y4 :=
  ⟨hb.cell x.q0 h1 h2, hb.cell x.q1 h1 h2, hb.cell x.q2 h1 h2, hb.cell x.q3 h1 h2, hb.cell x.q4 h1 h2, fun j => by rw [hb.frozen (a := ⟨p, j, none⟩) (show p < w.heap.size from World.block_lt_of_cell? w ⟨p, 0, none⟩ x.q0) h1 h2]; exact x.zq j⟩
/-- An own slice that is not empty, as a block. -/
theorem own_row {B n : Nat} {w : World} {v : Value} {xs : List Nat} (h : Own B w v n xs) (h0 : 0 < n) : ∃ (g c : Nat), v = .slice (some ⟨g, 0, none⟩) n c ∧ Box (RowIs w g xs) ∧ n ≤ c ∧ B ≤ g := by
  have hc := h
  obtain ⟨_, hcase⟩ := h
  rcases hcase with ⟨rfl, h1⟩ | ⟨g, cap, cur, rfl, hg, hh, hnc, hcap, hsz, htake⟩
  · omega
  · exact ⟨g, cap, rfl, box (row_of_own hc), hnc, hg⟩
end Go.Proofs.YthfoakomapmkeaaDoor
