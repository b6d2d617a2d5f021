/- frame.Valid, appendNumber and Encode: their contracts. -/
import Derived.Test.YthfoakomapmkeaaDoorFrD
import Derived.Test.YthfoakomapmkeaaDoorCrcP
namespace Go.Proofs.YthfoakomapmkeaaDoor
open Go.RowKit

set_option maxRecDepth 100000 in
set_option maxHeartbeats 8000000 in
theorem fvalid_any (k : Nat) (c n v : Int) (a : Option Addr) (l cap : Nat) (r : Bool) (hr : okP k c n v l = r) (w : World) :
    Calls Tryd.prog 18 #[pkV k c n v a l cap] w fun e w' => e = .returned (.bool r) ∧ Below w.heap.size w w' := by
  unfold okP at hr
  by_cases h0 : k = 0
  · obtain rfl : r = false := by rw [← hr]; first | exact decide_eq_true (by omega) | exact decide_eq_false (by omega)
    have d0 : ((k : Int) != 0) = false := by simp [h0]
    clear hr h0
    go_enter Tryd.func18, Tryd.ntmps18
    go_wp2_with fail
    go_ret
    exact ⟨rfl, (Below.refl _ _).alloc (Nat.le_refl _) _⟩
  by_cases h1 : ¬ (0 ≤ c)
  · obtain rfl : r = false := by rw [← hr]; first | exact decide_eq_true (by omega) | exact decide_eq_false (by omega)
    have d0 : ((k : Int) != 0) = true := by simp; omega
    have d1 : decide (0 ≤ c) = false := decide_eq_false (by omega)
    clear hr h0 h1
    go_enter Tryd.func18, Tryd.ntmps18
    go_wp2_with fail
    go_ret
    exact ⟨rfl, (Below.refl _ _).alloc (Nat.le_refl _) _⟩
  by_cases h2 : ¬ (c < 4)
  · obtain rfl : r = false := by rw [← hr]; first | exact decide_eq_true (by omega) | exact decide_eq_false (by omega)
    have d0 : ((k : Int) != 0) = true := by simp; omega
    have d1 : decide (0 ≤ c) = true := decide_eq_true (by omega)
    have d2 : decide (c < 4) = false := decide_eq_false (by omega)
    clear hr h0 h1 h2
    go_enter Tryd.func18, Tryd.ntmps18
    go_wp2_with fail
    go_ret
    exact ⟨rfl, (Below.refl _ _).alloc (Nat.le_refl _) _⟩
  by_cases h3 : ¬ (0 ≤ n)
  · obtain rfl : r = false := by rw [← hr]; first | exact decide_eq_true (by omega) | exact decide_eq_false (by omega)
    have d0 : ((k : Int) != 0) = true := by simp; omega
    have d1 : decide (0 ≤ c) = true := decide_eq_true (by omega)
    have d2 : decide (c < 4) = true := decide_eq_true (by omega)
    have d3 : decide (0 ≤ n) = false := decide_eq_false (by omega)
    clear hr h0 h1 h2 h3
    go_enter Tryd.func18, Tryd.ntmps18
    go_wp2_with fail
    go_ret
    exact ⟨rfl, (Below.refl _ _).alloc (Nat.le_refl _) _⟩
  by_cases h4 : ¬ (n < 1099511627776)
  · obtain rfl : r = false := by rw [← hr]; first | exact decide_eq_true (by omega) | exact decide_eq_false (by omega)
    have d0 : ((k : Int) != 0) = true := by simp; omega
    have d1 : decide (0 ≤ c) = true := decide_eq_true (by omega)
    have d2 : decide (c < 4) = true := decide_eq_true (by omega)
    have d3 : decide (0 ≤ n) = true := decide_eq_true (by omega)
    have d4 : decide (n < 1099511627776) = false := decide_eq_false (by omega)
    clear hr h0 h1 h2 h3 h4
    go_enter Tryd.func18, Tryd.ntmps18
    go_wp2_with fail
    go_ret
    exact ⟨rfl, (Below.refl _ _).alloc (Nat.le_refl _) _⟩
  by_cases h5 : ¬ (0 ≤ v)
  · obtain rfl : r = false := by rw [← hr]; first | exact decide_eq_true (by omega) | exact decide_eq_false (by omega)
    have d0 : ((k : Int) != 0) = true := by simp; omega
    have d1 : decide (0 ≤ c) = true := decide_eq_true (by omega)
    have d2 : decide (c < 4) = true := decide_eq_true (by omega)
    have d3 : decide (0 ≤ n) = true := decide_eq_true (by omega)
    have d4 : decide (n < 1099511627776) = true := decide_eq_true (by omega)
    have d5 : decide (0 ≤ v) = false := decide_eq_false (by omega)
    clear hr h0 h1 h2 h3 h4 h5
    go_enter Tryd.func18, Tryd.ntmps18
    go_wp2_with fail
    go_ret
    exact ⟨rfl, (Below.refl _ _).alloc (Nat.le_refl _) _⟩
  by_cases h6 : ¬ (v < 1099511627776)
  · obtain rfl : r = false := by rw [← hr]; first | exact decide_eq_true (by omega) | exact decide_eq_false (by omega)
    have d0 : ((k : Int) != 0) = true := by simp; omega
    have d1 : decide (0 ≤ c) = true := decide_eq_true (by omega)
    have d2 : decide (c < 4) = true := decide_eq_true (by omega)
    have d3 : decide (0 ≤ n) = true := decide_eq_true (by omega)
    have d4 : decide (n < 1099511627776) = true := decide_eq_true (by omega)
    have d5 : decide (0 ≤ v) = true := decide_eq_true (by omega)
    have d6 : decide (v < 1099511627776) = false := decide_eq_false (by omega)
    clear hr h0 h1 h2 h3 h4 h5 h6
    go_enter Tryd.func18, Tryd.ntmps18
    go_wp2_with fail
    go_ret
    exact ⟨rfl, (Below.refl _ _).alloc (Nat.le_refl _) _⟩
  by_cases h7 : ¬ (l ≤ 64)
  · obtain rfl : r = false := by rw [← hr]; first | exact decide_eq_true (by omega) | exact decide_eq_false (by omega)
    have d0 : ((k : Int) != 0) = true := by simp; omega
    have d1 : decide (0 ≤ c) = true := decide_eq_true (by omega)
    have d2 : decide (c < 4) = true := decide_eq_true (by omega)
    have d3 : decide (0 ≤ n) = true := decide_eq_true (by omega)
    have d4 : decide (n < 1099511627776) = true := decide_eq_true (by omega)
    have d5 : decide (0 ≤ v) = true := decide_eq_true (by omega)
    have d6 : decide (v < 1099511627776) = true := decide_eq_true (by omega)
    have d7 : decide ((l : Int) ≤ 64) = false := decide_eq_false (by omega)
    clear hr h0 h1 h2 h3 h4 h5 h6 h7
    go_enter Tryd.func18, Tryd.ntmps18
    go_wp2_with fail
    go_ret
    exact ⟨rfl, (Below.refl _ _).alloc (Nat.le_refl _) _⟩
  obtain rfl : r = true := by rw [← hr]; first | exact decide_eq_true (by omega) | exact decide_eq_false (by omega)
  have d0 : ((k : Int) != 0) = true := by simp; omega
  have d1 : decide (0 ≤ c) = true := decide_eq_true (by omega)
  have d2 : decide (c < 4) = true := decide_eq_true (by omega)
  have d3 : decide (0 ≤ n) = true := decide_eq_true (by omega)
  have d4 : decide (n < 1099511627776) = true := decide_eq_true (by omega)
  have d5 : decide (0 ≤ v) = true := decide_eq_true (by omega)
  have d6 : decide (v < 1099511627776) = true := decide_eq_true (by omega)
  have d7 : decide ((l : Int) ≤ 64) = true := decide_eq_true (by omega)
  clear hr h0 h1 h2 h3 h4 h5 h6 h7
  go_enter Tryd.func18, Tryd.ntmps18
  go_wp2_with fail
  go_ret
  exact ⟨rfl, (Below.refl _ _).alloc (Nat.le_refl _) _⟩

/-- Appending the five bytes of a number. -/
theorem appnum_any (n m : Nat) (v : Value) (xs : List Nat) (B : Nat) (w0 w : World) (ho : Own B w v m xs) (hb : Below B w0 w) (hs : B ≤ w.heap.size) (hm : m ≤ 1000) :
    Calls Tryd.prog 37 #[v, .int .i64 n] w fun e w' => ∃ v', e = .returned v' ∧ Own B w' v' (m + 5) (xs ++ five n) ∧ Below B w0 w' ∧ B ≤ w'.heap.size := by
  have HO := box ho
  clear ho
  go_enter Tryd.func37, Tryd.ntmps37
  go_wp2_with fail
  go_loopw [0, 6] (fun t0 t6 wr => ∃ r : Nat, r ≤ 5 ∧ t6 = .int .i64 (r : Int) ∧ Box (Own B wr t0 (m + r) (xs ++ fiveTo n r)) ∧ Below B w0 wr ∧ B ≤ wr.heap.size) (fun _ t6 _ => 5 - (intOf t6).toNat)
  case atStart => exact ⟨0, by omega, rfl, box (by simpa [fiveTo] using HO.out), hb, hs⟩
  case round =>
    obtain ⟨r, hr, rfl, hown, kb, ks⟩ := hrel
    by_cases hlt : r < 5
    · have HE := box (fiveTo_succ n r)
      obtain ⟨s, hs4⟩ : ∃ s, 4 - r = s := ⟨_, rfl⟩
      rw [hs4] at HE
      have e4 : (4 : Int) - (r : Int) = (s : Int) := by omega
      obtain ⟨y, hy⟩ : ∃ y, n / 2 ^ (8 * s) = y := ⟨_, rfl⟩
      have ey : (n : Int) / 2 ^ (8 * s) = (y : Int) := by rw [← hy]; push_cast; rfl
      have e8 : (8 * (s : Int)).toNat = 8 * s := by omega
      rw [hy] at HE
      clear hy
      have e2 : (y : Int) % 256 = ((y % 256 : Nat) : Int) := by omega
      generalize y % 256 = z at e2 HE
      go_wp2_with (at_builtin; refine wpList_append_new (o := ⟨some 17, _, _, _, _, _⟩) rfl (.tmp 9) (.tmp 16) rfl B _ _ _ rfl hown.out [z] 1 rfl (0, 0) rfl (by omega) w0 kb ks ?_; intro v3 w3 ho3 hb3 hs3)
      go_roundw
      case rel => exact ⟨r + 1, by omega, by go_num, box (by rw [HE.out, ← List.append_assoc]; exact ho3.out), hb3, hs3⟩
      case measure => simp [intOf]; omega
    · obtain rfl : r = 5 := by omega
      go_wp2_with fail
      go_ret
      exact ⟨_, rfl, hown.out, kb, ks⟩

set_option maxRecDepth 100000 in
set_option maxHeartbeats 8000000 in
theorem fencode_pk (k c n v : Nat) (a : Option Addr) (l cap : Nat) (pay : List Nat) (hl : pay.length = l) (hk : k < 256) (hok : okP k c n v l = true) (hp : ∀ x ∈ pay, x < 256) (hnil : a = none → cap = 0) (w : World) (hin : In w a pay) (hT : Crc.HasTab w) :
    Calls Tryd.prog 16 #[pkV k c n v a l cap] w fun e w' => ∃ u, e = .returned (.tuple #[u, .int .i64 0]) ∧ Own w.heap.size w' u (17 + l) (bytesP k c n v pay) ∧ Below w.heap.size w w' := by
  have HP := box hp
  have HI := box hin
  have HNIL := box hnil
  have HT := box hT
  have VA := fun w => box (fvalid_any k c n v a l cap true hok w)
  obtain ⟨hk0, _, hc4', _, _, _, _, hl64⟩ := of_decide_eq_true hok
  have hc4 : c < 4 := by omega
  clear hp hin hnil hT hok hc4' hk0
  obtain ⟨i0, hi, hz0, hz1, hz2⟩ := info_parts Tryd.infoU8
  have c256 : (c : Int) % 256 = (c : Int) := by omega
  have l256 : (l : Int) % 256 = (l : Int) := by omega
  go_enter Tryd.func16, Tryd.ntmps16
  go_wp2_with fail
  have f0 := World.cell?_alloc_mark w (pkC k c n v a l cap) 24 (0, 0) 0
  have f1 := World.cell?_alloc_mark w (pkC k c n v a l cap) 24 (0, 0) 1
  have f2 := World.cell?_alloc_mark w (pkC k c n v a l cap) 24 (0, 0) 2
  have f3 := World.cell?_alloc_mark w (pkC k c n v a l cap) 24 (0, 0) 3
  have f4 := World.cell?_alloc_mark w (pkC k c n v a l cap) 24 (0, 0) 4
  have kw0 : Below w.heap.size w (w.alloc (.cells (pkC k c n v a l cap) 24)) := (Below.refl _ _).alloc (Nat.le_refl _) _
  refine (VA _).out.mono ?_
  rintro e w1 ⟨rfl, hbv⟩
  have kw := kw0.trans (hbv.mono kw0.size)
  replace f0 := keepc hbv f0
  replace f1 := keepc hbv f1
  replace f2 := keepc hbv f2
  replace f3 := keepc hbv f3
  replace f4 := keepc hbv f4
  clear hbv kw0 VA
  have hmk := run_make (P := Tryd.prog) w1 22 5 i0 (.int .u8 0) Tryd.underlying22 hi hz0 .i64 .i64 0 (13 + (l : Int)) (by omega) (by omega) (by rw [hz2]; omega) (by omega)
  rw [hz1] at hmk
  have kt : (13 + (l : Int)).toNat * 1 = 13 + l := by omega
  have kt' : (13 + (l : Int)).toNat = 13 + l := by omega
  rw [kt, kt'] at hmk
  clear kt kt'
  replace hmk := hmk.trans (show _ = .ok (.slice (some ⟨w1.heap.size, 0, none⟩) 0 (13 + l)) (w1.alloc (.cells (madeCells #[Value.int .u8 0] (13 + l)) 5)) from rfl)
  have kb2 : Below w1.heap.size w1 (w1.alloc (.cells (madeCells #[Value.int .u8 0] (13 + l)) 5)) := (Below.refl _ _).alloc (Nat.le_refl _) _
  have HO2 : Box (Own w1.heap.size (w1.alloc (.cells (madeCells #[Value.int .u8 0] (13 + l)) 5)) (.slice (some ⟨w1.heap.size, 0, none⟩) 0 (13 + l)) 0 []) := box (World.ownsRow_made w1 _ _ (Nat.le_refl _) (by unfold maxLen; omega) (by rw [size_madeCells]; omega))
  generalize w1.alloc (.cells (madeCells #[Value.int .u8 0] (13 + l)) 5) = w2 at hmk kb2 HO2
  replace f0 := keepc kb2 f0
  replace f1 := keepc kb2 f1
  have g2 := keepc kb2 f2
  have g3 := keepc kb2 f3
  have g4 := keepc kb2 f4
  go_wp2_with (first | (at_builtin; refine wpList_append_new (o := ⟨some 20, _, _, _, _, _⟩) rfl (.tmp 13) (.tmp 19) rfl w1.heap.size _ 0 [] rfl HO2.out [k, c] 2 rfl (0, 0) rfl (by omega) w1 kb2 kb2.size ?_; intro v3 w3 ho3 hb3 hs3; replace g2 := keepc hb3 f2; replace g3 := keepc hb3 f3; replace g4 := keepc hb3 f4; clear f0 f1) | fail)
  refine (appnum_any n _ v3 _ w1.heap.size w1 w3 ho3.out hb3 hs3 (by omega)).mono ?_
  rintro e w4 ⟨v4, rfl, ho4, hb4, hs4⟩
  have HO4 := box ho4
  replace g3 := keepc hb4 f3
  replace g4 := keepc hb4 f4
  clear ho3 hb3 hs3 ho4 g2 HO2 hmk kb2
  go_wp2_with fail
  refine (appnum_any v _ v4 _ w1.heap.size w1 w4 HO4.out hb4 hs4 (by omega)).mono ?_
  rintro e w6 ⟨v6, rfl, ho6, hb6, hs6⟩
  have HO6 := box (show Own w1.heap.size w6 v6 (2 + 5 + 5) ([k, c] ++ five n ++ five v) from by simpa using ho6)
  replace g4 := keepc hb6 f4
  clear hb4 hs4 g3 HO4 ho6
  go_wp2_with (first | (at_builtin; refine wpList_append_new (o := ⟨some 35, _, _, _, _, _⟩) rfl (.tmp 29) (.tmp 34) rfl w1.heap.size v6 (2 + 5 + 5) ([k, c] ++ five n ++ five v) rfl HO6.out [l] 1 rfl (0, 0) rfl (by omega) w1 hb6 hs6 ?_; intro v7 w7 ho7 hb7 hs7; replace g4 := keepc hb7 f4) | (at_builtin; refine wpList_append_in (o := ⟨some 39, _, _, _, _, _⟩) rfl (.tmp 36) (.tmp 38) rfl w1.heap.size i0 hi hz0 hz1 hz2 v7 (2 + 5 + 5 + 1) (([k, c] ++ five n ++ five v ++ [l]).map nU8) rfl ho7.out a l cap pay rfl hl (HI.out.below (kw.trans (hb7.mono kw.size))) HNIL.out (by omega) w1.heap.size w1 (Nat.le_refl _) hb7 hs7 ?_; intro v8 w8 ho8 hb8 hs8; obtain ⟨a8, c8, rfl, hi8, hn8, hc8⟩ := own_form (n := 13 + l) (xs := bodyP k c n v pay) (by rw [bodyP_length, hl]) (by have h := ho8.out; rw [← List.map_append] at h; rw [show 13 + l = 2 + 5 + 5 + 1 + l by omega]; unfold bodyP; rw [hl]; exact h); have HI8 := box hi8; clear ho7 ho8 hi8 hn8) | fail)
  have hbl : (bodyP k c n v pay).length = 13 + l := by rw [bodyP_length, hl]
  have hblt := bodyP_lt (k := k) (c := c) (n := n) (v := v) (pay := pay) hk (by omega) HP.out (by omega)
  have kw8 := kw.trans (hb8.mono kw.size)
  refine (Crc.append_any a8 (13 + l) c8 (bodyP k c n v pay) hbl hblt (by omega) w8 HI8.out (HT.out.below kw8)).mono ?_
  rintro e w9 ⟨u, rfl, ho9, hb9⟩
  have HO9 : Box (Own w8.heap.size w9 u (17 + l) (bytesP k c n v pay)) := box (by
    have h : w9.ownsRow w8.heap.size 5 1 u (bytesP k c n v pay).length ((bytesP k c n v pay).map nU8) := ho9
    rw [bytesP_length, hl] at h
    exact h)
  clear ho9
  go_wp2_with fail
  refine bodyPost_ret (v := .tuple #[u, .int .i64 0]) (by simp [results, Tryd.results16, go_sem]) rfl ⟨u, rfl, own_mono HO9.out kw8.size, kw8.trans (hb9.mono kw8.size)⟩

set_option maxRecDepth 100000 in
set_option maxHeartbeats 8000000 in
theorem fencode_bad (k : Nat) (c n v : Int) (a : Option Addr) (l cap : Nat) (hok : okP k c n v l = false) (w : World) :
    Calls Tryd.prog 16 #[pkV k c n v a l cap] w fun e w' => e = .returned (.tuple #[.slice none 0 0, .int .i64 1]) ∧ Below w.heap.size w w' := by
  have VA := fun w => box (fvalid_any k c n v a l cap false hok w)
  clear hok
  go_enter Tryd.func16, Tryd.ntmps16
  go_wp2_with fail
  have kw0 : Below w.heap.size w (w.alloc (.cells (pkC k c n v a l cap) 24)) := (Below.refl _ _).alloc (Nat.le_refl _) _
  refine (VA _).out.mono ?_
  rintro e w1 ⟨rfl, hbv⟩
  go_wp2_with fail
  refine bodyPost_ret (v := .tuple #[.slice none 0 0, .int .i64 1]) (by simp [results, Tryd.results16, go_sem]) rfl ⟨rfl, kw0.trans (hbv.mono kw0.size)⟩
end Go.Proofs.YthfoakomapmkeaaDoor
