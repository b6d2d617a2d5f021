/- The reference's Encode and Symbols: their contracts. -/
import Derived.Test.YthfoakomapmkeaaDoorFrB
import Derived.Test.YthfoakomapmkeaaDoorCrcR
namespace Go.Proofs.YthfoakomapmkeaaDoor
open Go.RowKit

theorem own_lit (w : World) (B n : Nat) (xs : List Nat) (hn : xs.length = n) (hB : B ≤ w.heap.size) (hb : n ≤ 10000) (g : Nat) (hg : g = w.heap.size) : Own B (w.alloc (.cells (xs.map nU8).toArray 5)) (.slice (some ⟨g, 0, none⟩) n n) n xs := by
  subst hg
  refine ⟨by simp [hn], .inr ⟨w.heap.size, n, (xs.map nU8).toArray, rfl, hB, heap_alloc_new w _, Nat.le_refl _, by unfold maxLen; omega, by simp [hn], ?_⟩⟩
  rw [← hn, Nat.mul_one, List.take_of_length_le (by simp)]

theorem le4_take (s j : Nat) (hj : j < 4) : (Crc.le4 s).take (j + 1) = (Crc.le4 s).take j ++ [s / 2 ^ (8 * j) % 256] := by
  rcases (by omega : j = 0 ∨ j = 1 ∨ j = 2 ∨ j = 3) with rfl | rfl | rfl | rfl <;> simp [Crc.le4]

set_option maxRecDepth 100000 in
set_option maxHeartbeats 8000000 in
theorem rencode_pk (k c n v : Nat) (a : Option Addr) (l cap : Nat) (pay : List Nat) (hl : pay.length = l) (hk : k < 256) (hc4 : c < 4) (hl64 : l ≤ 64) (hp : ∀ x ∈ pay, x < 256) (hnil : a = none → cap = 0) (w : World) (hin : In w a pay) :
    Calls Tryd.prog 20 #[pkV k c n v a l cap] w fun e w' => ∃ u, e = .returned u ∧ Own w.heap.size w' u (17 + l) (bytesP k c n v pay) ∧ Below w.heap.size w w' := by
  have HP := box hp
  have HI := box hin
  have HNIL := box hnil
  clear hp hin hnil
  obtain ⟨i0, hi, hz0, hz1, hz2⟩ := info_parts Tryd.infoU8
  have c256 : (c : Int) % 256 = (c : Int) := by omega
  have l256 : (l : Int) % 256 = (l : Int) := by omega
  go_enter Tryd.func20, Tryd.ntmps20
  go_wp2_with fail
  have f2 := World.cell?_alloc_mark w (pkC k c n v a l cap) 24 (0, 0) 2
  have f3 := World.cell?_alloc_mark w (pkC k c n v a l cap) 24 (0, 0) 3
  have f4 := World.cell?_alloc_mark w (pkC k c n v a l cap) 24 (0, 0) 4
  have kw : Below w.heap.size w (w.alloc (.cells (pkC k c n v a l cap) 24)) := (Below.refl _ _).alloc (Nat.le_refl _) _
  have ks : (w.alloc (.cells (pkC k c n v a l cap) 24)).heap.size = w.heap.size + 1 := by show (w.heap.push _).size = _; rw [Array.size_push]
  generalize w.alloc (.cells (pkC k c n v a l cap) 24) = w1 at f2 f3 f4 kw ks ⊢
  have KS := box ks
  have HO2 := box (own_lit w1 w1.heap.size 2 [k, c] rfl (Nat.le_refl _) (by omega) (w.heap.size + 1) ks.symm)
  have kb2 : Below w1.heap.size w1 (w1.alloc (.cells ([k, c].map nU8).toArray 5)) := (Below.refl _ _).alloc (Nat.le_refl _) _
  refine (five_any n _).mono ?_
  rintro e w3 ⟨u, rfl, hown, hb⟩
  obtain ⟨fa, fc, rfl, hin, hnil, _⟩ := own_form (five_length n) hown
  have HF3 := box hin
  have HN3 := box hnil
  have HO3 := box (own_later HO2.out hb)
  have kb3 := kb2.trans (hb.mono kb2.size)
  have g3 := keepc kb3 f3
  clear hown hin hnil hb HO2 kb2 ks
  go_wp2_with (first | (at_builtin; refine wpList_append_in (o := ⟨some 16, _, _, _, _, _⟩) rfl (.tmp 12) (.tmp 15) rfl w1.heap.size i0 hi hz0 hz1 hz2 (.slice (some ⟨w.heap.size + 1, 0, none⟩) 2 2) 2 ([k, c].map nU8) rfl HO3.out fa 5 fc (five n) rfl (five_length n) HF3.out HN3.out (by omega) w1.heap.size w1 (Nat.le_refl _) kb3 kb3.size ?_; intro v4 w4 ho4 hb4 hs4; have g4 := keepc hb4 f3) | fail)
  refine (five_any v _).mono ?_
  rintro e w5 ⟨u, rfl, hown, hb⟩
  obtain ⟨ga, gc, rfl, hin, hnil, _⟩ := own_form (five_length v) hown
  have HF5 := box hin
  have HN5 := box hnil
  have HO5 := box (own_later (xs := [k, c] ++ five n) (n := 2 + 5) (v := v4) (B := w1.heap.size) (by have h := ho4.out; rw [← List.map_append] at h; exact h) hb)
  have kb5 := hb4.trans (hb.mono hs4)
  have g5 := keepc kb5 f4
  clear hown hin hnil hb ho4 hb4 hs4 g4 g3 HF3 HN3 HO3
  go_wp2_with (first | (at_builtin; refine wpList_append_in (o := ⟨some 21, _, _, _, _, _⟩) rfl (.tmp 17) (.tmp 20) rfl w1.heap.size i0 hi hz0 hz1 hz2 v4 (2 + 5) (([k, c] ++ five n).map nU8) rfl HO5.out ga 5 gc (five v) rfl (five_length v) HF5.out HN5.out (by omega) w1.heap.size w1 (Nat.le_refl _) kb5 kb5.size ?_; intro v6 w6 ho6 hb6 hs6; have g6 := keepc hb6 f4; have HO6 := box (show Own w1.heap.size w6 v6 (2 + 5 + 5) ([k, c] ++ five n ++ five v) from by have h := ho6.out; rw [← List.map_append] at h; exact h)) | (at_builtin; refine wpList_append_new (o := ⟨some 28, _, _, _, _, _⟩) rfl (.tmp 22) (.tmp 27) rfl w1.heap.size v6 (2 + 5 + 5) ([k, c] ++ five n ++ five v) rfl HO6.out [l] 1 rfl (0, 0) rfl (by omega) w1 hb6 hs6 ?_; intro v7 w7 ho7 hb7 hs7; have g7 := keepc hb7 f4) | (at_builtin; refine wpList_append_in (o := ⟨some 32, _, _, _, _, _⟩) rfl (.tmp 29) (.tmp 31) rfl w1.heap.size i0 hi hz0 hz1 hz2 v7 (2 + 5 + 5 + 1) (([k, c] ++ five n ++ five v ++ [l]).map nU8) rfl ho7.out a l cap pay rfl hl (HI.out.below (kw.trans (hb7.mono kw.size))) HNIL.out (by omega) w1.heap.size w1 (Nat.le_refl _) hb7 hs7 ?_; intro v8 w8 ho8 hb8 hs8; obtain ⟨a8, c8, rfl, hi8, hn8, hc8⟩ := own_form (n := 13 + l) (xs := bodyP k c n v pay) (by rw [bodyP_length, hl]) (by have h := ho8.out; rw [← List.map_append] at h; rw [show 13 + l = 2 + 5 + 5 + 1 + l by omega]; unfold bodyP; rw [hl]; exact h); have HI8 := box hi8; have HO8 := box (show Own w1.heap.size w8 (.slice a8 (13 + l) c8) (13 + l) (bodyP k c n v pay) from by have h := ho8.out; rw [← List.map_append] at h; rw [show 13 + l = 2 + 5 + 5 + 1 + l by omega]; unfold bodyP; rw [hl]; exact h); clear ho6 ho7 ho8 hi8 hn8) | fail)
  have hbl : (bodyP k c n v pay).length = 13 + l := by rw [bodyP_length, hl]
  have hblt := bodyP_lt (k := k) (c := c) (n := n) (v := v) (pay := pay) hk (by omega) HP.out (by omega)
  have SU := box (Crc.rsum_any a8 (13 + l) c8 (bodyP k c n v pay) hbl hblt (by omega) w8 HI8.out)
  have HBY := box (show bytesP k c n v pay = bodyP k c n v pay ++ Crc.le4 (Crc.crc (bodyP k c n v pay)) from rfl)
  have hs : Crc.crc (bodyP k c n v pay) < 2 ^ 32 := Crc.crc_lt hblt
  generalize Crc.crc (bodyP k c n v pay) = s at SU HBY hs
  generalize bodyP k c n v pay = bs at HO8 HBY hbl
  clear HI8 HO5 HF5 HN5 g5 f2 f3 hblt
  refine SU.out.mono ?_
  rintro e w9 ⟨rfl, hw9⟩
  have hw9' := hw9.symm
  subst hw9'
  go_wp2_with fail
  go_loopw [3, 5] (fun t3 t5 wr => ∃ j : Nat, j ≤ 4 ∧ t5 = .int .i64 j ∧ Box (Own w1.heap.size wr t3 (13 + l + j) (bs ++ (Crc.le4 s).take j)) ∧ Below w1.heap.size w1 wr) (fun _ t5 _ => 4 - (intOf t5).toNat)
  case atStart => exact ⟨0, by omega, rfl, box (by simpa using HO8.out), hb8⟩
  case round =>
    obtain ⟨j, hj, rfl, hown, kb⟩ := hrel
    by_cases hlt : j < 4
    · have HE := box (le4_take s j hlt)
      obtain ⟨y, hy⟩ : ∃ y, s / 2 ^ (8 * j) = y := ⟨_, rfl⟩
      have ey : (s : Int) / 2 ^ (8 * j) = (y : Int) := by rw [← hy]; push_cast; rfl
      have e8 : (8 * (j : Int)).toNat = 8 * j := by omega
      rw [hy] at HE
      clear hy
      have e2 : (y : Int) % 256 = ((y % 256 : Nat) : Int) := by omega
      generalize y % 256 = z at e2 HE
      go_wp2_with (at_builtin; refine wpList_append_new (o := ⟨some 46, _, _, _, _, _⟩) rfl (.tmp 39) (.tmp 45) rfl w1.heap.size _ _ _ rfl hown.out [z] 1 rfl (0, 0) rfl (by omega) w1 kb kb.size ?_; intro v3 w3 ho3 hb3 hs3)
      go_roundw
      case rel => exact ⟨j + 1, by omega, by go_num, box (by rw [HE.out, ← List.append_assoc]; exact ho3.out), hb3⟩
      case measure => simp [intOf]; omega
    · obtain rfl : j = 4 := by omega
      go_wp2_with fail
      go_ret
      exact ⟨_, rfl, own_mono (by rw [HBY.out]; have h := hown.out; rw [show (Crc.le4 s).take 4 = Crc.le4 s from rfl] at h; rwa [show 17 + l = 13 + l + 4 by omega]) kw.size, kw.trans (kb.mono kw.size)⟩
end Go.Proofs.YthfoakomapmkeaaDoor
