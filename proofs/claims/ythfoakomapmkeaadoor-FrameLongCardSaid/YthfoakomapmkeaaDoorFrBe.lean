/- FrameLong: its walk. -/
import Derived.Test.YthfoakomapmkeaaDoorFrBd
namespace Go.Proofs.YthfoakomapmkeaaDoor
open Go.RowKit

/-- A scanner behind a start symbol and i times the same data symbol. -/
def longS (d i : Nat) : Sc := if i ≤ 162 then ⟨true, List.replicate i d, 0⟩ else ⟨false, [], 1⟩
theorem syms_data : ∀ i < 16, idx (syms.getD i 0) = i ∧ syms.getD i 0 < 256 ∧ syms.getD i 0 ≠ 49 ∧ syms.getD i 0 ≠ 50 := by decide +kernel
theorem longS_ok (d i : Nat) (hd : idx d < 16) (hd2 : d < 256) : (longS d i).Ok := by
  unfold longS
  split
  · refine ⟨fun y hy => ?_, by simpa using by assumption, fun h => (by cases h)⟩
    rw [List.eq_of_mem_replicate hy]; exact ⟨hd, hd2⟩
  · exact ⟨fun y hy => (by cases hy), (by show 0 ≤ 162; omega), fun _ => rfl⟩
theorem longS_step (d i : Nat) (hd : idx d < 16) (h49 : d ≠ 49) (h50 : d ≠ 50) : stepS (longS d i) d = longS d (i + 1) := by
  unfold longS stepS
  rw [if_neg h49]
  by_cases h : i ≤ 162
  · rw [if_pos h, if_neg (by simp), if_neg h50, if_pos hd]
    by_cases h1 : i < 162
    · rw [if_pos (by simpa using h1), if_pos (by omega)]
      simp [List.replicate_succ']
    · rw [if_neg (by simpa using h1), if_neg (by omega)]
  · rw [if_neg h, if_pos rfl, if_neg (by omega)]
theorem longS_zero (d : Nat) : stepS ⟨false, [], 0⟩ 49 = longS d 0 := by simp [stepS, longS]
theorem long_found (s : Sc) (d : Nat) (h50 : d ≠ 50) : foundS s d = none := by unfold foundS; rw [if_neg (fun h => h50 h.1)]
theorem long_bytes (d i m : Nat) (hi : idx d = i) : decTo (List.replicate m d) (m / 2) = List.replicate (m / 2) (16 * i + i) := by
  apply List.ext_getElem?
  intro j
  by_cases hj : j < m / 2
  · unfold decTo
    have e1 : (List.replicate m d).getD (2 * j) 0 = d := by simp [List.getD_eq_getElem?_getD, show 2 * j < m by omega]
    have e2 : (List.replicate m d).getD (2 * j + 1) 0 = d := by simp [List.getD_eq_getElem?_getD, show 2 * j + 1 < m by omega]
    rw [List.getElem?_map, List.getElem?_range hj, List.getElem?_replicate, if_pos hj]
    simp only [Option.map_some]
    rw [e1, e2, hi]
  · rw [List.getElem?_eq_none (by rw [decTo_length]; omega), List.getElem?_eq_none (by simp; omega)]
theorem long_good (d i m : Nat) (hi : idx d = i) (h16 : i < 16) : goodS (List.replicate m d) = false := by
  refine decide_eq_false (fun h => ?_)
  have h := h.2
  unfold bytesS at h
  rw [List.length_replicate, long_bytes d i m hi] at h
  have hlt : ∀ x ∈ List.replicate (m / 2) (16 * i + i), x < 256 := fun x hx => by rw [List.eq_of_mem_replicate hx]; omega
  obtain ⟨hok, h17, _⟩ := bytes_dec hlt h
  rw [List.length_replicate] at h17
  have e0 : (List.replicate (m / 2) (16 * i + i)).getD 0 0 = 16 * i + i := by simp [List.getD_eq_getElem?_getD, show 0 < m / 2 by omega]
  have e1 : (List.replicate (m / 2) (16 * i + i)).getD 1 0 = 16 * i + i := by simp [List.getD_eq_getElem?_getD, show 1 < m / 2 by omega]
  rw [e0, e1] at hok
  obtain ⟨k0, _, c4, _⟩ := of_decide_eq_true hok
  omega
theorem longS_stop (d i m : Nat) (hi : idx d = i) (h16 : i < 16) : stepS (longS d m) 50 = ⟨false, [], 1⟩ ∧ foundS (longS d m) 50 = none := by
  unfold longS
  by_cases h : m ≤ 162
  · rw [if_pos h]
    unfold stepS foundS
    simp only [long_good d i m hi h16]
    simp
  · rw [if_neg h]
    unfold stepS foundS
    simp

theorem push_none (g h : Nat) (s : Sc) (hs : s.Ok) (hb : s.bad < 1000000) (y : Nat) (hy : y < 256) (s2 : Sc) (h2 : stepS s y = s2) (hf : foundS s y = none) (w : World) (x : ScAt w g h s) (hT : Crc.HasTab w) (hT2 : HasTab w) :
    Calls Tryd.prog 26 #[.pointer (some ⟨g, 0, none⟩), nU8 y] w fun e w' => e = .returned (.tuple #[pk0, .bool false]) ∧ ScAt w' g h s2 ∧ Apart g h w w' := by
  refine (push_any g h s hs hb y hy w x hT hT2).mono ?_
  rintro e w' ⟨h1, h3, h4⟩
  rw [hf] at h4
  exact ⟨h4, by rw [← h2]; exact h3, h1⟩

set_option maxRecDepth 100000 in
set_option maxHeartbeats 8000000 in
theorem long_walk (n nib : Nat) (hn : n < 256) (hnib : nib < 256) (w : World) (hT : Crc.HasTab w) (hT2 : HasTab w) :
    Calls Tryd.prog 12 #[nU8 n, nU8 nib] w fun e w' => e = .returned (.bool true) ∧ Below w.heap.size w w' := by
  have HT := box hT
  have HT2 := box hT2
  clear hT hT2
  go_enter Tryd.func12, Tryd.ntmps12
  go_wp2_with fail
  refine (awake_any _ HT.out HT2.out).mono ?_
  rintro e w1 ⟨rfl, k⟩
  have S0 := box (control_ok 0 (by omega) w1 (HT2.out.below k))
  have S1 := box (control_ok 1 (by omega) w1 (HT2.out.below k))
  go_wp2_with fail
  refine S0.out.mono ?_
  rintro e w2 ⟨rfl, rfl⟩
  go_wp2_with fail
  refine S1.out.mono ?_
  rintro e w2 ⟨rfl, rfl⟩
  obtain ⟨i, hi⟩ : ∃ i, nib % 16 = i := ⟨_, rfl⟩
  have h16 : i < 16 := by omega
  have ei : (nib : Int) % 16 = (i : Int) := by omega
  have ei2 : Int.tmod (nib : Int) 16 = (i : Int) := by rw [Int.tmod_eq_emod_of_nonneg (by omega)]; exact ei
  have SD := data_ok i h16 w1 (HT2.out.below k)
  obtain ⟨hdx, hd256, hd49, hd50⟩ := syms_data i h16
  generalize syms.getD i 0 = d at SD hdx hd256 hd49 hd50
  have SDB := box SD
  clear SD S0 S1 hi
  go_wp2_with fail
  refine SDB.out.mono ?_
  rintro e w2 ⟨rfl, rfl⟩
  clear SDB ei ei2
  go_wp2_with fail
  refine (new_any w1).mono ?_
  rintro e w2 ⟨rfl, hb, x2⟩
  have LG : w.heap.size ≤ w1.heap.size + 1 := Nat.le_succ_of_le k.size
  have LH : w.heap.size ≤ w1.heap.size := k.size
  replace k := k.trans (hb.mono k.size)
  clear hb
  obtain ⟨g, hg⟩ : ∃ g, w1.heap.size + 1 = g := ⟨_, rfl⟩
  obtain ⟨h, hh⟩ : ∃ h, w1.heap.size = h := ⟨_, rfl⟩
  rw [hg, hh] at x2
  rw [hg] at LG
  rw [hh] at LH
  rw [hg]
  have X := box x2
  clear hg hh x2
  go_wp2_with fail
  refine (push_none g h ⟨false, [], 0⟩ ⟨fun y hy => (by cases hy), (by show 0 ≤ 162; omega), fun _ => rfl⟩ (by show 0 < 1000000; omega) 49 (by omega) (longS d 0) (longS_zero d) (long_found _ _ (by omega)) w2 X.out (HT.out.below k) (HT2.out.below k)).mono ?_
  rintro e w3 ⟨rfl, x3, ap⟩
  replace k := ap.below k k.size LG LH
  clear X ap
  have hb := (Below.refl w3.heap.size w3).alloc (Nat.le_refl _) (.cells #[.int .u8 0, .int .i64 0, .int .i64 0, .int .i64 0, .slice none 0 0] 24)
  replace k := k.trans (hb.mono k.size)
  have X := box (x3.keep hb)
  clear hb x3
  obtain ⟨m, hm⟩ : ∃ m, n % 201 = m := ⟨_, rfl⟩
  have hm200 : m ≤ 200 := by omega
  have em : (n : Int) % 201 = (m : Int) := by omega
  have em2 : Int.tmod (n : Int) 201 = (m : Int) := by rw [Int.tmod_eq_emod_of_nonneg (by omega)]; exact em
  clear hm
  go_wp2_with fail
  go_loopw [55] (fun t55 wr => ∃ j : Nat, j ≤ m ∧ t55 = .int .i64 j ∧ Box (ScAt wr g h (longS d j)) ∧ Below w.heap.size w wr) (fun t55 _ => m - (intOf t55).toNat)
  case atStart => exact ⟨0, by omega, rfl, X, k⟩
  case round =>
    obtain ⟨j, hj, rfl, hx, kr⟩ := hrel
    have hOK := box (longS_ok d j (by omega) hd256)
    have hB : (longS d j).bad < 1000000 := by unfold longS; split <;> (show _ < _; simp)
    by_cases hlt : j < m
    · have hz : (j : Int) < (m : Int) := by omega
      have PN := box (push_none g h (longS d j) hOK.out hB d hd256 (longS d (j + 1)) (longS_step d j (by omega) hd49 hd50) (long_found _ _ hd50) wr hx.out (HT.out.below kr) (HT2.out.below kr))
      clear hB
      go_wp2_with fail
      refine PN.out.mono ?_
      rintro e w4 ⟨rfl, x4, ap⟩
      have k4 := ap.below kr kr.size LG LH
      have hb := (Below.refl w4.heap.size w4).alloc (Nat.le_refl _) (.cells #[.int .u8 0, .int .i64 0, .int .i64 0, .int .i64 0, .slice none 0 0] 24)
      have k5 := k4.trans (hb.mono k4.size)
      have X5 := box (x4.keep hb)
      clear hb x4 ap k4 PN
      go_wp2_with fail
      change Calls _ _ _ (w4.alloc (.cells #[.int .u8 0, .int .i64 0, .int .i64 0, .int .i64 0, .slice none 0 0] 24)) _
      generalize w4.alloc (.cells #[.int .u8 0, .int .i64 0, .int .i64 0, .int .i64 0, .slice none 0 0] 24) = w5 at k5 X5 ⊢
      refine (push_nil d w5).mono ?_
      rintro e w6 ⟨rfl, hb6⟩
      have k6 := k5.trans (hb6.mono k5.size)
      have X6 := X5.out.keep hb6
      have hb := (Below.refl w6.heap.size w6).alloc (Nat.le_refl _) (.cells #[.int .u8 0, .int .i64 0, .int .i64 0, .int .i64 0, .slice none 0 0] 24)
      have k7 := k6.trans (hb.mono k6.size)
      have X7 := box (X6.keep hb)
      clear hb X6 X5 hb6 k5 k6
      by_cases h162 : 162 ≤ j
      · have d1 : decide ((162 : Int) ≤ (j : Int)) = true := decide_eq_true (by omega)
        have hbad : (longS d (j + 1)).bad = 1 := by unfold longS; rw [if_neg (by omega)]
        go_wp2_with fail
        change Calls _ _ _ (w6.alloc (.cells #[.int .u8 0, .int .i64 0, .int .i64 0, .int .i64 0, .slice none 0 0] 24)) _
        generalize w6.alloc (.cells #[.int .u8 0, .int .i64 0, .int .i64 0, .int .i64 0, .slice none 0 0] 24) = w7 at k7 X7 ⊢
        refine (bad_any g h _ w7 X7.out).mono ?_
        rintro e w8 ⟨rfl, rfl⟩
        rw [hbad]
        go_wp2_with fail
        refine (bad_nil w7).mono ?_
        rintro e w8 ⟨rfl, rfl⟩
        go_wp2_with fail
        go_roundw
        case rel => exact ⟨j + 1, by omega, by go_num, X7, k7⟩
        case measure => simp [intOf]; omega
      · have d1 : decide ((162 : Int) ≤ (j : Int)) = false := decide_eq_false (by omega)
        have hbad : (longS d (j + 1)).bad = 0 := by unfold longS; rw [if_pos (by omega)]
        go_wp2_with fail
        change Calls _ _ _ (w6.alloc (.cells #[.int .u8 0, .int .i64 0, .int .i64 0, .int .i64 0, .slice none 0 0] 24)) _
        generalize w6.alloc (.cells #[.int .u8 0, .int .i64 0, .int .i64 0, .int .i64 0, .slice none 0 0] 24) = w7 at k7 X7 ⊢
        refine (bad_any g h _ w7 X7.out).mono ?_
        rintro e w8 ⟨rfl, rfl⟩
        rw [hbad]
        go_wp2_with fail
        refine (bad_nil w7).mono ?_
        rintro e w8 ⟨rfl, rfl⟩
        go_wp2_with fail
        go_roundw
        case rel => exact ⟨j + 1, by omega, by go_num, X7, k7⟩
        case measure => simp [intOf]; omega
    · have hz : ¬ ((j : Int) < (m : Int)) := by omega
      obtain ⟨hst, hfo⟩ := longS_stop d i j hdx h16
      have PN := box (push_none g h (longS d j) hOK.out hB 50 (by omega) ⟨false, [], 1⟩ hst hfo wr hx.out (HT.out.below kr) (HT2.out.below kr))
      clear hst hfo hB
      go_wp2_with fail
      refine PN.out.mono ?_
      rintro e w4 ⟨rfl, x4, ap⟩
      have k4 := ap.below kr kr.size LG LH
      have hb := (Below.refl w4.heap.size w4).alloc (Nat.le_refl _) (.cells #[.int .u8 0, .int .i64 0, .int .i64 0, .int .i64 0, .slice none 0 0] 24)
      have k5 := k4.trans (hb.mono k4.size)
      have X5 := box (x4.keep hb)
      clear hb x4 ap k4 PN
      go_wp2_with fail
      change Calls _ _ _ (w4.alloc (.cells #[.int .u8 0, .int .i64 0, .int .i64 0, .int .i64 0, .slice none 0 0] 24)) _
      generalize w4.alloc (.cells #[.int .u8 0, .int .i64 0, .int .i64 0, .int .i64 0, .slice none 0 0] 24) = w5 at k5 X5 ⊢
      refine (bad_any g h _ w5 X5.out).mono ?_
      rintro e w8 ⟨rfl, rfl⟩
      go_wp2_with fail
      go_ret
      exact ⟨by simp, k5⟩
end Go.Proofs.YthfoakomapmkeaaDoor
