/- The walk of LinecodeFlips. -/
import Derived.Test.YthjhgmcikfekmaaDoorLinP
namespace Go.Proofs.YthjhgmcikfekmaaDoor
open Go.RowKit

/-- Each symbol of an encoding is a data symbol. -/
theorem enc_sym {xs : List Nat} (hx : ∀ x ∈ xs, x < 256) (j : Nat) (hj : j < 2 * xs.length) : ∃ i < 16, (enc xs).getD j 0 = syms.getD i 0 := by
  have hl := enc_length xs
  have h := enc_ok hx j hj
  refine ⟨idx ((enc xs).getD j 0), h, (syms_of_idx ?_ h).symm⟩
  have : ∀ y ∈ enc xs, y < 256 := by
    intro y hy
    obtain ⟨x, hxm, hy⟩ := List.mem_flatMap.1 hy
    have h1 := hx x hxm
    have a := syms_lt (x / 16) (by omega)
    have b := syms_lt (x % 16) (by omega)
    simp only [List.mem_cons, List.not_mem_nil, or_false] at hy
    rcases hy with rfl | rfl <;> omega
  rw [List.getD_eq_getElem?_getD, List.getElem?_eq_getElem (by omega)]
  exact this _ (List.getElem_mem _)

/-- Decoding an encoding with an inverted bit. -/
theorem decode_flipped (a : Option Addr) (n c k : Nat) (xs : List Nat) (hn : xs.length = n) (hx : ∀ x ∈ xs, x < 256) (hbig : n ≤ 400) (hk : k < 12 * n) (w : World) (hc : In w a (flipS (enc xs) k)) (hT : HasTab w) :
    Calls Tryd.prog 19 #[.slice a (2 * n) c] w fun e w' => e = .returned (.tuple #[.slice none 0 0, .int .i64 ((k / 6 : Nat) : Int), .int .i64 3]) ∧ Below w.heap.size w w' := by
  have hl : (enc xs).length = 2 * n := by rw [enc_length, hn]
  have hq : k / 6 < (enc xs).length := by omega
  have hbad : idx ((flipS (enc xs) k).getD (k / 6) 0) = 20 := by
    rw [flipS_getD hq, if_pos rfl]
    obtain ⟨i, hi, e⟩ := enc_sym hx (k / 6) (by omega)
    rw [e]
    exact flip_bad i (by omega) _ (by omega)
  have hok : ∀ j < 2 * n, j ≠ k / 6 → idx ((flipS (enc xs) k).getD j 0) < 16 := by
    intro j hj hne
    rw [flipS_getD hq, if_neg hne]
    exact enc_ok hx j (by omega)
  refine (decode_any a (2 * n) c _ (by rw [flipS_length, hl]) (flipS_lt (enc_lt hx) hq) (by omega) w hc hT).mono fun e w' h => ?_
  obtain ⟨hb, h⟩ := h
  rcases h with ⟨i, h1, h2, h3, he⟩ | ⟨h2, _⟩ | ⟨h2, _⟩
  · have hik : i = k / 6 := by
      rcases Nat.lt_trichotomy i (k / 6) with h | h | h
      · exact absurd (hok i h1 (by omega)) (by omega)
      · exact h
      · exact absurd (h2 (k / 6) h) (by omega)
    exact ⟨by rw [he, hik], hb⟩
  · exact absurd (h2 (k / 6) (by omega)) (by omega)
  · exact absurd (h2 (k / 6) (by omega)) (by omega)

set_option maxRecDepth 100000 in
set_option maxHeartbeats 8000000 in
theorem flips_walk (a : Option Addr) (n c : Nat) (xs : List Nat) (k : Int) (hn : xs.length = n) (hx : ∀ x ∈ xs, x < 256) (k0 : -9223372036854775808 ≤ k) (k1 : k ≤ 9223372036854775807) (w : World) (hc : In w a xs) (hT : HasTab w) :
    Calls Tryd.prog 7 #[.slice a n c, .int .i64 k] w fun e w' => e = .returned (.bool true) ∧ Below w.heap.size w w' := by
  have HT := box hT
  have HX := box hx
  have HC := box hc
  clear hT hx hc
  by_cases hl : 100 < n
  · have hd : decide ((100 : Int) < (n : Int)) = true := decide_eq_true (by omega)
    go_enter Tryd.func7, Tryd.ntmps7
    go_wp2_with fail
    refine (awake_any _ HT.out).mono ?_
    rintro e w1 ⟨rfl, hb1⟩
    go_wp2_with fail
    go_ret
    exact ⟨rfl, hb1⟩
  have hd : decide ((100 : Int) < (n : Int)) = false := decide_eq_false (by omega)
  obtain ⟨i0, hi, hz0, hz1, hz2⟩ := info_parts Tryd.infoU8
  have hel : (enc xs).length = 2 * n := by rw [enc_length, hn]
  have HEL := box (enc_lt HX.out)
  by_cases hout : k < 0 ∨ 12 * (n : Int) ≤ k
  · have FB := fun (la : Option Addr) (lc : Nat) (w' : World) => box (flip_bad_any la (2 * n) lc k (by omega) k0 k1 w')
    by_cases h0 : k < 0
    · have d1 : decide (k < 0) = true := decide_eq_true h0
      clear hout
      go_enter Tryd.func7, Tryd.ntmps7
      go_wp2_with fail
      refine (awake_any _ HT.out).mono ?_
      rintro e w1 ⟨rfl, kb⟩
      go_wp2_with fail
      refine (encode_any a n c xs hn HX.out (by omega) _ (HC.out.below kb) (HT.out.below kb)).mono ?_
      rintro e w2 ⟨v, rfl, hown, hb⟩
      obtain ⟨la, lc, rfl, hin, hnil, _⟩ := own_form hel hown
      have HI := box hin
      have HN := box hnil
      have kb2 : Below w.heap.size w w2 := kb.trans (hb.mono kb.size)
      clear hin hown hb hnil
      have hs2 := size_alloc (w := w2) w2.heap.size (.cells #[] 5) (Nat.le_refl _)
      go_wp2_with (first | (at_builtin; refine wpList_append_in (o := ⟨some 24, _, _, _, _, _⟩) rfl (.tmp 22) (.tmp 23) rfl w2.heap.size i0 hi hz0 hz1 hz2 (.slice (some ⟨w2.heap.size, 0, none⟩) 0 0) 0 [] rfl (World.ownsRow_made w2 #[] 0 (Nat.le_refl _) (Nat.zero_le _) rfl) la (2 * n) lc (enc xs) rfl hel (HI.out.below ((Below.refl _ _).alloc (Nat.le_refl _) _)) HN.out (by omega) w2.heap.size w2 (Nat.le_refl _) ((Below.refl _ _).alloc (Nat.le_refl _) _) hs2 ?_; intro v3 w3 ho3 hb3 hs3; obtain ⟨wa, wc, rfl, hi3, _, _⟩ := own_form (n := 2 * n) (xs := enc xs) hel (by have h := ho3.out; simpa [Own] using h); have HW := box hi3; clear ho3 hi3) | fail)
      refine (FB la lc w3).out.mono ?_
      rintro e w4 ⟨rfl, rfl⟩
      have kb3 : Below w.heap.size w w3 := kb2.trans (hb3.mono kb2.size)
      go_wp2_with fail
      refine (same_any la wa (2 * n) (2 * n) lc wc (enc xs) (enc xs) hel hel HEL.out HEL.out (by omega) (by omega) _ (HI.out.below hb3) HW.out true (decide_eq_true rfl)).mono ?_
      rintro e w5 ⟨rfl, t, rfl⟩
      go_wp2_with fail
      go_ret
      exact ⟨rfl, below_drewN _ kb3⟩
    · have d1 : decide (k < 0) = false := decide_eq_false h0
      have d2 : decide (6 * (2 * (n : Int)) ≤ k) = true := decide_eq_true (by omega)
      clear hout
      go_enter Tryd.func7, Tryd.ntmps7
      go_wp2_with fail
      refine (awake_any _ HT.out).mono ?_
      rintro e w1 ⟨rfl, kb⟩
      go_wp2_with fail
      refine (encode_any a n c xs hn HX.out (by omega) _ (HC.out.below kb) (HT.out.below kb)).mono ?_
      rintro e w2 ⟨v, rfl, hown, hb⟩
      obtain ⟨la, lc, rfl, hin, hnil, _⟩ := own_form hel hown
      have HI := box hin
      have HN := box hnil
      have kb2 : Below w.heap.size w w2 := kb.trans (hb.mono kb.size)
      clear hin hown hb hnil
      have hs2 := size_alloc (w := w2) w2.heap.size (.cells #[] 5) (Nat.le_refl _)
      go_wp2_with (first | (at_builtin; refine wpList_append_in (o := ⟨some 24, _, _, _, _, _⟩) rfl (.tmp 22) (.tmp 23) rfl w2.heap.size i0 hi hz0 hz1 hz2 (.slice (some ⟨w2.heap.size, 0, none⟩) 0 0) 0 [] rfl (World.ownsRow_made w2 #[] 0 (Nat.le_refl _) (Nat.zero_le _) rfl) la (2 * n) lc (enc xs) rfl hel (HI.out.below ((Below.refl _ _).alloc (Nat.le_refl _) _)) HN.out (by omega) w2.heap.size w2 (Nat.le_refl _) ((Below.refl _ _).alloc (Nat.le_refl _) _) hs2 ?_; intro v3 w3 ho3 hb3 hs3; obtain ⟨wa, wc, rfl, hi3, _, _⟩ := own_form (n := 2 * n) (xs := enc xs) hel (by have h := ho3.out; simpa [Own] using h); have HW := box hi3; clear ho3 hi3) | fail)
      refine (FB la lc w3).out.mono ?_
      rintro e w4 ⟨rfl, rfl⟩
      have kb3 : Below w.heap.size w w3 := kb2.trans (hb3.mono kb2.size)
      go_wp2_with fail
      refine (same_any la wa (2 * n) (2 * n) lc wc (enc xs) (enc xs) hel hel HEL.out HEL.out (by omega) (by omega) _ (HI.out.below hb3) HW.out true (decide_eq_true rfl)).mono ?_
      rintro e w5 ⟨rfl, t, rfl⟩
      go_wp2_with fail
      go_ret
      exact ⟨rfl, below_drewN _ kb3⟩
  · obtain ⟨k, rfl⟩ : ∃ j : Nat, k = (j : Int) := ⟨k.toNat, by omega⟩
    have hk : k < 12 * n := by omega
    have d1 : decide ((k : Int) < 0) = false := decide_eq_false (by omega)
    have d2 : decide (6 * (2 * (n : Int)) ≤ (k : Int)) = false := decide_eq_false (by omega)
    clear hout k0 k1
    go_enter Tryd.func7, Tryd.ntmps7
    go_wp2_with fail
    refine (awake_any _ HT.out).mono ?_
    rintro e w1 ⟨rfl, kb⟩
    go_wp2_with fail
    refine (encode_any a n c xs hn HX.out (by omega) _ (HC.out.below kb) (HT.out.below kb)).mono ?_
    rintro e w2 ⟨v, rfl, hown, hb⟩
    obtain ⟨la, lc, rfl, hin, hnil, _⟩ := own_form hel hown
    obtain ⟨lb, rfl, hat⟩ : ∃ b, la = some b ∧ At w2 b (enc xs) := by
      rcases hin with h | h
      · rw [h] at hel; simp at hel; omega
      · exact h
    have HI := box hin
    have HA := box hat
    have HN := box hnil
    have kb2 : Below w.heap.size w w2 := kb.trans (hb.mono kb.size)
    clear hin hown hb hnil hat
    have hs2 := size_alloc (w := w2) w2.heap.size (.cells #[] 5) (Nat.le_refl _)
    go_wp2_with (first | (at_builtin; refine wpList_append_in (o := ⟨some 24, _, _, _, _, _⟩) rfl (.tmp 22) (.tmp 23) rfl w2.heap.size i0 hi hz0 hz1 hz2 (.slice (some ⟨w2.heap.size, 0, none⟩) 0 0) 0 [] rfl (World.ownsRow_made w2 #[] 0 (Nat.le_refl _) (Nat.zero_le _) rfl) (some lb) (2 * n) lc (enc xs) rfl hel (HI.out.below ((Below.refl _ _).alloc (Nat.le_refl _) _)) HN.out (by omega) w2.heap.size w2 (Nat.le_refl _) ((Below.refl _ _).alloc (Nat.le_refl _) _) hs2 ?_; intro v3 w3 ho3 hb3 hs3; obtain ⟨wa, wc, rfl, hi3, _, _⟩ := own_form (n := 2 * n) (xs := enc xs) hel (by have h := ho3.out; simpa [Own] using h); have HW := box hi3; clear ho3 hi3) | fail)
    have kb3 : Below w.heap.size w w3 := kb2.trans (hb3.mono kb2.size)
    refine (flip_any lb (2 * n) lc k (enc xs) hel HEL.out (by omega) (by omega) w3 (fun i hi => keepc hb3 (HA.out i hi))).mono ?_
    rintro e w4 ⟨v, rfl, hown, hb4⟩
    have hfl : (flipS (enc xs) k).length = 2 * n := by rw [flipS_length, hel]
    obtain ⟨xa, xc, rfl, hin, _, _⟩ := own_form hfl hown
    obtain ⟨xb, rfl, hat⟩ : ∃ b, xa = some b ∧ At w4 b (flipS (enc xs) k) := by
      rcases hin with h | h
      · rw [h] at hfl; simp at hfl; omega
      · exact h
    have HXI := box hin
    have HXA := box hat
    have kb4 : Below w.heap.size w w4 := kb3.trans (hb4.mono kb3.size)
    have HL4 := box (show At w4 lb (enc xs) from fun i hi => keepc hb4 (keepc hb3 (HA.out i hi)))
    have HW4 := box (HW.out.below hb4)
    clear hin hown hat HA HI HW HN hs2 hs3 hb3 hb4
    go_wp2_with fail
    refine (same_any (some lb) wa (2 * n) (2 * n) lc wc (enc xs) (enc xs) hel hel HEL.out HEL.out (by omega) (by omega) _ (.inr ⟨lb, rfl, HL4.out⟩) HW4.out true (decide_eq_true rfl)).mono ?_
    rintro e w5 ⟨rfl, t5, rfl⟩
    have kb5 := below_drewN t5 kb4
    have HL5 := box (show At (w4.drewN t5) lb (enc xs) from fun i hi => keepc (drewN_below w4 t5) (HL4.out i hi))
    have HX5 := box (show At (w4.drewN t5) xb (flipS (enc xs) k) from fun i hi => keepc (drewN_below w4 t5) (HXA.out i hi))
    clear HL4 HXA HXI HW4 kb4
    generalize w4.drewN t5 = w5 at kb5 HL5 HX5 ⊢
    go_wp2_with fail
    obtain ⟨M, hM⟩ : ∃ M, 2 * n = M := ⟨_, rfl⟩
    have HM := box hM
    go_loopw [62] (fun t62 wr => ∃ i t : Nat, i ≤ 2 * n ∧ t62 = .int .i64 i ∧ Box (wr = w5.drewN t)) (fun t62 _ => 2 * n - (intOf t62).toNat)
    case atStart => exact ⟨0, 0, by omega, rfl, box rfl⟩
    case round =>
      obtain ⟨i, t, hi2, rfl, hwr⟩ := hrel
      by_cases hlt : i < 2 * n
      · have kr : Below w5.heap.size w5 wr := by rw [hwr.out]; exact drewN_below w5 t
        have c1 := keepc kr (HX5.out i (by omega))
        have c2 := keepc kr (HL5.out i (by omega))
        have hq : k / 6 < (enc xs).length := by omega
        rw [flipS_getD hq] at c1
        obtain ⟨q, hqq⟩ : ∃ q, k / 6 = q := ⟨_, rfl⟩
        have e1 : (k : Int).tdiv 6 = (q : Int) := by rw [Int.tdiv_eq_ediv_of_nonneg (by omega)]; omega
        have e2 : (k : Int) / 6 = (q : Int) := by omega
        have e3 : IntKind.i64.wrap (q : Int) = (q : Int) := by rw [IntKind.wrap_i64]; omega
        have z0 : (0 : Int) ≤ (i : Int) := by omega
        have z1 : (i : Int) < 2 * (n : Int) := by omega
        have z2 : (i : Int) < (M : Int) := by omega
        rw [hqq] at c1
        clear hM
        by_cases hiq : i = q
        · rw [if_pos hiq] at c1
          have hne := flip_ne ((enc xs).getD q 0) (5 - k % 6)
          rw [hiq] at c2
          have c1' := c1
          rw [hiq] at c1'
          obtain ⟨y1, h1⟩ : ∃ y1, (enc xs).getD q 0 ^^^ 2 ^ (5 - k % 6) = y1 := ⟨_, rfl⟩
          obtain ⟨y2, h2⟩ : ∃ y2, (enc xs).getD q 0 = y2 := ⟨_, rfl⟩
          rw [h1] at hne c1'
          rw [h2] at hne c2
          have b1 : ((i : Int) == (q : Int)) = true := by simp [hiq]
          have b2 : ((y1 : Int) != (y2 : Int)) = true := by simp; omega
          subst hiq
          clear h1 h2 hne c1 hqq b1
          have b1 : ((i : Int) == (i : Int)) = true := by simp
          go_wp2_with fail
          go_quiet (fail)
          go_wp2_with fail
          go_roundw
          case rel => exact ⟨i + 1, t + nq, by omega, by go_num, box (by rw [hwr.out]; exact drewN_two w5 t nq)⟩
          case measure => simp [intOf]; omega
        · rw [if_neg hiq] at c1
          have b1 : ((i : Int) == (q : Int)) = false := by simp; omega
          generalize (enc xs).getD i 0 = y at c1 c2
          have b2 : ((y : Int) != (y : Int)) = false := by simp
          clear hqq
          go_wp2_with fail
          go_quiet (fail)
          go_wp2_with fail
          go_roundw
          case rel => exact ⟨i + 1, t + nq, by omega, by go_num, box (by rw [hwr.out]; exact drewN_two w5 t nq)⟩
          case measure => simp [intOf]; omega
      · obtain rfl : i = 2 * n := by omega
        have kr : Below w5.heap.size w5 wr := by rw [hwr.out]; exact drewN_below w5 t
        have kbr : Below w.heap.size w wr := kb5.trans (kr.mono kb5.size)
        have hq : k / 6 < (enc xs).length := by omega
        have D := box (decode_flipped (some xb) n xc k xs hn HX.out (by omega) hk wr (.inr ⟨xb, rfl, fun i hi => keepc kr (HX5.out i hi)⟩) (HT.out.below kbr))
        have HXR := box (show At wr xb (flipS (enc xs) k) from fun i hi => keepc kr (HX5.out i hi))
        have HLR := box (show At wr lb (enc xs) from fun i hi => keepc kr (HL5.out i hi))
        have HFL := box (flipS_lt HEL.out hq)
        have HFF := box (flipS_flipS hq)
        obtain ⟨q, hqq⟩ : ∃ q, k / 6 = q := ⟨_, rfl⟩
        have e2 : (k : Int) / 6 = (q : Int) := by omega
        rw [hqq] at D
        clear hM hq hqq hwr kr HX5 HL5 kb5
        go_wp2_with fail
        refine D.out.mono ?_
        rintro e w6 ⟨rfl, hb6⟩
        have kb6 : Below w.heap.size w w6 := kbr.trans (hb6.mono kbr.size)
        go_wp2_with fail
        refine (flip_any xb (2 * n) xc k (flipS (enc xs) k) hfl HFL.out (by omega) (by omega) w6 (fun i hi => keepc hb6 (HXR.out i hi))).mono ?_
        rintro e w7 ⟨v, rfl, hown, hb7⟩
        rw [HFF.out] at hown
        obtain ⟨ya, yc, rfl, hin, _, _⟩ := own_form hel hown
        have HY := box hin
        have HL7 := box (show In w7 (some lb) (enc xs) from .inr ⟨lb, rfl, fun i hi => keepc hb7 (keepc hb6 (HLR.out i hi))⟩)
        have kb7 : Below w.heap.size w w7 := kb6.trans (hb7.mono kb6.size)
        clear hown hin hb7 hb6 HXR HLR
        go_wp2_with fail
        refine (same_any ya (some lb) (2 * n) (2 * n) yc lc (enc xs) (enc xs) hel hel HEL.out HEL.out (by omega) (by omega) _ HY.out HL7.out true (decide_eq_true rfl)).mono ?_
        rintro e w8 ⟨rfl, t8, rfl⟩
        go_wp2_with fail
        go_ret
        exact ⟨rfl, below_drewN _ kb7⟩
end Go.Proofs.YthjhgmcikfekmaaDoor
