/- The walk of LinecodeCodes. -/
import Derived.Test.YthjhgmcikfekmaaDoorLinH
namespace Go.Proofs.YthjhgmcikfekmaaDoor
open Go.RowKit

theorem enc_lt {xs : List Nat} (hx : ∀ x ∈ xs, x < 256) : ∀ y ∈ enc xs, y < 256 := by
  intro y hy
  obtain ⟨x, hxm, hy⟩ := List.mem_flatMap.1 hy
  have h1 := hx x hxm
  have a := syms_lt (x / 16) (by omega)
  have b := syms_lt (x % 16) (by omega)
  simp only [List.mem_cons, List.not_mem_nil, or_false] at hy
  rcases hy with rfl | rfl <;> omega

/-- Decoding an encoding. -/
theorem decode_enc (a : Option Addr) (n c : Nat) (xs : List Nat) (hn : xs.length = n) (hx : ∀ x ∈ xs, x < 256) (hbig : n ≤ 500) (w : World) (hc : In w a (enc xs)) (hT : HasTab w) :
    Calls Tryd.prog 19 #[.slice a (2 * n) c] w fun e w' => ∃ v, e = .returned (.tuple #[v, .int .i64 (-1), .int .i64 0]) ∧ Own w.heap.size w' v n xs ∧ Below w.heap.size w w' := by
  refine (decode_any a (2 * n) c (enc xs) (by rw [enc_length, hn]) (enc_lt hx) (by omega) w hc hT).mono fun e w' h => ?_
  obtain ⟨hb, h⟩ := h
  have hok : okTo (enc xs) (2 * n) := hn ▸ enc_ok hx
  rcases h with ⟨i, h1, _, h2, _⟩ | ⟨_, h2, _⟩ | ⟨_, _, v, he, ho⟩
  · exact absurd (hok i h1) (by omega)
  · omega
  · refine ⟨v, he, ?_, hb⟩
    rw [show 2 * n / 2 = n by omega, ← hn, dec_enc hx, hn] at ho
    exact ho

set_option maxHeartbeats 8000000 in
theorem codes_walk (a : Option Addr) (n c : Nat) (xs : List Nat) (hn : xs.length = n) (hx : ∀ x ∈ xs, x < 256) (w : World) (hc : In w a xs) (hT : HasTab w) :
    Calls Tryd.prog 5 #[.slice a n c] w fun e w' => e = .returned (.bool true) ∧ Below w.heap.size w w' := by
  have HT := box hT
  have HX := box hx
  have HC := box hc
  clear hT hx hc
  by_cases hl : 200 < n
  · have hd : decide ((200 : Int) < (n : Int)) = true := decide_eq_true (by omega)
    go_enter Tryd.func5, Tryd.ntmps5
    go_wp2_with fail
    refine (awake_any _ HT.out).mono ?_
    rintro e w1 ⟨rfl, hb1⟩
    go_wp2_with fail
    go_ret
    exact ⟨rfl, hb1⟩
  have hd : decide ((200 : Int) < (n : Int)) = false := decide_eq_false (by omega)
  go_enter Tryd.func5, Tryd.ntmps5
  go_wp2_with fail
  refine (awake_any _ HT.out).mono ?_
  rintro e w1 ⟨rfl, kb⟩
  go_wp2_with fail
  refine (encode_any a n c xs hn HX.out (by omega) _ (HC.out.below kb) (HT.out.below kb)).mono ?_
  rintro e w2 ⟨v, rfl, hown, hb⟩
  obtain ⟨la, lc, rfl, hin, _, _⟩ := own_form (by rw [enc_length, hn]) hown
  have HI := box hin
  replace kb : Below w.heap.size w w2 := kb.trans (hb.mono kb.size)
  clear hin hown hb
  go_wp2_with fail
  refine (decode_enc la n lc xs hn HX.out (by omega) _ HI.out (HT.out.below kb)).mono ?_
  rintro e w3 ⟨v, rfl, hown, hb⟩
  obtain ⟨ba, bc, rfl, hin, _, _⟩ := own_form hn hown
  have HI2 := box (HI.out.below hb)
  have HB := box hin
  replace kb : Below w.heap.size w w3 := kb.trans (hb.mono kb.size)
  clear HI hin hown hb
  go_wp2_with fail
  refine (rencode_any a n c xs hn HX.out (by omega) _ (HC.out.below kb)).mono ?_
  rintro e w4 ⟨v, rfl, hown, hb⟩
  obtain ⟨ra, rc, rfl, hin, _, _⟩ := own_form (by rw [enc_length, hn]) hown
  have HR := box hin
  have HI3 := box (HI2.out.below hb)
  have HB2 := box (HB.out.below hb)
  replace kb : Below w.heap.size w w4 := kb.trans (hb.mono kb.size)
  clear HI2 HB hin hown hb
  go_wp2_with fail
  refine (same_any _ _ (2 * n) (2 * n) _ _ (enc xs) (enc xs) (by rw [enc_length, hn]) (by rw [enc_length, hn]) (enc_lt HX.out) (enc_lt HX.out) (by omega) (by omega) _ HI3.out HR.out true (decide_eq_true rfl)).mono ?_
  rintro e w5 ⟨rfl, t, rfl⟩
  go_wp2_with fail
  refine (same_any _ _ n n _ _ xs xs hn hn HX.out HX.out (by omega) (by omega) _ (HB2.out.below (drewN_below _ _)) ((HC.out.below kb).below (drewN_below _ _)) true (decide_eq_true rfl)).mono ?_
  rintro e w5 ⟨rfl, t2, rfl⟩
  go_wp2_with fail
  go_ret
  exact ⟨rfl, below_drewN _ kb⟩
end Go.Proofs.YthjhgmcikfekmaaDoor
