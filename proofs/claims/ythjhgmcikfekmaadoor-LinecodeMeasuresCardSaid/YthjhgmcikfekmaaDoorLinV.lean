/- The walk of LinecodeBalanced. -/
import Derived.Test.YthjhgmcikfekmaaDoorLinU
namespace Go.Proofs.YthjhgmcikfekmaaDoor
open Go.RowKit

theorem vals_sym (xs : List Nat) : ∀ j < (vals xs).length, ∃ i < 20, (vals xs).getD j 0 = syms.getD i 0 := by
  intro j hj
  rw [vals_length] at hj
  exact ⟨xs.getD j 0 % 20, Nat.mod_lt _ (by decide), vals_getD xs j hj⟩
theorem vals_small (xs : List Nat) : small (vals xs) = true := by
  rw [small_mem]
  intro j hj
  obtain ⟨i, hi, e⟩ := vals_sym xs j hj
  rw [e]
  have := syms_lt i hi; omega
theorem vals_bal (xs : List Nat) : balB (vals xs) = true := by
  unfold balB
  rw [vals_small, valid_near (vals_sym xs)]; rfl
theorem vals_run (xs : List Nat) : runN (vals xs) ≤ 6 ∧ (1 ≤ runN (vals xs) ∨ xs.length = 0) := by
  unfold runN
  rw [vals_small, if_pos rfl]
  refine ⟨run_le_six (bt_lt _) (valid_near (vals_sym xs)), ?_⟩
  rcases Nat.eq_zero_or_pos xs.length with h | h
  · exact .inr h
  · exact .inl (run_pos (by rw [vals_length]; omega))

set_option maxHeartbeats 8000000 in
theorem balanced_walk (a : Option Addr) (n c : Nat) (xs : List Nat) (hn : xs.length = n) (hx : ∀ x ∈ xs, x < 256) (w : World) (hc : In w a xs) (hT : HasTab w) :
    Calls Tryd.prog 9 #[.slice a n c] w fun e w' => e = .returned (.bool true) ∧ Below w.heap.size w w' := by
  have HT := box hT
  have HX := box hx
  have HC := box hc
  clear hT hx hc
  by_cases hl : 200 < n
  · have hd : decide ((200 : Int) < (n : Int)) = true := decide_eq_true (by omega)
    go_enter Tryd.func9, Tryd.ntmps9
    go_wp2_with fail
    refine (awake_any _ HT.out).mono ?_
    rintro e w1 ⟨rfl, hb1⟩
    go_wp2_with fail
    go_ret
    exact ⟨rfl, hb1⟩
  have hd : decide ((200 : Int) < (n : Int)) = false := decide_eq_false (by omega)
  have hvl : (vals xs).length = n := by rw [vals_length, hn]
  obtain ⟨r6, r1⟩ := vals_run xs
  rw [hn] at r1
  obtain ⟨r, hr⟩ : ∃ r, runN (vals xs) = r := ⟨_, rfl⟩
  have HRN := box hr
  rw [hr] at r6 r1
  have d6 : decide ((r : Int) ≤ 6) = true := decide_eq_true (by omega)
  have d0 : decide ((1 : Int) ≤ (r : Int)) = true ∨ (decide ((1 : Int) ≤ (r : Int)) = false ∧ ((n : Int) == 0) = true) := by
    rcases r1 with h | h
    · exact .inl (decide_eq_true (by omega))
    · by_cases h1 : 1 ≤ r
      · exact .inl (decide_eq_true (by omega))
      · exact .inr ⟨decide_eq_false (by omega), by simp [h]⟩
  clear hr r1
  rcases d0 with d0 | ⟨d0, d00⟩
  all_goals
    go_enter Tryd.func9, Tryd.ntmps9
    go_wp2_with fail
    refine (awake_any _ HT.out).mono ?_
    rintro e w1 ⟨rfl, kb⟩
    go_wp2_with fail
    refine (valid_any a n c xs hn HX.out (by omega) _ (HC.out.below kb) (HT.out.below kb)).mono ?_
    rintro e w2 ⟨v, rfl, hown, hb⟩
    obtain ⟨la, lc, rfl, hin, _, _⟩ := own_form hvl hown
    have HI := box hin
    have kb2 : Below w.heap.size w w2 := kb.trans (hb.mono kb.size)
    clear hin hown hb
    go_wp2_with fail
    refine (run_any la n lc (vals xs) hvl (vals_lt xs) (by omega) w2 HI.out r HRN.out).mono ?_
    rintro e w3 ⟨rfl, t, rfl⟩
    go_wp2_with fail
    refine (balanced_any la n lc (vals xs) hvl (vals_lt xs) (by omega) _ (HI.out.below (drewN_below w2 t)) true (vals_bal xs)).mono ?_
    rintro e w3 ⟨rfl, t2, rfl⟩
    go_wp2_with fail
    go_ret
    exact ⟨rfl, below_drewN _ kb2⟩
end Go.Proofs.YthjhgmcikfekmaaDoor
