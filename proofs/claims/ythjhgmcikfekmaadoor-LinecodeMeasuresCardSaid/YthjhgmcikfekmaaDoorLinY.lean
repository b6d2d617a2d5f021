/- The reference's Balanced: its contract. -/
import Derived.Test.YthjhgmcikfekmaaDoorLinX
namespace Go.Proofs.YthjhgmcikfekmaaDoor
open Go.RowKit

/-- The bits f 0 .. f (N - 1) lie at the slice's address. -/
def InI (w : World) (a : Option Addr) (f : Nat → Nat) (N : Nat) : Prop := ∀ j < N, ∃ b, a = some b ∧ w.cell? (b.add j) = some (nI (f j))
theorem InI.below {w w' : World} {a : Option Addr} {f : Nat → Nat} {N : Nat} (h : InI w a f N) (hb : Below w.heap.size w w') : InI w' a f N := by
  intro j hj
  obtain ⟨b, hb', hc⟩ := h j hj
  exact ⟨b, hb', keepc hb hc⟩
theorem own_formI {B n : Nat} {w : World} {v : Value} {xs : List Nat} (h : OwnI B w v n (blTo xs n)) : ∃ (a : Option Addr) (c : Nat), v = .slice a n c ∧ InI w a (bt xs) n := by
  have hc := h
  obtain ⟨_, hcase⟩ := h
  rcases hcase with ⟨rfl, h0⟩ | ⟨g, cap, cur, rfl, hg, hh, hnc, hcap, hsz, htake⟩
  · subst h0
    exact ⟨none, 0, rfl, fun j hj => by omega⟩
  · refine ⟨some ⟨g, 0, none⟩, cap, rfl, fun j hj => ⟨_, rfl, ?_⟩⟩
    rw [add_off, hc.cellAt j (by omega)]
    simp [blTo, hj]

set_option maxHeartbeats 8000000 in
theorem rbalanced_any (a : Option Addr) (n c : Nat) (xs : List Nat) (hn : xs.length = n) (hx : ∀ x ∈ xs, x < 256) (hbig : n ≤ 1000) (w : World) (hc : In w a xs) (r : Bool) (hr : balB xs = r) :
    Calls Tryd.prog 27 #[.slice a n c] w fun e w' => e = .returned (.bool r) ∧ Below w.heap.size w w' := by
  have HC := box hc
  have HR := box hr
  have BA := box (bits_any a n c xs hn hx hbig w hc)
  have SA := fun s hs w' h => box (small_any a n c xs hn hbig s hs w' h)
  clear hr hx hc
  go_enter Tryd.func27, Tryd.ntmps27
  go_wp2_with fail
  refine BA.out.mono ?_
  rintro e w1 ⟨v, rfl, hown, kb⟩
  obtain ⟨la, lc, rfl, hin⟩ := own_formI hown
  have HI := box hin
  clear hown hin
  go_wp2_with fail
  go_loop [4, 5] (fun t4 t5 => ∃ k : Nat, k ≤ 6 * n ∧ t5 = .int .i64 k ∧ t4 = .int .i64 (sm (bt xs) k) ∧ Box (near (bt xs) k = true)) (fun _ t5 => 6 * n - (intOf t5).toNat)
  case atStart => exact ⟨0, by omega, rfl, rfl, box rfl⟩
  case round =>
    obtain ⟨k, hk, rfl, rfl, hnear⟩ := hrel
    by_cases hlt : k < 6 * n
    · obtain ⟨b, rfl, c1⟩ := HI.out k hlt
      obtain ⟨sl, su⟩ := near_bound hnear.out k (Nat.le_refl _)
      have HSM := box (show sm (bt xs) (k + 1) = sm (bt xs) k + (2 * (bt xs k : Int) - 1) from rfl)
      have lb := bt_lt xs k
      have HK := box (show k < 6 * n from hlt)
      have hz : (k : Int) < 6 * (n : Int) := by omega
      obtain ⟨z, hzz⟩ : ∃ z, sm (bt xs) (k + 1) = z := ⟨_, rfl⟩
      have HZ := box hzz
      rw [hzz] at HSM
      clear hzz
      generalize sm (bt xs) k = s at sl su HSM
      generalize bt xs k = q at c1 HSM lb
      have hsum : s + 2 * (q : Int) - 1 = z := by have := HSM.out; omega
      have zb : -4 ≤ z ∧ z ≤ 4 := by have := HSM.out; omega
      obtain ⟨zb1, zb2⟩ := zb
      by_cases h1 : z < -3
      · have d1 : decide (z < -3) = true := decide_eq_true h1
        have HV := box (show r = false by
          rw [← HR.out]; unfold balB
          rw [near_false (i := k + 1) (by rw [hn]; have := HK.out; omega) (near_step hnear.out (by rw [HZ.out]; omega)), Bool.and_false])
        clear hlt h1
        go_wp2_with fail
        go_ret
        exact ⟨by rw [HV.out]; rfl, kb⟩
      · have d1 : decide (z < -3) = false := decide_eq_false h1
        by_cases h2 : 3 < z
        · have d2 : decide (3 < z) = true := decide_eq_true h2
          have HV := box (show r = false by
            rw [← HR.out]; unfold balB
            rw [near_false (i := k + 1) (by rw [hn]; have := HK.out; omega) (near_step hnear.out (by rw [HZ.out]; omega)), Bool.and_false])
          clear hlt h1 h2
          go_wp2_with fail
          go_ret
          exact ⟨by rw [HV.out]; rfl, kb⟩
        · have d2 : decide (3 < z) = false := decide_eq_false h2
          have HN := box (near_next hnear.out (by rw [HZ.out]; omega))
          clear h1 h2
          go_wp2_with fail
          go_round
          case rel => exact ⟨k + 1, by omega, by go_num, by rw [HZ.out], HN⟩
          case measure => simp [intOf]; omega
    · obtain rfl : k = 6 * n := by omega
      have HV := box (show small xs = r by rw [← HR.out]; unfold balB; rw [hn, hnear.out, Bool.and_true])
      go_wp2_with fail
      refine (SA r HV.out _ (HC.out.below kb)).out.mono ?_
      rintro e w3 ⟨rfl, rfl⟩
      go_wp2_with fail
      go_ret
      exact ⟨rfl, kb⟩
end Go.Proofs.YthjhgmcikfekmaaDoor
