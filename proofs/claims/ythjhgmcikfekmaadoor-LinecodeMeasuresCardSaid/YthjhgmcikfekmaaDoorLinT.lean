/- tooGreat, Balanced and Run: their contracts. -/
import Derived.Test.YthjhgmcikfekmaaDoorLinS
namespace Go.Proofs.YthjhgmcikfekmaaDoor
open Go.RowKit

/-- The index that IndexFunc answers. -/
def IdxPost (xs : List Nat) (w : World) (e : Ending) (w' : World) : Prop := w = w' ∧ ∃ r : Int, e = .returned (.int .i64 r) ∧ (small xs = true → r = -1) ∧ (small xs = false → 0 ≤ r)

set_option maxHeartbeats 4000000 in
theorem indexFunc_any (a : Option Addr) (n c : Nat) (xs : List Nat) (hn : xs.length = n) (hx : ∀ x ∈ xs, x < 256) (hbig : n ≤ 1000) (w : World) (hc : In w a xs) :
    Calls Tryd.prog 37 #[.slice a n c, .func (.func 36) #[] #[]] w (IdxPost xs w) := by
  have HX := box hx
  have HC := box hc
  clear hx hc
  go_enter Tryd.func37, Tryd.ntmps37
  go_wp2_with fail
  go_loop [8] (fun t8 => ∃ k : Nat, k ≤ n ∧ t8 = .int .i64 k ∧ Box (∀ j < k, xs.getD j 0 ≤ 63)) (fun t8 => n - (intOf t8).toNat)
  case atStart => exact ⟨0, by omega, rfl, box (fun j hj => by omega)⟩
  case round =>
    obtain ⟨k, hk, rfl, hle⟩ := hrel
    by_cases hlt : k < n
    · obtain ⟨b, rfl, c1⟩ := in_some HC.out (show k < xs.length by omega)
      obtain ⟨x, hxk⟩ : ∃ x, xs.getD k 0 = x := ⟨_, rfl⟩
      have HXK := box hxk
      rw [hxk] at c1
      clear hxk
      by_cases h63 : 63 < x
      · have G := fun w' => box (great_any x true (decide_eq_true (by omega)) w')
        have HF := box (show IdxPost xs w (.returned (.int .i64 (k : Int))) w from ⟨rfl, _, rfl, fun h => by
          have := small_mem.1 h k (by omega)
          rw [HXK.out] at this; omega, fun _ => by omega⟩)
        go_wp2_with fail
        refine (G _).out.mono ?_
        rintro e w2 ⟨rfl, rfl⟩
        go_wp2_with fail
        go_ret
        exact HF.out
      · have G := fun w' => box (great_any x false (decide_eq_false (by omega)) w')
        have HN : Box (∀ j < k + 1, xs.getD j 0 ≤ 63) := box (fun j hj => by
          rcases Nat.lt_or_ge j k with h | h
          · exact hle.out j h
          · obtain rfl : j = k := by omega
            rw [HXK.out]; omega)
        go_wp2_with fail
        refine (G _).out.mono ?_
        rintro e w2 ⟨rfl, rfl⟩
        go_wp2_with fail
        go_round
        case rel => exact ⟨k + 1, by omega, by go_num, HN⟩
        case measure => simp [intOf]; omega
    · obtain rfl : k = n := by omega
      have HF := box (show IdxPost xs w (.returned (.int .i64 (-1))) w from ⟨rfl, _, rfl, fun _ => rfl, fun h => by
        rw [small_mem.2 (fun j hj => hle.out j (by omega))] at h; cases h⟩)
      go_wp2_with fail
      go_ret
      exact HF.out

set_option maxHeartbeats 4000000 in
theorem tooGreat_any (a : Option Addr) (n c : Nat) (xs : List Nat) (hn : xs.length = n) (hx : ∀ x ∈ xs, x < 256) (hbig : n ≤ 1000) (r : Bool) (hr : small xs = r) (w : World) (hc : In w a xs) :
    Calls Tryd.prog 31 #[.slice a n c] w fun e w' => e = .returned (.bool (!r)) ∧ w = w' := by
  have I := box (indexFunc_any a n c xs hn hx hbig w hc)
  obtain ⟨q, hq⟩ : ∃ q, (!r) = q := ⟨_, rfl⟩
  have HQ := box hq
  have HRR := box hr
  rw [hq]
  clear hq hr
  have CF : Calls Tryd.prog 35 #[.slice a n c, .func (.func 36) #[] #[]] w fun e w' => e = .returned (.bool q) ∧ w = w' := by
    clear hx hc
    go_enter Tryd.func35, Tryd.ntmps35
    go_wp2_with fail
    refine I.out.mono ?_
    rintro e w2 ⟨rfl, z, rfl, h1, h2⟩
    have hz : decide (0 ≤ z) = q := by
      have hr := HRR.out
      rw [← HQ.out]
      cases r
      · exact decide_eq_true (h2 hr)
      · rw [h1 hr]; rfl
    have HZ := box hz
    clear h1 h2 hz
    go_wp2_with fail
    go_ret
    exact ⟨by rw [← HZ.out]; rfl, rfl⟩
  have CC := box CF
  clear CF I hx hc
  go_enter Tryd.func31, Tryd.ntmps31
  go_wp2_with fail
  refine CC.out.mono ?_
  rintro e w2 ⟨rfl, rfl⟩
  go_wp2_with fail
  go_ret
  exact ⟨rfl, rfl⟩

set_option maxHeartbeats 8000000 in
theorem balanced_any (a : Option Addr) (n c : Nat) (xs : List Nat) (hn : xs.length = n) (hx : ∀ x ∈ xs, x < 256) (hbig : n ≤ 1000) (w : World) (hc : In w a xs) (r : Bool) (hr : balB xs = r) :
    Calls Tryd.prog 26 #[.slice a n c] w fun e w' => e = .returned (.bool r) ∧ ∃ t, w' = w.drewN t := by
  have HX := box hx
  have HC := box hc
  have HR := box hr
  clear hr
  by_cases hs : small xs = false
  · have TG := box (tooGreat_any a n c xs hn hx hbig false hs w hc)
    have HV := box (show r = false by rw [← HR.out]; unfold balB; rw [hs]; rfl)
    clear hx hc hs
    go_enter Tryd.func26, Tryd.ntmps26
    go_wp2_with fail
    refine TG.out.mono ?_
    rintro e w2 ⟨rfl, rfl⟩
    go_wp2_with fail
    go_ret
    exact ⟨by rw [HV.out]; rfl, 0, rfl⟩
  · have hs' : small xs = true := by cases h : small xs <;> simp_all
    have TG := box (tooGreat_any a n c xs hn hx hbig true hs' w hc)
    have HS := box hs'
    have hB := fun i (hi : i < 6 * n) w' h => box (bit_any a n c i xs hn HX.out hbig hi w' h)
    clear hx hc hs hs'
    go_enter Tryd.func26, Tryd.ntmps26
    go_wp2_with fail
    refine TG.out.mono ?_
    rintro e w2 ⟨rfl, rfl⟩
    go_wp2_with fail
    go_loopw [3, 10] (fun t3 t10 wr => ∃ k t : Nat, k ≤ 6 * n ∧ t10 = .int .i64 k ∧ t3 = .int .i64 (sm (bt xs) k) ∧ Box (near (bt xs) k = true) ∧ Box (wr = w.drewN t)) (fun _ t10 _ => 6 * n - (intOf t10).toNat)
    case atStart => exact ⟨0, 0, by omega, rfl, rfl, box rfl, box rfl⟩
    case round =>
      obtain ⟨k, t, hk, rfl, rfl, hnear, hwr⟩ := hrel
      by_cases hlt : k < 6 * n
      · have kr : Below w.heap.size w wr := by rw [hwr.out]; exact drewN_below w t
        have B := hB k hlt wr (HC.out.below kr)
        obtain ⟨sl, su⟩ := near_bound hnear.out k (Nat.le_refl _)
        have HSM := box (show sm (bt xs) (k + 1) = sm (bt xs) k + (2 * (bt xs k : Int) - 1) from rfl)
        have lb := bt_lt xs k
        have HK := box (show k < 6 * n from hlt)
        have hz : (k : Int) < 6 * (n : Int) := by omega
        obtain ⟨z, hzz⟩ : ∃ z, sm (bt xs) (k + 1) = z := ⟨_, rfl⟩
        have HZ := box hzz
        rw [hzz] at HSM
        clear hzz
        generalize sm (bt xs) k = s at sl su HSM
        generalize bt xs k = q at B HSM lb
        have hsum : s + (2 * (q : Int) - 1) = z := HSM.out.symm
        have zb : -4 ≤ z ∧ z ≤ 4 := by omega
        obtain ⟨zb1, zb2⟩ := zb
        by_cases h1 : z < -3
        · have d1 : decide (z < -3) = true := decide_eq_true h1
          have HV := box (show r = false by
            rw [← HR.out]; unfold balB
            rw [near_false (i := k + 1) (by rw [hn]; have := HK.out; omega) (near_step hnear.out (by rw [HZ.out]; omega)), Bool.and_false])
          clear hlt h1
          go_wp2_with fail
          refine B.out.mono ?_
          rintro e w3 ⟨rfl, t3, rfl⟩
          go_wp2_with fail
          go_ret
          exact ⟨by rw [HV.out]; rfl, t + t3, by rw [hwr.out]; exact drewN_two w t t3⟩
        · have d1 : decide (z < -3) = false := decide_eq_false h1
          by_cases h2 : 3 < z
          · have d2 : decide (3 < z) = true := decide_eq_true h2
            have HV := box (show r = false by
              rw [← HR.out]; unfold balB
              rw [near_false (i := k + 1) (by rw [hn]; have := HK.out; omega) (near_step hnear.out (by rw [HZ.out]; omega)), Bool.and_false])
            clear hlt h1 h2
            go_wp2_with fail
            refine B.out.mono ?_
            rintro e w3 ⟨rfl, t3, rfl⟩
            go_wp2_with fail
            go_ret
            exact ⟨by rw [HV.out]; rfl, t + t3, by rw [hwr.out]; exact drewN_two w t t3⟩
          · have d2 : decide (3 < z) = false := decide_eq_false h2
            have HN := box (near_next hnear.out (by rw [HZ.out]; omega))
            clear h1 h2
            go_wp2_with fail
            refine B.out.mono ?_
            rintro e w3 ⟨rfl, t3, rfl⟩
            go_wp2_with fail
            go_roundw
            case rel => exact ⟨k + 1, t + t3, by omega, by go_num, by rw [HZ.out], HN, box (by rw [hwr.out]; exact drewN_two w t t3)⟩
            case measure => simp [intOf]; omega
      · obtain rfl : k = 6 * n := by omega
        have HV := box (show r = true by rw [← HR.out]; unfold balB; rw [HS.out, hn, hnear.out]; rfl)
        go_wp2_with fail
        go_ret
        exact ⟨by rw [HV.out]; rfl, t, hwr.out⟩
end Go.Proofs.YthjhgmcikfekmaaDoor
