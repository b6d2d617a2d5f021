/- Run: its contract. -/
import Derived.Test.YthjhgmcikfekmaaDoorLinT
namespace Go.Proofs.YthjhgmcikfekmaaDoor
open Go.RowKit

theorem max_int (x y z : Nat) (h : max x y = z) (w : World) : (Builtin.max_ #[3, 3] 3 #[.int .i64 (x : Int), .int .i64 (y : Int)]).run Tryd.prog w = .ok (.int .i64 (z : Int)) w := by
  rw [run_max_int2]
  congr 2
  split <;> omega

/-- What Run answers. -/
def runN (xs : List Nat) : Nat := if small xs then lg (bt xs) (6 * xs.length) else 0

set_option maxHeartbeats 8000000 in
theorem run_any (a : Option Addr) (n c : Nat) (xs : List Nat) (hn : xs.length = n) (hx : ∀ x ∈ xs, x < 256) (hbig : n ≤ 1000) (w : World) (hc : In w a xs) (r : Nat) (hr : runN xs = r) :
    Calls Tryd.prog 25 #[.slice a n c] w fun e w' => e = .returned (.int .i64 r) ∧ ∃ t, w' = w.drewN t := by
  have HX := box hx
  have HC := box hc
  have HR := box hr
  clear hr
  by_cases hs : small xs = false
  · have TG := box (tooGreat_any a n c xs hn hx hbig false hs w hc)
    have HV := box (show r = 0 by rw [← HR.out]; unfold runN; rw [hs]; rfl)
    clear hx hc hs
    go_enter Tryd.func25, Tryd.ntmps25
    go_wp2_with fail
    refine TG.out.mono ?_
    rintro e w2 ⟨rfl, rfl⟩
    go_wp2_with fail
    go_ret
    exact ⟨by rw [HV.out]; rfl, 0, rfl⟩
  · have hs' : small xs = true := by cases h : small xs <;> simp_all
    have TG := box (tooGreat_any a n c xs hn hx hbig true hs' w hc)
    have HV := box (show r = lg (bt xs) (6 * n) by rw [← HR.out]; unfold runN; rw [hs', hn]; rfl)
    have hB := fun i (hi : i < 6 * n) w' h => box (bit_any a n c i xs hn HX.out hbig hi w' h)
    clear hx hc hs hs'
    go_enter Tryd.func25, Tryd.ntmps25
    go_wp2_with fail
    refine TG.out.mono ?_
    rintro e w2 ⟨rfl, rfl⟩
    go_wp2_with fail
    go_loopw [3, 4, 11] (fun t3 t4 t11 wr => ∃ k l m t : Nat, k ≤ 6 * n ∧ t11 = .int .i64 k ∧ t3 = .int .i64 l ∧ t4 = .int .i64 m ∧ l ≤ 6 * n ∧ m ≤ k ∧ Box (lg (bt xs) k = l) ∧ Box (er (bt xs) k = m) ∧ Box (wr = w.drewN t)) (fun _ _ t11 _ => 6 * n - (intOf t11).toNat)
    case atStart => exact ⟨0, 0, 0, 0, by omega, rfl, rfl, rfl, by omega, by omega, box rfl, box rfl, box rfl⟩
    case round =>
      obtain ⟨k, l, m, t, hk, rfl, rfl, rfl, hl, hm, hlg, her, hwr⟩ := hrel
      by_cases hlt : k < 6 * n
      · have kr : Below w.heap.size w wr := by rw [hwr.out]; exact drewN_below w t
        have HCR := box (HC.out.below kr)
        have hz : (k : Int) < 6 * (n : Int) := by omega
        by_cases h0 : k = 0
        · subst h0
          have he1 : Box (er (bt xs) (0 + 1) = 0 + 1) := box (by simp [er])
          have hm0 : m = 0 := by omega
          subst hm0
          obtain ⟨z, hzz⟩ : ∃ z, max l (0 + 1) = z := ⟨_, rfl⟩
          have HLZ := box (show lg (bt xs) (0 + 1) = z by rw [← hzz, ← hlg.out]; show max _ _ = _; rw [he1.out])
          have hif : (if (l : Int) < 1 then (1 : Int) else (l : Int)) = (z : Int) := by split <;> omega
          have lz : z ≤ 6 * n := by omega
          clear hzz hlt
          go_wp2_with fail
          go_roundw
          case rel => exact ⟨1, z, 1, t, by omega, by go_num, rfl, rfl, lz, by omega, HLZ, he1, hwr⟩
          case measure => simp [intOf]; omega
        · have d0 : decide ((0 : Int) < (k : Int)) = true := decide_eq_true (by omega)
          have d0' : (0 : Int) < (k : Int) := by omega
          have kz : (1 : Int) ≤ (k : Int) := by omega
          have B1 := hB k hlt
          have B2 := hB (k - 1) (by omega)
          have ek : ((k - 1 : Nat) : Int) = (k : Int) - 1 := by omega
          rw [ek] at B2
          clear ek
          by_cases hq : bt xs k = bt xs (k - 1)
          · have he1 : Box (er (bt xs) (k + 1) = m + 1) := box (by simp only [er]; rw [if_neg (by rintro ⟨_, h⟩; exact h hq), her.out])
            have hb : ((bt xs k : Int) != (bt xs (k - 1) : Int)) = false := by simp [hq]
            generalize bt xs k = q1 at B1 hb
            generalize bt xs (k - 1) = q2 at B2 hb
            obtain ⟨z, hzz⟩ : ∃ z, max l (m + 1) = z := ⟨_, rfl⟩
            have HLZ := box (show lg (bt xs) (k + 1) = z by rw [← hzz, ← hlg.out]; show max _ _ = _; rw [he1.out])
            have hmx := max_int l (m + 1) z hzz
            have lz : z ≤ 6 * n := by omega
            have cm : ((m + 1 : Nat) : Int) = (m : Int) + 1 := by omega
            rw [cm] at hmx
            clear hzz hq cm h0
            go_wp2_with fail
            refine (B1 _ HCR.out).out.mono ?_
            rintro e w3 ⟨rfl, t3, rfl⟩
            go_wp2_with fail
            refine (B2 _ (HCR.out.below (drewN_below wr t3))).out.mono ?_
            rintro e w4 ⟨rfl, t4, rfl⟩
            go_wp2_with fail
            go_roundw
            case rel => exact ⟨k + 1, z, m + 1, t + t3 + t4, by omega, by go_num, rfl, by go_num, lz, by omega, HLZ, he1, box (by rw [hwr.out, drewN_two, Nat.add_assoc])⟩
            case measure => simp [intOf]; omega
          · have he1 : Box (er (bt xs) (k + 1) = 1) := box (by simp only [er]; rw [if_pos ⟨by omega, hq⟩])
            have hb : ((bt xs k : Int) != (bt xs (k - 1) : Int)) = true := by simp; omega
            generalize bt xs k = q1 at B1 hb
            generalize bt xs (k - 1) = q2 at B2 hb
            obtain ⟨z, hzz⟩ : ∃ z, max l 1 = z := ⟨_, rfl⟩
            have HLZ := box (show lg (bt xs) (k + 1) = z by rw [← hzz, ← hlg.out]; show max _ _ = _; rw [he1.out])
            have hif : (if (l : Int) < 1 then (1 : Int) else (l : Int)) = (z : Int) := by split <;> omega
            have lz : z ≤ 6 * n := by omega
            clear hzz hq h0
            go_wp2_with fail
            refine (B1 _ HCR.out).out.mono ?_
            rintro e w3 ⟨rfl, t3, rfl⟩
            go_wp2_with fail
            refine (B2 _ (HCR.out.below (drewN_below wr t3))).out.mono ?_
            rintro e w4 ⟨rfl, t4, rfl⟩
            go_wp2_with fail
            go_roundw
            case rel => exact ⟨k + 1, z, 1, t + t3 + t4, by omega, by go_num, rfl, rfl, lz, by omega, HLZ, he1, box (by rw [hwr.out, drewN_two, Nat.add_assoc])⟩
            case measure => simp [intOf]; omega
      · obtain rfl : k = 6 * n := by omega
        have HW := box (show r = l from HV.out.trans hlg.out)
        go_wp2_with fail
        go_ret
        exact ⟨by rw [HW.out]; rfl, t, hwr.out⟩
end Go.Proofs.YthjhgmcikfekmaaDoor
