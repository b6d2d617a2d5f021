/- The reference's Run: its contract. -/
import Derived.Test.YthjhgmcikfekmaaDoorLinY
namespace Go.Proofs.YthjhgmcikfekmaaDoor
open Go.RowKit

theorem const_one (f : Nat → Nat) (j : Nat) : const f j 1 := fun a b h1 h2 h3 h4 => by rw [show a = b by omega]
theorem const_succ {f : Nat → Nat} {j m : Nat} (h : const f j m) (he : f (j + m) = f j) : const f j (m + 1) := by
  have key : ∀ a, j ≤ a → a < j + (m + 1) → f a = f j := by
    intro a h1 h2
    rcases Nat.lt_or_ge a (j + m) with h3 | h3
    · exact h a j h1 h3 (Nat.le_refl _) (by omega)
    · obtain rfl : a = j + m := by omega
      exact he
  intro a b h1 h2 h3 h4
  rw [key a h1 h2, key b h3 h4]

set_option maxHeartbeats 8000000 in
theorem rrun_any (a : Option Addr) (n c : Nat) (xs : List Nat) (hn : xs.length = n) (hx : ∀ x ∈ xs, x < 256) (hbig : n ≤ 1000) (w : World) (hc : In w a xs) (r : Nat) (hr : runN xs = r) :
    Calls Tryd.prog 28 #[.slice a n c] w fun e w' => e = .returned (.int .i64 r) ∧ Below w.heap.size w w' := by
  have HC := box hc
  have HR := box hr
  clear hr
  by_cases hs : small xs = false
  · have SA := box (small_any a n c xs hn hbig false hs w hc)
    have HV := box (show r = 0 by rw [← HR.out]; unfold runN; rw [hs]; rfl)
    clear hx hc hs
    go_enter Tryd.func28, Tryd.ntmps28
    go_wp2_with fail
    refine SA.out.mono ?_
    rintro e w2 ⟨rfl, rfl⟩
    go_wp2_with fail
    go_ret
    exact ⟨by rw [HV.out]; rfl, Below.refl _ _⟩
  · have hs' : small xs = true := by cases h : small xs <;> simp_all
    have SA := box (small_any a n c xs hn hbig true hs' w hc)
    have BA := box (bits_any a n c xs hn hx hbig w hc)
    have HV := box (show r = lg (bt xs) (6 * n) by rw [← HR.out]; unfold runN; rw [hs', hn]; rfl)
    clear hx hc hs hs'
    go_enter Tryd.func28, Tryd.ntmps28
    go_wp2_with fail
    refine SA.out.mono ?_
    rintro e w2 ⟨rfl, rfl⟩
    go_wp2_with fail
    refine BA.out.mono ?_
    rintro e w1 ⟨v, rfl, hown, kb⟩
    obtain ⟨la, lc, rfl, hin⟩ := own_formI hown
    obtain ⟨N, hN⟩ : ∃ N, 6 * n = N := ⟨_, rfl⟩
    rw [hN] at hin HV ⊢
    have hNb : N ≤ 6000 := by omega
    have HI := box hin
    clear hown hin BA SA hN
    go_wp2_with fail
    go_loopw [4, 5] (fun t4 t5 wr => ∃ i l t : Nat, i ≤ N ∧ t5 = .int .i64 i ∧ t4 = .int .i64 l ∧ l ≤ N ∧ Box ((l = 0 ∨ ∃ j, j + l ≤ N ∧ const (bt xs) j l) ∧ ∀ j < i, ∀ m, j + m ≤ N → const (bt xs) j m → m ≤ l) ∧ Box (wr = w1.drewN t)) (fun _ t5 _ => N - (intOf t5).toNat)
    case atStart => exact ⟨0, 0, 0, by omega, rfl, rfl, by omega, box ⟨.inl rfl, fun j hj => by omega⟩, box rfl⟩
    case round =>
      obtain ⟨i, l, t, hi, rfl, rfl, hl, hrel, hwr⟩ := hrel
      by_cases hlt : i < N
      · have hz : (i : Int) < (N : Int) := by omega
        go_wp2_with fail
        go_loopw [6] (fun t6 wr => ∃ m t : Nat, 1 ≤ m ∧ i + m ≤ N ∧ t6 = .int .i64 m ∧ Box (const (bt xs) i m) ∧ Box (wr = w1.drewN t)) (fun t6 _ => N - (intOf t6).toNat)
        case atStart => exact ⟨1, t, by omega, by omega, rfl, box (const_one _ _), hwr⟩
        case round =>
          obtain ⟨m, t, hm1, hmN, rfl, hcm, hwr⟩ := hrel
          have leave : ∀ (hstop : i + m = N ∨ bt xs (i + m) ≠ bt xs i), Box (∀ m', i + m' ≤ N → const (bt xs) i m' → m' ≤ m) := fun hstop => box (fun m' h1 h2 => by
            rcases Nat.lt_or_ge m m' with h | h
            · rcases hstop with e | e
              · omega
              · exact absurd (h2 (i + m) i (by omega) (by omega) (by omega) (by omega)) e
            · exact h)
          have best : ∀ z, max l m = z → Box (∀ m', i + m' ≤ N → const (bt xs) i m' → m' ≤ m) → Box ((z = 0 ∨ ∃ j, j + z ≤ N ∧ const (bt xs) j z) ∧ ∀ j < i + 1, ∀ m, j + m ≤ N → const (bt xs) j m → m ≤ z) := fun z hz hmost => box (by
            subst hz
            constructor
            · rcases Nat.le_total l m with h | h
              · rw [Nat.max_eq_right h]; exact .inr ⟨i, hmN, hcm.out⟩
              · rw [Nat.max_eq_left h]; exact hrel.out.1
            · intro j hj m' h1 h2
              rcases Nat.lt_or_ge j i with h | h
              · exact Nat.le_trans (hrel.out.2 j h m' h1 h2) (Nat.le_max_left _ _)
              · obtain rfl : j = i := by omega
                exact Nat.le_trans (hmost.out m' h1 h2) (Nat.le_max_right _ _))
          by_cases hend : i + m = N
          · have hmost := leave (.inl hend)
            obtain ⟨z, hzz⟩ : ∃ z, max l m = z := ⟨_, rfl⟩
            have HB := best z hzz hmost
            have lz : z ≤ N := by omega
            have d1 : decide ((i : Int) + (m : Int) < (N : Int)) = false := decide_eq_false (by omega)
            have hif : (if l < m then (m : Int) else (l : Int)) = (z : Int) := by split <;> omega
            clear best leave hmost hzz hend
            go_wp2_with fail
            go_quiet (fail)
            go_wp2_with fail
            go_roundw
            case rel => exact ⟨i + 1, z, t + nq, by omega, by go_num, rfl, lz, HB, box (by rw [hwr.out]; exact drewN_two w1 t nq)⟩
            case measure => simp [intOf]; omega
          · have hlt2 : i + m < N := by omega
            have kr : Below w1.heap.size w1 wr := by rw [hwr.out]; exact drewN_below w1 t
            obtain ⟨b, rfl, c1⟩ := HI.out (i + m) hlt2
            obtain ⟨b', hbb, c2⟩ := HI.out i hlt
            obtain rfl : b = b' := Option.some.inj hbb
            replace c1 := keepc kr c1
            replace c2 := keepc kr c2
            have c3 : wr.cell? (b.add i) = some (nI (bt xs i)) := c2
            have d1 : decide ((i : Int) + (m : Int) < (N : Int)) = true := decide_eq_true (by omega)
            have z1 : IntKind.i64.wrap ((i : Int) + (m : Int)) = (i : Int) + (m : Int) := by rw [IntKind.wrap_i64]; omega
            have z2 : (0 : Int) ≤ (i : Int) + (m : Int) := by omega
            have z3 : (i : Int) + (m : Int) < (N : Int) := by omega
            have z4 : ((i : Int) + (m : Int)).toNat = i + m := by omega
            by_cases hq : bt xs (i + m) = bt xs i
            · have hcs := box (const_succ hcm.out hq)
              have hb : ((bt xs (i + m) : Int) == (bt xs i : Int)) = true := by simp [hq]
              generalize bt xs (i + m) = q1 at c1 hb
              generalize bt xs i = q2 at c2 c3 hb
              clear best leave hq hbb hend
              go_wp2_with fail
              go_quiet (fail)
              go_wp2_with fail
              go_roundw
              case rel => exact ⟨m + 1, t + nq, by omega, by omega, by go_num, hcs, box (by rw [hwr.out]; exact drewN_two w1 t nq)⟩
              case measure => simp [intOf]; omega
            · have hmost := leave (.inr hq)
              obtain ⟨z, hzz⟩ : ∃ z, max l m = z := ⟨_, rfl⟩
              have HB := best z hzz hmost
              have lz : z ≤ N := by omega
              have hif : (if l < m then (m : Int) else (l : Int)) = (z : Int) := by split <;> omega
              have hb : ((bt xs (i + m) : Int) == (bt xs i : Int)) = false := by simp; omega
              generalize bt xs (i + m) = q1 at c1 hb
              generalize bt xs i = q2 at c2 c3 hb
              clear best leave hmost hzz hq hbb hend
              go_wp2_with fail
              go_quiet (fail)
              go_wp2_with fail
              go_roundw
              case rel => exact ⟨i + 1, z, t + nq, by omega, by go_num, rfl, lz, HB, box (by rw [hwr.out]; exact drewN_two w1 t nq)⟩
              case measure => simp [intOf]; omega
      · obtain rfl : i = N := by omega
        have HW := box (show r = l by
          rw [HV.out]
          refine (lg_run (bt xs) i).eq ⟨hrel.out.1, fun j m h1 h2 => ?_⟩
          rcases Nat.lt_or_ge j i with h | h
          · exact hrel.out.2 j h m h1 h2
          · omega)
        go_wp2_with fail
        go_ret
        exact ⟨by rw [HW.out]; rfl, by rw [hwr.out]; exact below_drewN _ kb⟩
end Go.Proofs.YthjhgmcikfekmaaDoor
