/- slices.Equal and slices.Clone of bytes: their contracts. -/
import Derived.Test.YthfoakomapmkeaaDoorFrE
namespace Go.Proofs.YthfoakomapmkeaaDoor
open Go.RowKit

set_option maxHeartbeats 8000000 in
theorem equal_any (a b : Option Addr) (n m ca cb : Nat) (xs ys : List Nat) (hn : xs.length = n) (hm : ys.length = m) (hx : ∀ x ∈ xs, x < 256) (hy : ∀ x ∈ ys, x < 256) (hbig : n ≤ 10000) (hbig2 : m ≤ 10000) (w : World) (ha : In w a xs) (hb : In w b ys) (r : Bool) (hr : decide (xs = ys) = r) :
    Calls Tryd.prog 19 #[.slice a n ca, .slice b m cb] w fun e w' => e = .returned (.bool r) ∧ ∃ t, w' = w.drewN t := by
  have HA := box ha
  have HB := box hb
  have HX := box hx
  have HY := box hy
  have HR := box hr
  clear ha hb hx hy hr
  by_cases hnm : n = m
  · subst hnm
    go_enter Tryd.func19, Tryd.ntmps19
    go_wp2_with fail
    go_loopw [13] (fun t13 wr => ∃ k t : Nat, k ≤ n ∧ t13 = .int .i64 k ∧ Box (wr = w.drewN t) ∧ Box (∀ j < k, xs.getD j 0 = ys.getD j 0)) (fun t13 _ => n - (intOf t13).toNat)
    case atStart => exact ⟨0, 0, by omega, rfl, box rfl, box (fun j hj => by omega)⟩
    case round =>
      obtain ⟨k, t, hk, rfl, hwr, heq⟩ := hrel
      by_cases hlt : k < n
      · have kb : Below w.heap.size w wr := by rw [hwr.out]; exact drewN_below w t
        obtain ⟨b1, rfl, c1⟩ := in_some (HA.out.below kb) (show k < xs.length by omega)
        obtain ⟨b2, rfl, c2⟩ := in_some (HB.out.below kb) (show k < ys.length by omega)
        have l1 := getD_lt HX.out (show k < xs.length by omega)
        have l2 := getD_lt HY.out (show k < ys.length by omega)
        obtain ⟨y1, h1⟩ : ∃ y1, xs.getD k 0 = y1 := ⟨_, rfl⟩
        obtain ⟨y2, h2⟩ : ∃ y2, ys.getD k 0 = y2 := ⟨_, rfl⟩
        have H1 := box h1
        have H2 := box h2
        rw [h1] at c1 l1
        rw [h2] at c2 l2
        clear h1 h2
        by_cases hy : y1 = y2
        · have hz : ((y1 : Int) != (y2 : Int)) = false := by simp [hy]
          have HYY := box hy
          clear hy
          go_wp2_with fail
          go_quiet (fail)
          go_wp2_with fail
          go_roundw
          case rel =>
            refine ⟨k + 1, t + nq, by omega, by go_num, box ?_, box (fun j hj => ?_)⟩
            · rw [hwr.out]; exact drewN_two w t nq
            · rcases Nat.lt_or_ge j k with h | h
              · exact heq.out j h
              · obtain rfl : j = k := by omega
                rw [H1.out, H2.out, HYY.out]
          case measure => simp [intOf]; omega
        · have hz : ((y1 : Int) != (y2 : Int)) = true := by simp; omega
          have HV := box (show r = false by
            rw [← HR.out]
            refine decide_eq_false (fun h => hy ?_)
            rw [← H1.out, ← H2.out, h])
          clear hy
          go_wp2_with fail
          go_quiet (fail)
          go_wp2_with fail
          go_ret
          exact ⟨by rw [HV.out]; rfl, t + nq, by rw [hwr.out]; exact drewN_two w t nq⟩
      · have hk' : k = n := by omega
        have HV := box (show r = true by
          rw [← HR.out]
          exact decide_eq_true (list_eq (by omega) (fun j hj => heq.out j (by omega))))
        subst hk'
        go_wp2_with fail
        go_ret
        exact ⟨by rw [HV.out]; rfl, t, hwr.out⟩
  · have hz : ((n : Int) != (m : Int)) = true := by simp; omega
    have HV := box (show r = false by
      rw [← HR.out]
      refine decide_eq_false (fun h => hnm ?_)
      rw [← hn, ← hm, h])
    clear hnm
    go_enter Tryd.func19, Tryd.ntmps19
    go_wp2_with fail
    go_ret
    exact ⟨by rw [HV.out]; rfl, 0, rfl⟩

end Go.Proofs.YthfoakomapmkeaaDoor
