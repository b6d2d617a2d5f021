/- Same, and the laws' first call: the chapter's examples hold. -/
import Derived.Test.YthjhgmcikfekmaaDoorLinC
namespace Go.Proofs.YthjhgmcikfekmaaDoor
open Go.RowKit

theorem list_eq {xs ys : List Nat} (hl : xs.length = ys.length) (h : ∀ j < xs.length, xs.getD j 0 = ys.getD j 0) : xs = ys := by
  apply List.ext_getElem hl
  intro j h1 h2
  have := h j h1
  simpa [List.getD_eq_getElem?_getD, List.getElem?_eq_getElem h1, List.getElem?_eq_getElem h2] using this
theorem in_some {w : World} {a : Option Addr} {xs : List Nat} {k : Nat} (h : In w a xs) (hk : k < xs.length) : ∃ b, a = some b ∧ w.cell? (b.add k) = some (nU8 (xs.getD k 0)) := by
  rcases h with rfl | ⟨b, rfl, hat⟩
  · simp at hk
  · exact ⟨b, rfl, hat k hk⟩
theorem drewN_below (w : World) (m : Nat) : Below w.heap.size w (w.drewN m) := below_drewN m (Below.refl _ _)

theorem drewN_two (w : World) (t n : Nat) : (w.drewN t).drewN n = w.drewN (t + n) := by simp [World.drewN, Nat.add_assoc]

set_option maxHeartbeats 8000000 in
theorem same_any (a b : Option Addr) (n m ca cb : Nat) (xs ys : List Nat) (hn : xs.length = n) (hm : ys.length = m) (hx : ∀ x ∈ xs, x < 256) (hy : ∀ x ∈ ys, x < 256) (hbig : n ≤ 10000) (hbig2 : m ≤ 10000) (w : World) (ha : In w a xs) (hb : In w b ys) (r : Bool) (hr : decide (xs = ys) = r) :
    Calls Tryd.prog 20 #[.slice a n ca, .slice b m cb] w fun e w' => e = .returned (.bool r) ∧ ∃ t, w' = w.drewN t := by
  have HA := box ha
  have HB := box hb
  have HX := box hx
  have HY := box hy
  have HR := box hr
  clear ha hb hx hy hr
  by_cases hnm : n = m
  · subst hnm
    go_enter Tryd.func20, Tryd.ntmps20
    go_wp2_with fail
    go_loopw [5] (fun t5 wr => ∃ k t : Nat, k ≤ n ∧ t5 = .int .i64 k ∧ Box (wr = w.drewN t) ∧ Box (∀ j < k, xs.getD j 0 = ys.getD j 0)) (fun t5 _ => n - (intOf t5).toNat)
    case atStart => exact ⟨0, 0, by omega, rfl, box rfl, box (fun j hj => by omega)⟩
    case round =>
      obtain ⟨k, t, hk, rfl, hwr, heq⟩ := hrel
      by_cases hlt : k < n
      · have kb : Below w.heap.size w wr := by rw [hwr.out]; exact drewN_below w t
        obtain ⟨b1, rfl, c1⟩ := in_some (HA.out.below kb) (show k < xs.length by omega)
        obtain ⟨b2, rfl, c2⟩ := in_some (HB.out.below kb) (show k < ys.length by omega)
        have l1 := getD_lt HX.out (show k < xs.length by omega)
        have l2 := getD_lt HY.out (show k < ys.length by omega)
        obtain ⟨y1, h1⟩ : ∃ y1, xs.getD k 0 = y1 := ⟨_, rfl⟩
        obtain ⟨y2, h2⟩ : ∃ y2, ys.getD k 0 = y2 := ⟨_, rfl⟩
        have H1 := box h1
        have H2 := box h2
        rw [h1] at c1 l1
        rw [h2] at c2 l2
        clear h1 h2
        by_cases hy : y1 = y2
        · have hz : ((y1 : Int) != (y2 : Int)) = false := by simp [hy]
          have HYY := box hy
          clear hy
          go_wp2_with fail
          go_quiet (fail)
          go_wp2_with fail
          go_roundw
          case rel =>
            refine ⟨k + 1, t + nq, by omega, by go_num, box ?_, box (fun j hj => ?_)⟩
            · rw [hwr.out]; exact drewN_two w t nq
            · rcases Nat.lt_or_ge j k with h | h
              · exact heq.out j h
              · obtain rfl : j = k := by omega
                rw [H1.out, H2.out, HYY.out]
          case measure => simp [intOf]; omega
        · have hz : ((y1 : Int) != (y2 : Int)) = true := by simp; omega
          have HV := box (show r = false by
            rw [← HR.out]
            refine decide_eq_false (fun h => hy ?_)
            rw [← H1.out, ← H2.out, h])
          clear hy
          go_wp2_with fail
          go_quiet (fail)
          go_wp2_with fail
          go_ret
          exact ⟨by rw [HV.out]; rfl, t + nq, by rw [hwr.out]; exact drewN_two w t nq⟩
      · have hk' : k = n := by omega
        have HV := box (show r = true by
          rw [← HR.out]
          exact decide_eq_true (list_eq (by omega) (fun j hj => heq.out j (by omega))))
        subst hk'
        go_wp2_with fail
        go_ret
        exact ⟨by rw [HV.out]; rfl, t, hwr.out⟩
  · have hz : ((n : Int) != (m : Int)) = true := by simp; omega
    have HV := box (show r = false by
      rw [← HR.out]
      refine decide_eq_false (fun h => hnm ?_)
      rw [← hn, ← hm, h])
    clear hnm
    go_enter Tryd.func20, Tryd.ntmps20
    go_wp2_with fail
    go_ret
    exact ⟨by rw [HV.out]; rfl, 0, rfl⟩

theorem enc_ex : enc [31] = [11, 44] := by decide

set_option maxHeartbeats 8000000 in
theorem awake_any (w : World) (hT : HasTab w) : Calls Tryd.prog 12 #[] w fun e w' => e = .returned (.bool true) ∧ Below w.heap.size w w' := by
  have HT := box hT
  clear hT
  have D := box (data_ok 15 (by decide) w HT.out)
  have C := box (control_ok 3 (by decide) w HT.out)
  have s1 : syms.getD 15 0 = 44 := rfl
  have s2 : syms.getD (16 + 3) 0 = 56 := rfl
  rw [s1] at D
  rw [s2] at C
  clear s1 s2
  go_enter Tryd.func12, Tryd.ntmps12
  go_wp2_with fail
  refine D.out.mono ?_
  rintro e w1 ⟨rfl, rfl⟩
  go_wp2_with fail
  refine C.out.mono ?_
  rintro e w1 ⟨rfl, rfl⟩
  go_wp2_with fail
  refine (encode_any _ 1 1 [31] rfl (by simp) (by omega) _ (in_mark w [31] 5 (0, 0) _ rfl) (HT.out.below ((Below.refl _ _).alloc (Nat.le_refl _) _))).mono ?_
  rintro e w1 ⟨v, rfl, hown, hb⟩
  rw [enc_ex] at hown
  obtain ⟨a, c, rfl, hin, _, _⟩ := own_form (n := 2) rfl hown
  have HI := box hin
  have kb : Below w.heap.size w w1 := ((Below.refl _ _).alloc (Nat.le_refl _) _).trans (hb.mono (size_alloc _ _ (Nat.le_refl _)))
  clear hin hown hb
  go_wp2_with fail
  refine (same_any _ _ 2 2 _ _ [11, 44] [11, 44] rfl rfl (by simp) (by simp) (by omega) (by omega) _ (HI.out.below ((Below.refl _ _).alloc (Nat.le_refl _) _)) (in_mark w1 [11, 44] 5 (0, 0) _ rfl) true (by decide)).mono ?_
  rintro e w2 ⟨rfl, t, rfl⟩
  go_wp2_with fail
  go_ret
  exact ⟨rfl, below_drewN t (kb.alloc kb.size _)⟩
end Go.Proofs.YthjhgmcikfekmaaDoor
