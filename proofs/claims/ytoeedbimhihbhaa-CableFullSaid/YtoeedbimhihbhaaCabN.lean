/- CableFull: its walk. -/
import Derived.Test.YtoeedbimhihbhaaCabM
namespace Go.Proofs.Ytoeedbimhihbhaa
open Go.RowKit

set_option maxRecDepth 100000 in
set_option maxHeartbeats 8000000 in
theorem full_any (y : Nat) (hy : y < 256) (w : World) :
    Calls Try.prog 9 #[.int .u8 y] w fun e w' => e = .returned (.bool true) ∧ Below w.heap.size w w' := by
  go_enter Try.func9, Try.ntmps9
  go_wp2_with fail
  refine (awake_any w).mono ?_
  rintro e w1 ⟨rfl, hb⟩
  have NW := box (new_ok 1 (by decide) (by decide) none 0 0 [] rfl (by decide) (fun _ => rfl) rfl w1 (.inl rfl))
  go_wp2_with fail
  refine NW.out.mono ?_
  rintro e w2 ⟨g, fa, fc, rfl, hb1, x1⟩
  have X1 := box x1
  have K1 := box hb1
  have HB := box hb
  clear NW x1 hb1 hb
  obtain ⟨N, hN⟩ : ∃ N, 64 + y % 20 = N := ⟨_, rfl⟩
  have hN2 : (64 : Int) + (y : Int) % 20 = (N : Int) := by omega
  have hN3 : 64 ≤ N ∧ N < 84 := by omega
  have HN := box hN
  clear hN
  go_wp2_with fail
  go_loopw [24] (fun t24 wr => ∃ (i : Nat) (v : Value) (fl : List Fl), i ≤ N ∧ t24 = .int .i64 i ∧ Box (fl.length = min i 64) ∧ Box (∀ j (h : j < fl.length), fl[j].xs = [j] ∧ fl[j].t = 1) ∧ Box (CabAt w1.heap.size (fun k => k < w1.heap.size) wr g v ⟨1, fa, fc, [], true, 0, i, fl, i - 64⟩) ∧ Box (Below w1.heap.size w1 wr)) (fun t24 _ => N - (intOf t24).toNat)
  case atStart => exact ⟨0, _, [], by omega, rfl, box rfl, box (fun j h => by simp at h), X1, K1⟩
  case round =>
    obtain ⟨i, v, fl, hi, rfl, hfl, hfs, hX, hbel⟩ := hrel
    by_cases hlt : i < N
    · have hi84 : i < 84 := by omega
      have SL := box (send_lit w1.heap.size (fun k => k < w1.heap.size) g v _ wr (fun k h => Nat.lt_of_lt_of_le h hbel.out.size) hX.out 1 [i] rfl (fun x hx => by simp at hx; omega) (by decide) (by simp) (by simp) (by simp; omega) (by simp; omega))
      by_cases h64 : 64 ≤ i
      · have d64 : decide (64 ≤ i) = true := decide_eq_true h64
        go_wp2_with fail
        refine SL.out.mono ?_
        rintro e w4 ⟨v4, s4, code, rfl, hr, x4, st4⟩
        obtain ⟨rfl, rfl⟩ := sendN_full (by rw [hfl.out]; omega) hr
        have X4 := box x4
        have B4 := box (hX.out.steps st4 hbel.out)
        clear x4 st4 hr
        go_wp2_with fail
        go_roundw
        case rel => exact ⟨i + 1, v4, fl, by omega, by go_num, box (by rw [hfl.out]; omega), hfs, box (by rw [show i + 1 - 64 = i - 64 + 1 by omega]; exact X4.out), B4⟩
        case measure => simp [intOf]; omega
      · have d64 : decide (64 ≤ i) = false := decide_eq_false h64
        go_wp2_with fail
        refine SL.out.mono ?_
        rintro e w4 ⟨v4, s4, code, rfl, hr, x4, st4⟩
        obtain ⟨rfl, f, e1, e2, rfl⟩ := sendN_ok (by rw [hfl.out]; omega) hr
        have X4 := box x4
        have B4 := box (hX.out.steps st4 hbel.out)
        have E1 := box e1
        have E2 := box (show f.t = 1 from e2)
        clear x4 st4 hr e1 e2
        go_wp2_with fail
        go_roundw
        case rel =>
          refine ⟨i + 1, v4, fl ++ [f], by omega, by go_num, box (by rw [List.length_append, hfl.out]; simp; omega), box (fun j h => ?_), box (by have h := X4.out; rw [show i + 1 - 64 = i - 64 by omega]; exact h), B4⟩
          have hl := hfl.out
          by_cases hj : j < fl.length
          · rw [List.getElem_append_left hj]; exact hfs.out j hj
          · have hji : j = fl.length := by rw [List.length_append] at h; simp at h; omega
            subst hji
            rw [List.getElem_append_right (Nat.le_refl _)]
            simp only [Nat.sub_self, List.getElem_cons_zero]
            rw [show fl.length = i by omega]
            exact ⟨E1.out, E2.out⟩
        case measure => simp [intOf]; omega
    · have hiN : i = N := by omega
      have HI := box hiN
      clear hiN
      have hl64 : fl.length = 64 := by rw [hfl.out]; omega
      have DU := box (show due fl (0 + 1) = 64 by rw [due_all fl (0 + 1) (fun j hj => by rw [(hfs.out j hj).2]; decide), hl64])
      have TK := tick_any w1.heap.size (fun k => k < w1.heap.size) g v _ wr hX.out (by simp)
      simp only [DU.out] at TK
      have TK2 := box TK
      clear TK
      go_wp2_with fail
      refine TK2.out.mono ?_
      rintro e w4 ⟨v4, a4, c4, rfl, hrow, x4, st4, _, hsym⟩
      obtain ⟨b, rfl, _, hlt4, hc⟩ := rows_at hrow (by decide)
      have X4 := box x4
      have B4 := box (hX.out.steps st4 hbel.out)
      have HC := box (show ∀ j (h : j < fl.length), w4.cell? ⟨b, j, none⟩ = some (.slice fl[j].a 1 fl[j].c) ∧ In w4 fl[j].a [j] from fun j h => by
        have h1 := hc j (by rw [List.length_take]; omega)
        have h2 := hsym fl[j] (List.getElem_mem h)
        rw [List.getElem_take] at h1
        have h3 := (hfs.out j h).1
        refine ⟨?_, by rw [← h3]; exact h2.inn⟩
        rw [h1]; show some (Value.slice _ fl[j].xs.length _) = _; rw [h3]; rfl)
      have LO := box (lost_any _ _ _ _ _ _ x4)
      clear x4 st4 hrow hc hsym
      go_wp2_with fail
      go_loop [41] (fun t41 => ∃ j : Nat, j ≤ 64 ∧ t41 = .int .i64 j) (fun t41 => 64 - (intOf t41).toNat)
      case atStart => exact ⟨0, by omega, rfl⟩
      case round =>
        obtain ⟨j, hj, rfl⟩ := hrel
        by_cases hj64 : j < 64
        · obtain ⟨h1, h2⟩ := HC.out j (by omega)
          obtain ⟨q, hq, h3⟩ := in_some h2 (show 0 < 1 by decide)
          rw [hq] at h1
          have h3' : w4.cell? (q.add 0) = some (nU8 j) := h3
          have h3'' : w4.cell? q = some (nU8 j) := by simpa [Addr.add] using h3
          clear h2 h3 hq
          have hb2 : b < w4.heap.size := hlt4
          have j256 : j < 256 := by omega
          have bj : ((j : Int) != (j : Int)) = false := by simp
          go_wp2_with fail
          go_round
          case rel => exact ⟨j + 1, by omega, by go_num⟩
          case measure => simp [intOf]; omega
        · obtain rfl : j = 64 := by omega
          have HLN := box (show (((i - 64 : Nat) : Int) == (N : Int) - 64) = true by have := HI.out; simp; omega)
          go_wp2_with fail
          refine LO.out.mono ?_
          rintro e w5 ⟨rfl, rfl⟩
          go_wp2_with fail
          go_ret
          refine ⟨?_, HB.out.trans (B4.out.mono HB.out.size)⟩
          have h := HLN.out
          simp at h ⊢
          omega
end Go.Proofs.Ytoeedbimhihbhaa
