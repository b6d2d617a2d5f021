/- CableCuts: its walk. -/
import Derived.Test.YtoeedbimhihbhaaCabM
namespace Go.Proofs.Ytoeedbimhihbhaa
open Go.RowKit

theorem due_zero {l : List Fl} {t : Nat} (h : ∀ f ∈ l, t < f.t) : due l t = 0 := by
  cases l with
  | nil => rfl
  | cons f r => exact due_stop (f :: r) t 0 (by simp) (fun i hi => absurd hi (Nat.not_lt_zero _)) (h f (List.mem_cons_self ..))

set_option maxRecDepth 100000 in
set_option maxHeartbeats 8000000 in
theorem cuts_any (y0 y1 y2 : Nat) (_h0 : y0 < 256) (_h1 : y1 < 256) (_h2 : y2 < 256) (w : World) :
    Calls Try.prog 8 #[.int .u8 y0, .int .u8 y1, .int .u8 y2] w fun e w' => e = .returned (.bool true) ∧ Below w.heap.size w w' := by
  go_enter Try.func8, Try.ntmps8
  go_wp2_with fail
  refine (awake_any w).mono ?_
  rintro e w1 ⟨rfl, hb⟩
  obtain ⟨A, hA⟩ : ∃ A, y0 % 20 = A := ⟨_, rfl⟩
  obtain ⟨D, hD⟩ : ∃ D, y1 % 20 = D := ⟨_, rfl⟩
  obtain ⟨N, hN⟩ : ∃ N, y2 % 20 = N := ⟨_, rfl⟩
  have eA : (y0 : Int) % 20 = (A : Int) := by omega
  have eD : (y1 : Int) % 20 = (D : Int) := by omega
  have eN : (y2 : Int) % 20 = (N : Int) := by omega
  have lA : A < 20 := by omega
  have lD : D < 20 := by omega
  have lN : N < 20 := by omega
  clear hA hD hN
  have NW := box (new_ok 3 (by decide) (by decide) none 0 0 [] rfl (by decide) (fun _ => rfl) rfl w1 (.inl rfl))
  have HB := box hb
  clear hb
  go_wp2_with fail
  refine NW.out.mono ?_
  rintro e w2 ⟨g, fa, fc, rfl, hb1, x1⟩
  have X1 := box x1
  have K1 := box hb1
  clear NW x1 hb1
  go_wp2_with fail
  go_loopw [33] (fun t33 wr => ∃ (i : Nat) (v : Value) (fl : List Fl), i ≤ A ∧ t33 = .int .i64 i ∧ Box (fl.length = i) ∧ Box (CabAt w1.heap.size (fun k => k < w1.heap.size) wr g v ⟨3, fa, fc, [], true, 0, i, fl, 0⟩) ∧ Box (Below w1.heap.size w1 wr)) (fun t33 _ => A - (intOf t33).toNat)
  case atStart => exact ⟨0, _, [], by omega, rfl, box rfl, X1, K1⟩
  case round =>
    obtain ⟨i, v, fl, hi, rfl, hfl, hX, hbel⟩ := hrel
    by_cases hlt : i < A
    · have SL := box (send_lit w1.heap.size (fun k => k < w1.heap.size) g v _ wr (fun k h => Nat.lt_of_lt_of_le h hbel.out.size) hX.out 1 [1] rfl (by decide) (by decide) (by simp) (by simp) (by simp; omega) (by simp))
      go_wp2_with fail
      refine SL.out.mono ?_
      rintro e w4 ⟨v4, s4, code, rfl, hr, x4, st4⟩
      obtain ⟨rfl, f, e1, e2, rfl⟩ := sendN_ok (by rw [hfl.out]; omega) hr
      have X4 := box x4
      have B4 := box (hX.out.steps st4 hbel.out)
      clear x4 st4 hr e1 e2
      go_wp2_with fail
      go_roundw
      case rel => exact ⟨i + 1, v4, fl ++ [f], by omega, by go_num, box (by rw [List.length_append, hfl.out]; rfl), X4, B4⟩
      case measure => simp [intOf]; omega
    have HI := box (show i = A by omega)
    have CU := box (cut_any _ _ _ _ _ (by simp) wr hX.out)
    go_wp2_with fail
    refine CU.out.mono ?_
    rintro e w3 ⟨rfl, x3, st3⟩
    have X3 := box (show CabAt w1.heap.size (fun k => k < w1.heap.size) w3 g (.slice none 0 0) ⟨3, fa, fc, [], false, 0, i, [], A⟩ by
      have h := x3
      have e : (0 + fl.length : Nat) = A := by rw [hfl.out, HI.out]; omega
      simp only [e] at h
      exact h)
    have B3 := box (hX.out.steps st3 hbel.out)
    clear x3 st3 CU
    go_wp2_with fail
    go_loopw [42] (fun t42 wr => ∃ (j : Nat) (v : Value), j ≤ D ∧ t42 = .int .i64 j ∧ Box (CabAt w1.heap.size (fun k => k < w1.heap.size) wr g v ⟨3, fa, fc, [], false, 0, i + j, [], A + j⟩) ∧ Box (Below w1.heap.size w1 wr)) (fun t42 _ => D - (intOf t42).toNat)
    case atStart => exact ⟨0, _, by omega, rfl, X3, B3⟩
    case round =>
      obtain ⟨j, v, hj, rfl, hX, hbel⟩ := hrel
      by_cases hlt : j < D
      · have SL := box (send_lit w1.heap.size (fun k => k < w1.heap.size) g v _ wr (fun k h => Nat.lt_of_lt_of_le h hbel.out.size) hX.out 1 [2] rfl (by decide) (by decide) (by simp) (by simp) (by simp; omega) (by simp; omega))
        go_wp2_with fail
        refine SL.out.mono ?_
        rintro e w4 ⟨v4, s4, code, rfl, hr, x4, st4⟩
        obtain ⟨rfl, rfl⟩ := sendN_down hr
        have X4 := box x4
        have B4 := box (hX.out.steps st4 hbel.out)
        clear x4 st4 hr
        go_wp2_with fail
        go_roundw
        case rel => exact ⟨j + 1, v4, by omega, by go_num, X4, B4⟩
        case measure => simp [intOf]; omega
      have HJ := box (show j = D by omega)
      have ME := box (mend_any _ _ _ _ _ wr hX.out)
      go_wp2_with fail
      refine ME.out.mono ?_
      rintro e w5 ⟨rfl, x5, st5⟩
      have X5 := box x5
      have B5 := box (hX.out.steps st5 hbel.out)
      clear x5 st5 ME
      go_wp2_with fail
      go_loopw [51] (fun t51 wr => ∃ (k : Nat) (v : Value) (fl : List Fl), k ≤ N ∧ t51 = .int .i64 k ∧ Box (fl.length = k) ∧ Box (∀ f ∈ fl, f.xs = [3] ∧ f.t = 3) ∧ Box (CabAt w1.heap.size (fun k => k < w1.heap.size) wr g v ⟨3, fa, fc, [], true, 0, i + j + k, fl, A + j⟩) ∧ Box (Below w1.heap.size w1 wr)) (fun t51 _ => N - (intOf t51).toNat)
      case atStart => exact ⟨0, _, [], by omega, rfl, box rfl, box (fun f h => by cases h), X5, B5⟩
      case round =>
        obtain ⟨k, v, fl, hk, rfl, hfl, hfs, hX, hbel⟩ := hrel
        by_cases hlt : k < N
        · have SL := box (send_lit w1.heap.size (fun k => k < w1.heap.size) g v _ wr (fun k h => Nat.lt_of_lt_of_le h hbel.out.size) hX.out 1 [3] rfl (by decide) (by decide) (by simp) (by simp) (by simp; omega) (by simp; omega))
          go_wp2_with fail
          refine SL.out.mono ?_
          rintro e w4 ⟨v4, s4, code, rfl, hr, x4, st4⟩
          obtain ⟨rfl, f, e1, e2, rfl⟩ := sendN_ok (by rw [hfl.out]; omega) hr
          have X4 := box x4
          have B4 := box (hX.out.steps st4 hbel.out)
          have E1 := box e1
          have E2 := box e2
          clear x4 st4 hr e1 e2
          go_wp2_with fail
          go_roundw
          case rel =>
            refine ⟨k + 1, v4, fl ++ [f], by omega, by go_num, box (by rw [List.length_append, hfl.out]; rfl), box (fun h hh => ?_), X4, B4⟩
            rcases List.mem_append.1 hh with hh | hh
            · exact hfs.out h hh
            · obtain rfl := List.mem_singleton.1 hh
              exact ⟨E1.out, E2.out⟩
          case measure => simp [intOf]; omega
        have HK := box (show k = N by omega)
        have FLY := box (show Calls Try.prog 15 #[.pointer (some ⟨g, 0, none⟩)] wr fun e w' => e = .returned (.int .i64 N) ∧ wr = w' by
          have h := flying_any _ _ _ _ _ _ hX.out
          simp only [hfl.out, HK.out] at h
          exact h)
        have LO := box (show Calls Try.prog 16 #[.pointer (some ⟨g, 0, none⟩)] wr fun e w' => e = .returned (.int .i64 ((A : Int) + (D : Int))) ∧ wr = w' by
          have h := lost_any _ _ _ _ _ _ hX.out
          have e : ((A + j : Nat) : Int) = (A : Int) + (D : Int) := by rw [HJ.out]; push_cast; rfl
          simp only [e] at h
          exact h)
        have T1 := box (show due fl 1 = 0 from due_zero (fun f hf => by rw [(hfs.out f hf).2]; decide))
        have T2 := box (show due fl 2 = 0 from due_zero (fun f hf => by rw [(hfs.out f hf).2]; decide))
        have T3 := box (show due fl 3 = N by rw [due_all fl 3 (fun i hi => by rw [(hfs.out _ (List.getElem_mem hi)).2]; decide), hfl.out, HK.out])
        have bN : ((N : Int) != (N : Int)) = false := by simp
        have bL : ((A : Int) + (D : Int) != (A : Int) + (D : Int)) = false := by simp
        go_wp2_with fail
        refine FLY.out.mono ?_
        rintro e w6 ⟨rfl, rfl⟩
        go_wp2_with fail
        refine LO.out.mono ?_
        rintro e w6 ⟨rfl, rfl⟩
        go_wp2_with fail
        refine (tick_any _ _ g v _ wr hX.out (by simp)).mono ?_
        rintro e w6 ⟨v6, a6, c6, he, _, x6, st6, _, _⟩
        have he : e = .returned (.slice a6 (due fl 1) c6) := he
        have x6 : CabAt w1.heap.size (fun k => k < w1.heap.size) w6 g v6 ⟨3, fa, fc, [], true, 1, i + j + k, fl.drop (due fl 1), A + j⟩ := x6
        rw [T1.out] at he x6
        subst he
        have X6 := box (show CabAt w1.heap.size (fun k => k < w1.heap.size) w6 g v6 ⟨3, fa, fc, [], true, 1, i + j + k, fl, A + j⟩ from x6)
        have B6 := box (hX.out.steps st6 hbel.out)
        clear x6 st6
        go_wp2_with fail
        refine (tick_any _ _ g v6 _ w6 X6.out (by simp)).mono ?_
        rintro e w7 ⟨v7, a7, c7, he, _, x7, st7, _, _⟩
        have he : e = .returned (.slice a7 (due fl 2) c7) := he
        have x7 : CabAt w1.heap.size (fun k => k < w1.heap.size) w7 g v7 ⟨3, fa, fc, [], true, 2, i + j + k, fl.drop (due fl 2), A + j⟩ := x7
        rw [T2.out] at he x7
        subst he
        have X7 := box (show CabAt w1.heap.size (fun k => k < w1.heap.size) w7 g v7 ⟨3, fa, fc, [], true, 2, i + j + k, fl, A + j⟩ from x7)
        have B7 := box (X6.out.steps st7 B6.out)
        clear x7 st7
        go_wp2_with fail
        refine (tick_any _ _ g v7 _ w7 X7.out (by simp)).mono ?_
        rintro e w8 ⟨v8, a8, c8, he, hrow, x8, st8, _, hsym⟩
        have he : e = .returned (.slice a8 (due fl 3) c8) := he
        have hrow : w8.ownsRow w7.heap.size 36 1 (.slice a8 (due fl 3) c8) (due fl 3) ((fl.take (due fl 3)).map slV) := hrow
        have hsym : ∀ f ∈ fl, SymIn _ w8 f.a f.c f.xs := hsym
        rw [T3.out] at he hrow
        subst he
        have B8 := box (X7.out.steps st8 B7.out)
        have HROW := box hrow
        have HSYM := box (fun f hf => (hsym f hf).inn)
        have ST : ((strOf [3]).toList == [3]) = true := by rw [ByteArray.toList_eq]; decide
        have ST2 : ((strOf [3]).toList != [3]) = false := by rw [bne, ST]; rfl
        clear x8 st8 hrow hsym FLY LO
        go_wp2_with fail
        go_loop [85] (fun t85 => ∃ q : Nat, q ≤ N ∧ t85 = .int .i64 q) (fun t85 => N - (intOf t85).toNat)
        case atStart => exact ⟨0, by omega, rfl⟩
        case round =>
          obtain ⟨q, hq, rfl⟩ := hrel
          by_cases hqN : q < N
          · have hqf : q < fl.length := by rw [hfl.out, HK.out]; exact hqN
            obtain ⟨b, rfl, _, hlt8, hc⟩ := rows_at HROW.out (by omega)
            have hc1 := hc q (by rw [List.length_take]; omega)
            rw [List.getElem_take] at hc1
            have hin := HSYM.out fl[q] (List.getElem_mem hqf)
            have hxs := (hfs.out fl[q] (List.getElem_mem hqf)).1
            generalize fl[q] = f at hc1 hin hxs
            have hc2 : w8.cell? ⟨b, q, none⟩ = some (.slice f.a 1 f.c) := by rw [hc1]; show some (Value.slice f.a f.xs.length f.c) = _; rw [hxs]; rfl
            rw [hxs] at hin
            have cv := conv_any (c := f.c) (n := 1) rfl hin
            clear hc hc1 hin hxs
            go_wp2_with fail
            go_round
            case rel => exact ⟨q + 1, by omega, by go_num⟩
            case measure => simp [intOf]; omega
          · have HQ := box (show q = N by omega)
            have bq : ((N : Int) == (N : Int)) = true := by simp
            go_wp2_with fail
            go_ret
            exact ⟨by simp, HB.out.trans (B8.out.mono HB.out.size)⟩
end Go.Proofs.Ytoeedbimhihbhaa
