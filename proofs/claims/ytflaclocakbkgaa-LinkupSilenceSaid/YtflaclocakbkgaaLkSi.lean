/- LinkupSilence: its walk. -/
import Derived.Test.YtflaclocakbkgaaLkAp
namespace Go.Proofs.Ytflaclocakbkgaa
open Go.RowKit

set_option maxRecDepth 100000 in
set_option maxHeartbeats 8000000 in
theorem silent_any (x0 : Nat) (hx0 : x0 < 256) (a : Option Addr) (m cp : Nat) (xs : List Nat) (hm : xs.length = m) (hxs : ∀ x ∈ xs, x < 256) (w : World) (hin : In w a xs) :
    Calls Try.prog 5 #[nU8 x0, .slice a m cp] w fun e w' => e = .returned (.bool true) ∧ Below w.heap.size w w' := by
  obtain ⟨n, hn⟩ : ∃ n, 1 + x0 % 60 = n := ⟨_, rfl⟩
  have hn2 : 1 + (x0 : Int) % 60 = (n : Int) := by omega
  have hn3 : 1 ≤ n ∧ n ≤ 60 := by omega
  have HI := box hin
  have HM := box hm
  have HX := box hxs
  have FL := fld1
  clear hin hm hn hxs
  have AW := box (awake_any w)
  have ES := eq_gr
  go_enter Try.func5, Try.ntmps5
  go_wp2_with fail
  refine AW.out.mono ?_
  rintro e w1 ⟨rfl, b1⟩
  have B1 := box b1
  clear AW b1
  obtain ⟨g, hg⟩ : ∃ g, w1.heap.size = g := ⟨_, rfl⟩
  have CN := box (new_s 3 n 3 n rfl rfl (by unfold MAXN; omega) B1.out B1.out.size hg)
  clear hg
  go_wp2_with fail
  (try simp only [hn2])
  refine CN.out.mono ?_
  rintro e w2 ⟨rfl, x, -⟩
  have X := box x
  clear x CN B1
  by_cases h10 : 10 < m
  · go_wp2_with fail
    go_ret
    exact ⟨rfl, X.out.bel⟩
  · go_wp2_with fail
    (try simp only [hn2])
    go_loopw [41] (fun t41 wr => ∃ (j : Nat) (s : Sv), j ≤ m ∧ t41 = .int .i64 j ∧ (s.recvS 9 3 = ⟨3, n, 9, 9, 2, 0, 1⟩ ∧ s.changes ≤ 1) ∧ Box (S1 w.heap.size w wr g s)) (fun t41 _ => m - (intOf t41).toNat)
    case atStart => exact ⟨0, _, by omega, rfl, ⟨rfl, Nat.zero_le _⟩, X⟩
    case round =>
      clear X
      obtain ⟨j, s, hj, rfl, hS, hX⟩ := hrel
      by_cases hlt : j < m
      · obtain ⟨ad, rfl, cx⟩ := in_some (HI.out.below hX.out.bel) (show j < xs.length by rw [HM.out]; exact hlt)
        obtain ⟨y, hy⟩ : ∃ y, xs.getD j 0 = y := ⟨_, rfl⟩
        have hy3 : y < 256 := by rw [← hy]; exact getD_lt HX.out (by rw [HM.out]; exact hlt)
        rw [hy] at cx
        obtain ⟨qq, hq⟩ : ∃ qq, y % n = qq := ⟨_, rfl⟩
        have hq2 : (y : Int) % (n : Int) = (qq : Int) := by rw [← hq]; norm_cast
        have hq4 : (y : Int).tmod (n : Int) = (qq : Int) := by rw [← hq]; rfl
        have hq3 : qq < n := by rw [← hq]; exact Nat.mod_lt y (by omega)
        clear hy hq
        have CR := recv_s hX.out (by have := hS.2; omega) 9 3
        rw [hS.1] at CR
        replace CR := box CR
        obtain ⟨bb, hbb⟩ : ∃ bb, s.recvB 9 3 = bb := ⟨_, rfl⟩
        rw [hbb] at CR
        clear hbb
        go_wp2_with fail
        refine CR.out.mono ?_
        rintro e w3 ⟨rfl, x, -⟩
        have X := box x
        clear x CR cx hX hS
        go_wp2_with fail
        (try simp only [hq2, hq4])
        go_loopw [52] (fun t52 wr => ∃ i : Nat, i ≤ qq ∧ t52 = .int .i64 i ∧ Box (S1 w.heap.size w wr g ⟨3, n, 9, 9, 2, i, 1⟩)) (fun t52 _ => qq - (intOf t52).toNat)
        case atStart => exact ⟨0, by omega, rfl, X⟩
        case round =>
          clear X
          obtain ⟨i, hi, rfl, hX⟩ := hrel
          by_cases hlq : i < qq
          · have CT := box (tick_l hX.out (by show i ≤ 1000; omega) (by show 1 ≤ 1000000; omega) ⟨3, n, 9, 9, 2, i + 1, 1⟩ 3 9 (by unfold Sv.tickS; rw [if_neg (by show ¬ (9 = 0); omega), if_neg (by show ¬ (n ≤ i + 1); omega)]) rfl rfl)
            go_wp2_with fail
            refine CT.out.mono ?_
            rintro e w4 ⟨rfl, x, -⟩
            have X := box x
            clear x CT hX
            go_wp2_with fail
            go_roundw
            case rel => exact ⟨i + 1, by omega, by go_num, X⟩
            case measure => simp [intOf]; omega
          · obtain rfl : i = qq := by omega
            have CS := box (state_l hX.out 2 rfl)
            have CP := box (peer_l hX.out 9 rfl)
            go_wp2_with fail
            refine CS.out.mono ?_
            rintro e w5 ⟨rfl, rfl⟩
            go_wp2_with fail
            refine CP.out.mono ?_
            rintro e w6 ⟨rfl, rfl⟩
            clear CS CP
            go_wp2_with fail
            go_roundw
            case rel => exact ⟨j + 1, ⟨3, n, 9, 9, 2, i, 1⟩, by omega, by go_num, ⟨rfl, Nat.le_refl 1⟩, hX⟩
            case measure => simp [intOf]; omega
      · obtain rfl : j = m := by omega
        have CR := recv_s hX.out (by have := hS.2; omega) 9 3
        rw [hS.1] at CR
        replace CR := box CR
        obtain ⟨bb, hbb⟩ : ∃ bb, s.recvB 9 3 = bb := ⟨_, rfl⟩
        rw [hbb] at CR
        clear hbb
        go_wp2_with fail
        refine CR.out.mono ?_
        rintro e w3 ⟨rfl, x, -⟩
        have X := box x
        clear x CR hX hS
        go_wp2_with fail
        go_loopw [72] (fun t72 wr => ∃ i : Nat, i ≤ n ∧ t72 = .int .i64 i ∧ Box (S1 w.heap.size w wr g (if i < n then ⟨3, n, 9, 9, 2, i, 1⟩ else ⟨3, n, 0, 9, 0, 0, 2⟩))) (fun t72 _ => n - (intOf t72).toNat)
        case atStart => exact ⟨0, by omega, rfl, by rw [if_pos (by omega)]; exact X⟩
        case round =>
          clear X
          obtain ⟨i, hi, rfl, hX⟩ := hrel
          by_cases hlq : i < n
          · rw [if_pos hlq] at hX
            by_cases hl2 : i + 1 < n
            · have CT := box (tick_l hX.out (by show i ≤ 1000; omega) (by show 1 ≤ 1000000; omega) ⟨3, n, 9, 9, 2, i + 1, 1⟩ 3 9 (by unfold Sv.tickS; rw [if_neg (by show ¬ (9 = 0); omega), if_neg (by show ¬ (n ≤ i + 1); omega)]) rfl rfl)
              have hl3 : (i : Int) < (n : Int) - 1 := by omega
              go_wp2_with fail
              refine CT.out.mono ?_
              rintro e w4 ⟨rfl, x, -⟩
              have X := box x
              clear x CT hX
              go_wp2_with fail
              go_roundw
              case rel => exact ⟨i + 1, by omega, by go_num, by rw [if_pos hl2]; exact X⟩
              case measure => simp [intOf]; omega
            · have CT := box (tick_l hX.out (by show i ≤ 1000; omega) (by show 1 ≤ 1000000; omega) ⟨3, n, 0, 9, 0, 0, 2⟩ 3 0 (by unfold Sv.tickS; rw [if_neg (by show ¬ (9 = 0); omega), if_pos (by show n ≤ i + 1; omega)]; rfl) rfl rfl)
              have hl3 : ¬ ((i : Int) < (n : Int) - 1) := by omega
              have hl4 : (n : Int) - 1 ≤ (i : Int) := by omega
              go_wp2_with fail
              refine CT.out.mono ?_
              rintro e w4 ⟨rfl, x, -⟩
              have X := box x
              clear x CT hX
              go_wp2_with fail
              go_roundw
              case rel => exact ⟨i + 1, by omega, by go_num, by rw [if_neg hl2]; exact X⟩
              case measure => simp [intOf]; omega
          · obtain rfl : i = n := by omega
            rw [if_neg (by omega)] at hX
            have CS := box (state_l hX.out 0 rfl)
            have CP := box (peer_l hX.out 0 rfl)
            have CA := box (accepts_l hX.out 9 false rfl)
            have CT := box (tick_l hX.out (by show 0 ≤ 1000; omega) (by show 2 ≤ 1000000; omega) ⟨3, i, 0, 9, 0, 0, 2⟩ 3 0 rfl rfl rfl)
            go_wp2_with fail
            refine CS.out.mono ?_
            rintro e w5 ⟨rfl, rfl⟩
            go_wp2_with fail
            refine CP.out.mono ?_
            rintro e w6 ⟨rfl, rfl⟩
            go_wp2_with fail
            refine CA.out.mono ?_
            rintro e w7 ⟨rfl, rfl⟩
            go_wp2_with fail
            refine CT.out.mono ?_
            rintro e w8 ⟨rfl, x, -⟩
            have X := box x
            clear x CT hX
            go_wp2_with fail
            go_ret
            exact ⟨rfl, X.out.bel⟩
end Go.Proofs.Ytflaclocakbkgaa
