/- RetryNaks: its walk. -/
import Derived.Test.YtfpicobjnpjhlaaRetUn
namespace Go.Proofs.Ytfpicobjnpjhlaa
open Go.RowKit

/-- A sender of which m packets were acknowledged and the ones up to i sent again. -/
structure Run1 (W : Nat) (D : Nat → List Nat) (n m i : Nat) (s : Rs) : Prop where
  W : s.W = W
  τ : s.τ = 5
  len : s.ks.length = n - m
  xs : ∀ (k : Nat) (h : k < s.ks.length), (s.ks[k]'h).xs = D (m + k)
  ac : s.ac = m
  nx : s.nx = i - m
  h1 : i - m ≤ s.hi
  h2 : s.hi ≤ n - m
  si : s.si = 0
theorem Run1.ok {W : Nat} {D : Nat → List Nat} {n m i : Nat} {s : Rs} (h : Run1 W D n m i s) (hD : ∀ k, (D k).length ≤ 64) (h1 : 1 ≤ W) (h2 : W ≤ 128) (h3 : n ≤ W) : s.Ok := by
  obtain ⟨e1, e2, e3, e4, e5, e6, e7, e8, e9⟩ := h
  refine ⟨by omega, by omega, by omega, by omega, by omega, by omega, by omega, by omega, fun k hk => ?_⟩
  obtain ⟨q, hq, rfl⟩ := List.getElem_of_mem hk
  rw [e4 q hq]
  exact hD _
theorem Run0.nak {W : Nat} {D : Nat → List Nat} {n j : Nat} {s : Rs} (h : Run0 W D n j s) (hj : j ≤ 128) (hjn : j ≤ n) (m : Nat) (hm : m ≤ j) : ackK s m = m ∧ Run1 W D n m m (nakS s m) := by
  have hc := h.cnt hj m
  rw [if_pos ⟨by omega, by omega⟩] at hc
  have e1 : ackK s m = m := by unfold ackK; rw [hc]; rfl
  obtain ⟨q1, q2, q3, q4, q5, q6, q7, q8, q9⟩ := h
  refine ⟨e1, ?_⟩
  have e2 : nakS s m = ⟨s.W, s.τ, (ackS s m).ks, (ackS s m).ta, (ackS s m).ac, 0, (ackS s m).hi, 0⟩ := by unfold nakS; rw [if_neg (by rw [hc]; omega)]
  rw [e2]
  by_cases h0 : m = 0
  · have e3 : ackS s m = s := by unfold ackS; rw [if_pos (by rw [hc]; omega)]
    rw [e3]
    subst h0
    exact ⟨q1, q2, by show s.ks.length = n - 0; omega, fun k hk => by rw [Nat.zero_add]; exact q4 k hk, q5, rfl, by show 0 - 0 ≤ s.hi; omega, by show s.hi ≤ n - 0; omega, rfl⟩
  · have e3 : ackS s m = ⟨s.W, s.τ, s.ks.drop m, s.ta, s.ac + m, s.nx - m, s.hi - m, 0⟩ := by unfold ackS; rw [if_neg (by rw [hc]; omega), e1]
    rw [e3]
    refine ⟨q1, q2, by show (s.ks.drop m).length = n - m; rw [List.length_drop]; omega, fun k hk => ?_, by show s.ac + m = m; omega, by show 0 = m - m; omega, by show m - m ≤ s.hi - m; omega, by show s.hi - m ≤ n - m; omega, rfl⟩
    have hk' : k < (s.ks.drop m).length := hk
    show ((s.ks.drop m)[k]'hk').xs = _
    rw [List.getElem_drop]
    exact q4 _ _
theorem Run1.tick {W : Nat} {D : Nat → List Nat} {n m i : Nat} {s : Rs} (h : Run1 W D n m i s) (hmi : m ≤ i) (hin : i < n) (hi : i < 256) : tickI s = some (i - m) ∧ tickN s = i ∧ tickX s = D i ∧ Run1 W D n m (i + 1) (tickS s) := by
  obtain ⟨e1, e2, e3, e4, e5, e6, e7, e8, e9⟩ := h
  have hI : tickI s = some (i - m) := by unfold tickI; rw [if_pos (by omega), e6]
  have hl : i - m < s.ks.length := by omega
  refine ⟨hI, ?_, ?_, ?_⟩
  · unfold tickN; rw [hI]; show (s.ac + (i - m)) % 256 = i; omega
  · unfold tickX; rw [hI]; simp only []; rw [List.getElem?_eq_getElem hl]; show (s.ks[i - m]'hl).xs = _; rw [e4, show m + (i - m) = i by omega]
  · unfold tickS
    rw [hI]
    exact ⟨e1, e2, e3, e4, e5, by show i - m + 1 = i + 1 - m; omega, by show i + 1 - m ≤ max s.hi (i - m + 1); omega, by show max s.hi (i - m + 1) ≤ n - m; omega, rfl⟩

set_option maxRecDepth 100000 in
set_option maxHeartbeats 8000000 in
theorem naks_any (y0 y1 y2 y3 : Nat) (h0 : y0 < 256) (h1 : y1 < 256) (h2 : y2 < 256) (h3 : y3 < 256) (w : World) :
    Calls Try.prog 7 #[nU8 y0, nU8 y1, nU8 y2, nU8 y3] w fun e w' => e = .returned (.bool true) ∧ Below w.heap.size w w' := by
  obtain ⟨W, hW⟩ : ∃ W, y0 % 128 + 1 = W := ⟨_, rfl⟩
  have hW2 : (y0 : Int) % 128 + 1 = (W : Int) := by omega
  have hW3 : 1 ≤ W ∧ W ≤ 128 := by omega
  obtain ⟨N, hN⟩ : ∃ N, y1 % (W + 1) = N := ⟨_, rfl⟩
  have hN2 : (y1 : Int) % ((W : Int) + 1) = (N : Int) := by rw [← hN]; norm_cast
  have hN3 : N ≤ W := by rw [← hN]; have := Nat.mod_lt y1 (show 0 < W + 1 by omega); omega
  obtain ⟨K, hK⟩ : ∃ K, y2 % (N + 1) = K := ⟨_, rfl⟩
  have hK2 : (y2 : Int) % ((N : Int) + 1) = (K : Int) := by rw [← hK]; norm_cast
  have hK3 : K ≤ N := by rw [← hK]; have := Nat.mod_lt y2 (show 0 < N + 1 by omega); omega
  obtain ⟨M, hM⟩ : ∃ M, y3 % (K + 1) = M := ⟨_, rfl⟩
  have hM2 : (y3 : Int) % ((K : Int) + 1) = (M : Int) := by rw [← hM]; norm_cast
  have hM3 : M ≤ K := by rw [← hM]; have := Nat.mod_lt y3 (show 0 < K + 1 by omega); omega
  clear hW hN hK hM
  go_enter Try.func7, Try.ntmps7
  go_wp2_with fail
  refine (awake_any w).mono ?_
  rintro e w1 ⟨rfl, hb⟩
  have HB1 := box hb
  have NW := box (new_any W 5 hW3.1 hW3.2 (by decide) (by decide) w1)
  clear hb
  go_wp2_with fail
  refine NW.out.mono ?_
  rintro e w2 ⟨g, rfl, hg, x2, hb2⟩
  have X2 := box x2
  have K2 := box hb2
  have HZ := box (show ∀ w', Below w1.heap.size w1 w' → ∀ k, k < w1.heap.size → k < w'.heap.size from fun w' h k hk => Nat.lt_of_lt_of_le hk h.size)
  have R2 := box (show Run0 W (fun i => [i]) 0 0 (s0 W 5) from ⟨rfl, rfl, rfl, fun k h => by simp at h, rfl, rfl, rfl, rfl, rfl⟩)
  clear NW x2 hb2
  go_wp2_with fail
  simp only [hN2]
  clear hN2 hW2
  go_loopw [43] (fun t43 wr => ∃ (i : Nat) (v : Value) (s : Rs), i ≤ N ∧ t43 = .int .i64 i ∧ Box (Run0 W (fun i => [i]) i 0 s) ∧ Box (PsAt w1.heap.size (fun k => k < w1.heap.size) wr g v s) ∧ Box (Below w1.heap.size w1 wr)) (fun t43 _ => N - (intOf t43).toNat)
  case atStart => exact ⟨0, _, _, by omega, rfl, R2, X2, K2⟩
  case round =>
    obtain ⟨i, v, s, hi, rfl, hR, hX, hbel⟩ := hrel
    by_cases hlt : i < N
    · have OF := box (offer_lit (0, 0) 1 [i] rfl _ _ g v s wr (HZ.out wr hbel.out) hX.out (by rw [hR.out.len]; omega))
      have i256 : (i : Int) % 256 = (i : Int) := by omega
      have hoc : offC s [i] = 0 := offC_ok (by show 1 ≤ 64; decide) (by rw [hR.out.len, hR.out.W]; omega)
      rw [hoc] at OF
      clear hoc
      go_wp2_with fail
      refine OF.out.mono ?_
      rintro e w4 ⟨v4, a4, c4, rfl, x4, st4⟩
      obtain ⟨-, r4⟩ := hR.out.off (by omega) ⟨a4, [i], c4⟩ rfl (by show 1 ≤ 64; decide)
      have X4 := box x4
      have R4 := box r4
      have B4 := box (hX.out.steps st4 hbel.out)
      clear x4 r4 st4 OF i256
      go_wp2_with fail
      go_roundw
      case rel => exact ⟨i + 1, v4, _, by omega, by go_num, R4, X4, B4⟩
      case measure => simp [intOf]; omega
    · obtain rfl : i = N := by omega
      have KP := pkept_any _ _ g v s _ hX.out
      rw [hR.out.len] at KP
      have KP2 := box KP
      have HR := hR.out
      have OFN : W ≤ i → Calls Try.prog 14 #[.pointer (some ⟨g, 0, none⟩), .slice none 0 0] wr fun e w' => ∃ v', e = .returned (.int .i64 5) ∧ PsAt w1.heap.size (fun k => k < w1.heap.size) w' g v' s ∧ Steps g v v' wr w' := by
        intro hWi
        have hc : offC s [] = 5 := by unfold offC; rw [if_neg (by simp), if_pos (by rw [hR.out.len, hR.out.W]; omega)]
        have h := offer_any none 0 0 [] rfl (fun _ => rfl) _ _ g v s wr (HZ.out wr hbel.out) hX.out (by rw [hR.out.len]; omega) (.inl rfl)
        rw [hc] at h
        refine h.mono ?_
        rintro e w' ⟨v', a', c', he, hx, hst⟩
        have e2 : offS s ⟨a', [], c'⟩ = s := by unfold offS; rw [if_neg (by rw [hc]; decide)]
        rw [e2] at hx
        exact ⟨v', he, hx, hst⟩
      have OFB := box OFN
      clear KP OFN HR
      -- the tail
      by_cases hWi : W ≤ i
      · obtain rfl : i = W := by omega
        have OF5 := box (OFB.out (by omega))
        clear OFB
        go_wp2_with fail
        refine KP2.out.mono ?_
        rintro e w4 ⟨rfl, rfl⟩
        go_wp2_with fail
        refine OF5.out.mono ?_
        rintro e w5 ⟨v5, rfl, x5, st5⟩
        have X5 := box x5
        have B5 := box (hX.out.steps st5 hbel.out)
        clear x5 st5 OF5 hX hbel KP2
        go_wp2_with fail
        simp only [hK2]
        clear hK2
        go_loopw [68] (fun t68 wr => ∃ (j : Nat) (s : Rs), j ≤ K ∧ t68 = .int .i64 j ∧ Box (Run0 i (fun i => [i]) i j s) ∧ Box (PsAt w1.heap.size (fun k => k < w1.heap.size) wr g v5 s) ∧ Box (Below w1.heap.size w1 wr)) (fun t68 _ => K - (intOf t68).toNat)
        case atStart => exact ⟨0, _, by omega, rfl, hR, X5, B5⟩
        case round =>
          clear X5 hR B5
          obtain ⟨j, s, hj, rfl, hR, hX, hbel⟩ := hrel
          have OK := box (hR.out.ok (fun _ => by show 1 ≤ 64; decide) hW3.1 hW3.2 hN3 (by omega))
          by_cases hlt : j < K
          · have TK := box (ptick_any _ _ g v5 s _ hX.out OK.out (by rw [hR.out.ac]; decide))
            go_wp2_with fail
            refine TK.out.mono ?_
            rintro e w6 ⟨a6, c6, rfl, -, x6, st6⟩
            obtain ⟨-, r6⟩ := hR.out.tick (show j < i by omega)
            have X6 := box x6
            have R6 := box r6
            have B6 := box (hX.out.steps st6 hbel.out)
            clear x6 r6 st6 TK
            go_wp2_with fail
            go_roundw
            case rel => exact ⟨j + 1, _, by omega, by go_num, R6, X6, B6⟩
            case measure => simp [intOf]; omega
          · obtain rfl : j = K := by omega
            have hb1 : s.ac < 1000000 := by rw [hR.out.ac]; decide
            have hb2 : s.nx < 1000000 := by rw [hR.out.nx]; omega
            have hb3 : s.hi < 1000000 := by rw [hR.out.hi]; omega
            obtain ⟨ek, rk⟩ := hR.out.nak (by omega) hK3 M hM3
            have NK := pnak_any M _ _ g v5 s _ hX.out OK.out.hi hb1 hb2 hb3
            rw [ek] at NK
            have NK2 := box NK
            have RK := box rk
            have HKL := box rk.len
            have hsub : ((i - M : Nat) : Int) = (i : Int) - (M : Int) := by omega
            clear NK ek rk OK hb1 hb2 hb3
            generalize nakS s M = s7 at NK2 RK HKL
            go_wp2_with fail
            refine NK2.out.mono ?_
            rintro e w7 ⟨v7, rfl, x7, st7⟩
            have KP := pkept_any _ _ g v7 s7 _ x7
            rw [HKL.out, hsub] at KP
            have KP3 := box KP
            have X7 := box x7
            have B7 := box (hX.out.steps st7 hbel.out)
            clear x7 st7 KP NK2
            go_wp2_with fail
            refine KP3.out.mono ?_
            rintro e w8 ⟨rfl, rfl⟩
            go_wp2_with fail
            (try simp only [hM2])
            clear hM2 hsub KP3
            go_loopw [16] (fun t16 wr => ∃ (q : Nat) (s : Rs), M ≤ q ∧ q ≤ i ∧ t16 = .int .i64 q ∧ Box (Run1 i (fun i => [i]) i M q s) ∧ Box (PsAt w1.heap.size (fun k => k < w1.heap.size) wr g v7 s) ∧ Box (Below w1.heap.size w1 wr)) (fun t16 _ => i - (intOf t16).toNat)
            case atStart => exact ⟨M, _, by omega, by omega, rfl, RK, X7, B7⟩
            case round =>
              obtain ⟨q, s9, hq1, hq2, rfl, hR9, hX9, hbel9⟩ := hrel
              by_cases hlt : q < i
              · have OK9 := box (hR9.out.ok (fun _ => by show 1 ≤ 64; decide) hW3.1 hW3.2 hN3)
                obtain ⟨i1, i2, i3, r9⟩ := hR9.out.tick hq1 hlt (by omega)
                have TK := ptick_any _ _ g v7 s9 _ hX9.out OK9.out (by rw [hR9.out.ac]; omega)
                rw [i1, i2, i3] at TK
                have TK2 := box TK
                have R9 := box r9
                have q256 : (q : Int) % 256 = (q : Int) := by omega
                clear TK i1 i2 i3 r9
                go_wp2_with fail
                refine TK2.out.mono ?_
                rintro e w10 ⟨a10, c10, rfl, o10, x10, st10⟩
                obtain ⟨a', c', he, hin, -, -, hblk⟩ := own_any o10
                cases he
                obtain ⟨b, rfl, hcell⟩ := in_some hin (show 0 < [q].length from Nat.one_pos)
                obtain ⟨-, b', rfl⟩ := hblk b rfl
                have hc : w10.cell? ⟨b', 0, none⟩ = some (nU8 q) := hcell
                have X10 := box x10
                have B10 := box (hX9.out.steps st10 hbel9.out)
                clear o10 x10 st10 hin hblk hcell TK2
                go_wp2_with fail
                go_roundw
                case rel => exact ⟨q + 1, _, by omega, by omega, by go_num, R9, X10, B10⟩
                case measure => simp [intOf]; omega
              · go_wp2_with fail
                go_ret
                exact ⟨rfl, HB1.out.trans (hbel9.out.mono HB1.out.size)⟩
      · clear OFB
        go_wp2_with fail
        refine KP2.out.mono ?_
        rintro e w4 ⟨rfl, rfl⟩
        clear KP2
        go_wp2_with fail
        simp only [hK2]
        clear hK2
        go_loopw [68] (fun t68 wr => ∃ (j : Nat) (s : Rs), j ≤ K ∧ t68 = .int .i64 j ∧ Box (Run0 W (fun i => [i]) i j s) ∧ Box (PsAt w1.heap.size (fun k => k < w1.heap.size) wr g v s) ∧ Box (Below w1.heap.size w1 wr)) (fun t68 _ => K - (intOf t68).toNat)
        case atStart => exact ⟨0, _, by omega, rfl, hR, hX, hbel⟩
        case round =>
          clear hX hR hbel
          obtain ⟨j, s, hj, rfl, hR, hX, hbel⟩ := hrel
          have OK := box (hR.out.ok (fun _ => by show 1 ≤ 64; decide) hW3.1 hW3.2 hN3 (by omega))
          by_cases hlt : j < K
          · have TK := box (ptick_any _ _ g v s _ hX.out OK.out (by rw [hR.out.ac]; decide))
            go_wp2_with fail
            refine TK.out.mono ?_
            rintro e w6 ⟨a6, c6, rfl, -, x6, st6⟩
            obtain ⟨-, r6⟩ := hR.out.tick (show j < i by omega)
            have X6 := box x6
            have R6 := box r6
            have B6 := box (hX.out.steps st6 hbel.out)
            clear x6 r6 st6 TK
            go_wp2_with fail
            go_roundw
            case rel => exact ⟨j + 1, _, by omega, by go_num, R6, X6, B6⟩
            case measure => simp [intOf]; omega
          · obtain rfl : j = K := by omega
            have hb1 : s.ac < 1000000 := by rw [hR.out.ac]; decide
            have hb2 : s.nx < 1000000 := by rw [hR.out.nx]; omega
            have hb3 : s.hi < 1000000 := by rw [hR.out.hi]; omega
            obtain ⟨ek, rk⟩ := hR.out.nak (by omega) hK3 M hM3
            have NK := pnak_any M _ _ g v s _ hX.out OK.out.hi hb1 hb2 hb3
            rw [ek] at NK
            have NK2 := box NK
            have RK := box rk
            have HKL := box rk.len
            have hsub : ((i - M : Nat) : Int) = (i : Int) - (M : Int) := by omega
            clear NK ek rk OK hb1 hb2 hb3
            generalize nakS s M = s7 at NK2 RK HKL
            go_wp2_with fail
            refine NK2.out.mono ?_
            rintro e w7 ⟨v7, rfl, x7, st7⟩
            have KP := pkept_any _ _ g v7 s7 _ x7
            rw [HKL.out, hsub] at KP
            have KP3 := box KP
            have X7 := box x7
            have B7 := box (hX.out.steps st7 hbel.out)
            clear x7 st7 KP NK2
            go_wp2_with fail
            refine KP3.out.mono ?_
            rintro e w8 ⟨rfl, rfl⟩
            go_wp2_with fail
            (try simp only [hM2])
            clear hM2 hsub KP3
            go_loopw [16] (fun t16 wr => ∃ (q : Nat) (s : Rs), M ≤ q ∧ q ≤ i ∧ t16 = .int .i64 q ∧ Box (Run1 W (fun i => [i]) i M q s) ∧ Box (PsAt w1.heap.size (fun k => k < w1.heap.size) wr g v7 s) ∧ Box (Below w1.heap.size w1 wr)) (fun t16 _ => i - (intOf t16).toNat)
            case atStart => exact ⟨M, _, by omega, by omega, rfl, RK, X7, B7⟩
            case round =>
              obtain ⟨q, s9, hq1, hq2, rfl, hR9, hX9, hbel9⟩ := hrel
              by_cases hlt : q < i
              · have OK9 := box (hR9.out.ok (fun _ => by show 1 ≤ 64; decide) hW3.1 hW3.2 hN3)
                obtain ⟨i1, i2, i3, r9⟩ := hR9.out.tick hq1 hlt (by omega)
                have TK := ptick_any _ _ g v7 s9 _ hX9.out OK9.out (by rw [hR9.out.ac]; omega)
                rw [i1, i2, i3] at TK
                have TK2 := box TK
                have R9 := box r9
                have q256 : (q : Int) % 256 = (q : Int) := by omega
                clear TK i1 i2 i3 r9
                go_wp2_with fail
                refine TK2.out.mono ?_
                rintro e w10 ⟨a10, c10, rfl, o10, x10, st10⟩
                obtain ⟨a', c', he, hin, -, -, hblk⟩ := own_any o10
                cases he
                obtain ⟨b, rfl, hcell⟩ := in_some hin (show 0 < [q].length from Nat.one_pos)
                obtain ⟨-, b', rfl⟩ := hblk b rfl
                have hc : w10.cell? ⟨b', 0, none⟩ = some (nU8 q) := hcell
                have X10 := box x10
                have B10 := box (hX9.out.steps st10 hbel9.out)
                clear o10 x10 st10 hin hblk hcell TK2
                go_wp2_with fail
                go_roundw
                case rel => exact ⟨q + 1, _, by omega, by omega, by go_num, R9, X10, B10⟩
                case measure => simp [intOf]; omega
              · go_wp2_with fail
                go_ret
                exact ⟨rfl, HB1.out.trans (hbel9.out.mono HB1.out.size)⟩
end Go.Proofs.Ytfpicobjnpjhlaa
