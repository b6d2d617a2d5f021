/- RetryUnsent: its walk. -/
import Derived.Test.YtfpicobjnpjhlaaRetAw
namespace Go.Proofs.Ytfpicobjnpjhlaa
open Go.RowKit

/-- A sender behind i offers and j ticks (j ≤ i), nothing acknowledged. -/
structure Run0 (W : Nat) (D : Nat → List Nat) (i j : Nat) (s : Rs) : Prop where
  W : s.W = W
  τ : s.τ = 5
  len : s.ks.length = i
  xs : ∀ (k : Nat) (h : k < s.ks.length), (s.ks[k]'h).xs = D k
  ac : s.ac = 0
  ta : s.ta = i
  nx : s.nx = j
  hi : s.hi = j
  si : s.si = 0
theorem Run0.ok {W : Nat} {D : Nat → List Nat} {i j : Nat} {s : Rs} (h : Run0 W D i j s) (hD : ∀ k, (D k).length ≤ 64) (h1 : 1 ≤ W) (h2 : W ≤ 128) (h3 : i ≤ W) (h4 : j ≤ i) : s.Ok := by
  obtain ⟨e1, e2, e3, e4, e5, e6, e7, e8, e9⟩ := h
  refine ⟨by omega, by omega, by omega, by omega, by omega, by omega, by omega, by omega, fun k hk => ?_⟩
  obtain ⟨q, hq, rfl⟩ := List.getElem_of_mem hk
  rw [e4 q hq]
  exact hD q
theorem Run0.off {W : Nat} {D : Nat → List Nat} {i : Nat} {s : Rs} (h : Run0 W D i 0 s) (hi : i < W) (k : Kp) (hk : k.xs = D i) (hD : (D i).length ≤ 64) : offC s k.xs = 0 ∧ Run0 W D (i + 1) 0 (offS s k) := by
  obtain ⟨e1, e2, e3, e4, e5, e6, e7, e8, e9⟩ := h
  refine ⟨offC_ok (by rw [hk]; exact hD) (by omega), ?_⟩
  rw [offS_ok (by rw [hk]; exact hD) (by omega)]
  refine ⟨e1, e2, by simp [e3], fun q hq => ?_, e5, by show s.ta + 1 = i + 1; omega, e7, e8, e9⟩
  show ((s.ks ++ [k])[q]'hq).xs = D q
  by_cases hq2 : q < s.ks.length
  · rw [List.getElem_append_left hq2]; exact e4 q hq2
  · have : q = s.ks.length := by have h : q < (s.ks ++ [k]).length := hq; simp at h; omega
    subst this
    rw [List.getElem_append_right (Nat.le_refl _)]
    simp only [Nat.sub_self, List.getElem_cons_zero]
    rw [hk, e3]
theorem Run0.tick {W : Nat} {D : Nat → List Nat} {i j : Nat} {s : Rs} (h : Run0 W D i j s) (hj : j < i) : tickI s = some j ∧ Run0 W D i (j + 1) (tickS s) := by
  obtain ⟨e1, e2, e3, e4, e5, e6, e7, e8, e9⟩ := h
  have hI : tickI s = some j := by unfold tickI; rw [if_pos (by omega), e7]
  refine ⟨hI, ?_⟩
  unfold tickS
  rw [hI]
  exact ⟨e1, e2, e3, e4, e5, e6, rfl, by show max s.hi (j + 1) = j + 1; omega, rfl⟩
theorem Run0.cnt {W : Nat} {D : Nat → List Nat} {i j : Nat} {s : Rs} (h : Run0 W D i j s) (hj : j ≤ 128) (n : Int) : cntR s.ac s.hi n = if 0 ≤ n ∧ n ≤ j then n else -1 := by
  rw [h.ac, h.hi]
  unfold cntR
  by_cases h1 : 0 ≤ n ∧ n ≤ j
  · rw [if_pos h1, if_neg (by omega), if_neg (by omega)]; omega
  · rw [if_neg h1]
    by_cases h2 : n < 0 ∨ 255 < n
    · rw [if_pos h2]
    · rw [if_neg h2, if_pos (by omega)]

set_option maxRecDepth 100000 in
set_option maxHeartbeats 8000000 in
theorem unsent_any (y0 y1 y2 : Nat) (h0 : y0 < 256) (h1 : y1 < 256) (h2 : y2 < 256) (num : Int) (w : World) :
    Calls Try.prog 8 #[nU8 y0, nU8 y1, nU8 y2, .int .i64 num] w fun e w' => e = .returned (.bool true) ∧ Below w.heap.size w w' := by
  have kc := fun (w : World) (C : Array Value) (n c : Nat) => Lib.run_convert_bytes_const (P := Try.prog) w 32 5 C n c Try.underlying32 Try.underlying5
  obtain ⟨W, hW⟩ : ∃ W, y0 % 128 + 1 = W := ⟨_, rfl⟩
  have hW2 : (y0 : Int) % 128 + 1 = (W : Int) := by omega
  have hW3 : 1 ≤ W ∧ W ≤ 128 := by omega
  obtain ⟨N, hN⟩ : ∃ N, y1 % (W + 1) = N := ⟨_, rfl⟩
  have hN2 : (y1 : Int) % ((W : Int) + 1) = (N : Int) := by rw [← hN]; norm_cast
  have hN3 : N ≤ W := by rw [← hN]; have := Nat.mod_lt y1 (show 0 < W + 1 by omega); omega
  obtain ⟨K, hK⟩ : ∃ K, y2 % (N + 1) = K := ⟨_, rfl⟩
  have hK2 : (y2 : Int) % ((N : Int) + 1) = (K : Int) := by rw [← hK]; norm_cast
  have hK3 : K ≤ N := by rw [← hK]; have := Nat.mod_lt y2 (show 0 < N + 1 by omega); omega
  clear hW hN hK
  go_enter Try.func8, Try.ntmps8
  go_wp2_with fail
  refine (awake_any w).mono ?_
  rintro e w1 ⟨rfl, hb⟩
  have HB1 := box hb
  have NW := box (new_any W 5 hW3.1 hW3.2 (by decide) (by decide) w1)
  clear hb
  go_wp2_with fail
  refine NW.out.mono ?_
  rintro e w2 ⟨g, rfl, hg, x2, hb2⟩
  have X2 := box x2
  have K2 := box hb2
  have HZ := box (show ∀ w', Below w1.heap.size w1 w' → ∀ k, k < w1.heap.size → k < w'.heap.size from fun w' h k hk => Nat.lt_of_lt_of_le hk h.size)
  have R2 := box (show Run0 W (fun _ => [120]) 0 0 (s0 W 5) from ⟨rfl, rfl, rfl, fun k h => by simp at h, rfl, rfl, rfl, rfl, rfl⟩)
  clear NW x2 hb2
  go_wp2_with fail
  simp only [hN2]
  clear hN2 hW2
  go_loopw [37] (fun t37 wr => ∃ (i : Nat) (v : Value) (s : Rs), i ≤ N ∧ t37 = .int .i64 i ∧ Box (Run0 W (fun _ => [120]) i 0 s) ∧ Box (PsAt w1.heap.size (fun k => k < w1.heap.size) wr g v s) ∧ Box (Below w1.heap.size w1 wr)) (fun t37 _ => N - (intOf t37).toNat)
  case atStart => exact ⟨0, _, _, by omega, rfl, R2, X2, K2⟩
  case round =>
    obtain ⟨i, v, s, hi, rfl, hR, hX, hbel⟩ := hrel
    by_cases hlt : i < N
    · have OF := box (offer_lit (1, 2) 1 [120] rfl _ _ g v s wr (HZ.out wr hbel.out) hX.out (by rw [hR.out.len]; omega))
      go_wp2_with fail
      refine OF.out.mono ?_
      rintro e w4 ⟨v4, a4, c4, rfl, x4, st4⟩
      obtain ⟨-, r4⟩ := hR.out.off (by omega) ⟨a4, [120], c4⟩ rfl (by decide)
      have X4 := box x4
      have R4 := box r4
      have B4 := box (hX.out.steps st4 hbel.out)
      clear x4 r4 st4 OF
      go_wp2_with fail
      go_roundw
      case rel => exact ⟨i + 1, v4, _, by omega, by go_num, R4, X4, B4⟩
      case measure => simp [intOf]; omega
    · obtain rfl : i = N := by omega
      go_wp2_with fail
      simp only [hK2]
      clear hK2
      go_loopw [50] (fun t50 wr => ∃ (j : Nat) (s : Rs), j ≤ K ∧ t50 = .int .i64 j ∧ Box (Run0 W (fun _ => [120]) i j s) ∧ Box (PsAt w1.heap.size (fun k => k < w1.heap.size) wr g v s) ∧ Box (Below w1.heap.size w1 wr)) (fun t50 _ => K - (intOf t50).toNat)
      case atStart => exact ⟨0, _, by omega, rfl, hR, hX, hbel⟩
      case round =>
        clear hX hR hbel
        obtain ⟨j, s, hj, rfl, hR, hX, hbel⟩ := hrel
        have OK := box (hR.out.ok (fun _ => by show 1 ≤ 64; decide) hW3.1 hW3.2 hN3 (by omega))
        by_cases hlt : j < K
        · have TK := box (ptick_any _ _ g v s _ hX.out OK.out (by rw [hR.out.ac]; decide))
          go_wp2_with fail
          refine TK.out.mono ?_
          rintro e w4 ⟨a4, c4, rfl, -, x4, st4⟩
          obtain ⟨-, r4⟩ := hR.out.tick (show j < i by omega)
          have X4 := box x4
          have R4 := box r4
          have B4 := box (hX.out.steps st4 hbel.out)
          clear x4 r4 st4 TK
          go_wp2_with fail
          go_roundw
          case rel => exact ⟨j + 1, _, by omega, by go_num, R4, X4, B4⟩
          case measure => simp [intOf]; omega
        · obtain rfl : j = K := by omega
          have hc := hR.out.cnt (show j ≤ 128 by omega) num
          have hb1 : s.ac < 1000000 := by rw [hR.out.ac]; decide
          have hb2 : s.nx < 1000000 := by rw [hR.out.nx]; omega
          have hb3 : s.hi < 1000000 := by rw [hR.out.hi]; omega
          have AK := pack_any num _ _ g v s _ hX.out OK.out.hi hb1 hb2 hb3
          have HLN := hR.out.len
          by_cases hn : 0 ≤ num ∧ num ≤ (j : Int)
          · obtain ⟨q, rfl⟩ := Int.eq_ofNat_of_zero_le hn.1
            rw [if_pos hn] at hc
            have hq : q ≤ j := by omega
            have e1 : ackK s q = q := by unfold ackK; rw [hc]; rfl
            have e2 : (ackS s q).ks.length = i - q := by
              unfold ackS
              rw [hc]
              by_cases h0 : (q : Int) ≤ 0
              · rw [if_pos h0]; omega
              · rw [if_neg h0, e1]; show (s.ks.drop q).length = _; rw [List.length_drop]; omega
            rw [e1] at AK
            have E2 := box e2
            generalize ackS s q = s4 at AK E2
            have AK2 := box AK
            clear AK hc e1 e2 hn HLN hb1 hb2 hb3 OK
            have HB2 := box (hX.out.steps (v' := v) (Steps.refl _ _ _) hbel.out)
            go_wp2_with fail
            refine AK2.out.mono ?_
            rintro e w4 ⟨v4, rfl, x4, st4⟩
            have KP := pkept_any _ _ g v4 s4 _ x4
            rw [E2.out] at KP
            have KP2 := box KP
            have B4 := box (hX.out.steps st4 hbel.out)
            clear x4 st4 KP
            have hsub : ((i - q : Nat) : Int) = (i : Int) - (q : Int) := by omega
            rw [hsub] at KP2
            go_wp2_with fail
            refine KP2.out.mono ?_
            rintro e w5 ⟨rfl, rfl⟩
            go_wp2_with fail
            go_ret
            exact ⟨by simp, HB1.out.trans (B4.out.mono HB1.out.size)⟩
          · rw [if_neg hn] at hc
            have e1 : ackK s num = 0 := by unfold ackK; rw [hc]; rfl
            have e2 : ackS s num = s := by unfold ackS; rw [if_pos (by rw [hc]; decide)]
            have e3 : nakS s num = s := by unfold nakS; rw [if_pos (by rw [hc]; decide)]
            rw [e1, e2] at AK
            have AK2 := box AK
            have NK := box (show ∀ v4 w4, PsAt w1.heap.size (fun k => k < w1.heap.size) w4 g v4 s → Calls Try.prog 20 #[.pointer (some ⟨g, 0, none⟩), .int .i64 num] w4 fun e w' => ∃ v', e = .returned (.int .i64 0) ∧ PsAt w1.heap.size (fun k => k < w1.heap.size) w' g v' s ∧ Steps g v4 v' w4 w' from fun v4 w4 x4 => by
              have h := pnak_any num _ _ g v4 s w4 x4 OK.out.hi hb1 hb2 hb3
              rw [e1, e3] at h
              exact h)
            have HLN2 := box HLN
            clear AK hc e1 e2 e3 HLN
            have hcond : (decide (0 ≤ num) && decide (num ≤ (j : Int))) = false := by
              rw [Bool.and_eq_false_iff]
              by_cases h : 0 ≤ num
              · right; exact decide_eq_false (by omega)
              · left; exact decide_eq_false h
            by_cases hs : 0 ≤ num
            · have hs2 : ¬ num ≤ (j : Int) := by omega
              clear hcond hn
              go_wp2_with fail
              refine AK2.out.mono ?_
              rintro e w4 ⟨v4, rfl, x4, st4⟩
              have N4 := box (NK.out v4 w4 x4)
              have X4 := box x4
              have B4 := box (hX.out.steps st4 hbel.out)
              clear x4 st4
              go_wp2_with fail
              refine N4.out.mono ?_
              rintro e w5 ⟨v5, rfl, x5, st5⟩
              have KP := pkept_any _ _ g v5 s _ x5
              rw [HLN2.out] at KP
              have KP2 := box KP
              have B5 := box (X4.out.steps st5 B4.out)
              clear x5 st5 KP
              go_wp2_with fail
              refine KP2.out.mono ?_
              rintro e w6 ⟨rfl, rfl⟩
              go_wp2_with fail
              go_ret
              exact ⟨by simp, HB1.out.trans (B5.out.mono HB1.out.size)⟩
            · clear hcond hn
              go_wp2_with fail
              refine AK2.out.mono ?_
              rintro e w4 ⟨v4, rfl, x4, st4⟩
              have N4 := box (NK.out v4 w4 x4)
              have X4 := box x4
              have B4 := box (hX.out.steps st4 hbel.out)
              clear x4 st4
              go_wp2_with fail
              refine N4.out.mono ?_
              rintro e w5 ⟨v5, rfl, x5, st5⟩
              have KP := pkept_any _ _ g v5 s _ x5
              rw [HLN2.out] at KP
              have KP2 := box KP
              have B5 := box (X4.out.steps st5 B4.out)
              clear x5 st5 KP
              go_wp2_with fail
              refine KP2.out.mono ?_
              rintro e w6 ⟨rfl, rfl⟩
              go_wp2_with fail
              go_ret
              exact ⟨by simp, HB1.out.trans (B5.out.mono HB1.out.size)⟩
end Go.Proofs.Ytfpicobjnpjhlaa
