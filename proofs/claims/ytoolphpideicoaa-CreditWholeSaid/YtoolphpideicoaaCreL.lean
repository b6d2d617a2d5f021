/- CreditWhole: its walk. -/
import Derived.Test.YtoolphpideicoaaCreJ
namespace Go.Proofs.Ytoolphpideicoaa
open Go.RowKit

set_option maxRecDepth 100000 in
set_option maxHeartbeats 8000000 in
theorem whole_any (y0 : Nat) (h0 : y0 < 256) (a : Option Addr) (m cp : Nat) (xs : List Nat) (hm : xs.length = m) (hx : ∀ x ∈ xs, x < 256) (w : World) (hin : In w a xs) :
    Calls Try.prog 7 #[nU8 y0, .slice a m cp] w fun e w' => e = .returned (.bool true) ∧ Below w.heap.size w w' := by
  obtain ⟨n, hn⟩ : ∃ n, 1 + y0 % 8 = n := ⟨_, rfl⟩
  have hn2 : 1 + (y0 : Int) % 8 = (n : Int) := by omega
  have hn3 : 1 ≤ n ∧ n ≤ 8 := by omega
  clear hn
  have AW := box (awake_any w)
  have HI := box hin
  go_enter Try.func7, Try.ntmps7
  go_wp2_with fail
  refine AW.out.mono ?_
  rintro e w1 ⟨rfl, b1⟩
  have B1 := box b1
  have I1 := box (HI.out.below b1)
  clear AW b1 HI hin
  by_cases h60 : 60 < m
  · go_wp2_with fail
    go_ret
    exact ⟨rfl, B1.out⟩
  · have ST := box (story_any n hn3.1 hn3.2 a m cp xs hm hx (by omega) w1 I1.out)
    clear I1 hm hx
    go_wp2_with fail
    refine ST.out.mono ?_
    rintro e w2 ⟨D, g, h, c, gt, ht, t, fly, vl, L, rfl, hI, hS⟩
    have S0 := box hS
    have I0 := box hI
    have hf60 : fly ≤ 60 := by have := hI.vs; have := hI.si; omega
    have hs60 := box (show t.s ≤ 60 from by have := hI.si; omega)
    clear ST hI hS
    go_wp2_with fail
    go_loopw [34] (fun t34 wr => ∃ (j i : Nat) (c : Gc), j ≤ fly ∧ t34 = .int .i64 j ∧ Box (Inv n i c t (fly - j) L) ∧ Box (StAt w1.heap.size D w1 wr g h c gt ht t vl L)) (fun t34 _ => fly - (intOf t34).toNat)
    case atStart => exact ⟨0, m, c, by omega, rfl, I0, S0⟩
    case round =>
      clear I0 S0
      obtain ⟨j, i, c, hj, rfl, hI, hS⟩ := hrel
      by_cases hjf : j < fly
      · have hI2 := box (show Inv n i c t ((fly - (j + 1)) + 1) L from by rw [show fly - (j + 1) + 1 = fly - j by omega]; exact hI.out)
        have E := box hI2.out.recv
        have C := box (receive_any 0 0 rfl g h [c] _ hS.out.xg c rfl hI.out.ok)
        rw [E.out.2] at C
        clear hI hI2
        go_wp2_with fail
        refine C.out.mono ?_
        rintro e w3 ⟨rfl, x, ap⟩
        have S3 := box (hS.out.giver x ap)
        clear x ap C hS
        go_wp2_with fail
        go_roundw
        case rel => exact ⟨j + 1, i + 1, _, by omega, by go_num, box E.out.1, S3⟩
        case measure => simp [intOf]; omega
      · have hI2 := box (show Inv n i c t 0 L from by rw [show 0 = fly - j by omega]; exact hI.out)
        have E := box hI2.out.aud
        have v1 := hI2.out.vs; have v2 := hI2.out.ok.fv; have v3 := hI2.out.ok.vr; have v4 := hI2.out.r; have v5 := hI2.out.tl; have v6 := hI2.out.tok.sl; have v7 := hs60.out
        obtain ⟨q, hq⟩ : ∃ q, c.v - c.f = q := ⟨_, rfl⟩
        obtain ⟨s, hs⟩ : ∃ s, t.s = s := ⟨_, rfl⟩
        have hqn : q ≤ n := by omega
        have hqs : q ≤ s := by omega
        have hs6 : s ≤ 60 := by omega
        have hqI : (c.v : Int) - (c.f : Int) = (q : Int) := by omega
        have lc : c.lim = c.r + c.f := lim_small (by omega)
        obtain ⟨e1, e2, e3⟩ := aud_eq c (t.s : Int) (t.s - c.v) (by omega) (by omega)
        have hc2 : c.audC (t.s : Int) = ⟨n, s, s - q⟩ := by
          rw [e3]; congr 1
          · omega
          · omega
        have hN : c.audN (t.s : Int) = ((s - c.v : Nat) : Int) := by rw [e1, hs]
        have L2 := box (show (⟨n, s, s - q⟩ : Gc).lim = n + (s - q) from lim_small (by show n + (s - q) ≤ 1000000; omega))
        have OK2 := box (show (⟨n, s, s - q⟩ : Gc).Ok from by rw [← hc2]; exact E.out.1.ok)
        have TL := box (show t.l ≤ n + (s - q) from by omega)
        have TOK := box hI2.out.tok
        have C1 := box (held_b 0 0 rfl g h [c] _ hS.out.xg c rfl hI.out.ok)
        rw [hqI] at C1
        have COK := box hI.out.ok
        have E2 := box e2
        have HS := box hs
        have HC2 := box hc2
        have HN2 := box hN
        obtain ⟨lost, hlost⟩ : ∃ lost, s - c.v = lost := ⟨_, rfl⟩
        rw [hlost] at HN2
        clear hI hI2 E v1 v2 v3 v4 v5 v6 v7 hq hs lc e1 e2 e3 hc2 hN hqI hlost hs60
        go_wp2_with fail
        refine C1.out.mono ?_
        rintro e w3 ⟨rfl, b3⟩
        have S3 := box (hS.out.keep b3)
        have C2 := box (sent_b 0 0 rfl gt ht [t] _ S3.out.xt t rfl TOK.out)
        clear C1 b3 hS
        go_wp2_with fail
        refine C2.out.mono ?_
        rintro e w4 ⟨rfl, b4⟩
        have S4 := box (S3.out.keep b4)
        have C3 := box (audit_any (t.s : Int) 0 0 rfl g h [c] _ S4.out.xg c rfl COK.out)
        rw [E2.out, HN2.out, HC2.out] at C3
        clear C2 b4 S3
        go_wp2_with fail
        refine C3.out.mono ?_
        rintro e w5 ⟨rfl, x5, a5⟩
        have S5 := box (S4.out.giver x5 a5)
        have C4 := box (held_b 0 0 rfl g h [⟨n, s, s - q⟩] _ S5.out.xg ⟨n, s, s - q⟩ rfl OK2.out)
        rw [show (((⟨n, s, s - q⟩ : Gc).v : Int) - ((⟨n, s, s - q⟩ : Gc).f : Int)) = (q : Int) by show (s : Int) - ((s - q : Nat) : Int) = q; omega] at C4
        clear C3 x5 a5 S4 HN2 HC2 E2 COK
        go_wp2_with fail
        refine C4.out.mono ?_
        rintro e w6 ⟨rfl, b6⟩
        have S6 := box (S5.out.keep b6)
        have C5 := box (limit_b 0 0 rfl g h [⟨n, s, s - q⟩] _ S6.out.xg ⟨n, s, s - q⟩ rfl OK2.out)
        rw [L2.out] at C5
        clear C4 b6 S5
        go_wp2_with fail
        refine C5.out.mono ?_
        rintro e w7 ⟨rfl, b7⟩
        have S7 := box (S6.out.keep b7)
        have C6 := box (raise_any ((n + (s - q) : Nat) : Int) 0 0 rfl gt ht [t] _ S7.out.xt t rfl TOK.out)
        have RS := rsC_nat t (n + (s - q)) (by unfold LIM; omega)
        rw [RS.1, RS.2, HS.out, show max t.l (n + (s - q)) = n + (s - q) by have := TL.out; omega] at C6
        clear C5 b7 S6 RS
        go_wp2_with fail
        refine C6.out.mono ?_
        rintro e w8 ⟨rfl, x8, a8⟩
        have S8 := box (S7.out.taker x8 a8)
        have TK2 := box (show (⟨n + (s - q), s⟩ : Tc).Ok from ⟨by show s ≤ n + (s - q); omega, by show n + (s - q) ≤ LIM; unfold LIM; omega⟩)
        have C7 := box (left_b 0 0 rfl gt ht [⟨n + (s - q), s⟩] _ S8.out.xt ⟨n + (s - q), s⟩ rfl TK2.out)
        rw [show (((⟨n + (s - q), s⟩ : Tc).l : Int) - ((⟨n + (s - q), s⟩ : Tc).s : Int)) = (n : Int) - (q : Int) by show ((n + (s - q) : Nat) : Int) - (s : Int) = _; omega] at C7
        clear C6 x8 a8 S7 TL TOK HS
        go_wp2_with fail
        refine C7.out.mono ?_
        rintro e w9 ⟨rfl, b9⟩
        have S9 := box (S8.out.keep b9)
        clear C7 b9 S8
        have hnq : (n : Int) - (q : Int) = ((n - q : Nat) : Int) := by omega
        go_wp2_with fail
        (try simp only [hnq])
        go_loopw [79] (fun t79 wr => ∃ j : Nat, j ≤ n - q ∧ t79 = .int .i64 j ∧ Box ((⟨n, s + j, s - q⟩ : Gc).Ok) ∧ Box ((⟨n + (s - q), s + j⟩ : Tc).Ok) ∧ Box (StAt w1.heap.size D w1 wr g h ⟨n, s + j, s - q⟩ gt ht ⟨n + (s - q), s + j⟩ vl L)) (fun t79 _ => (n - q) - (intOf t79).toNat)
        case atStart => exact ⟨0, by omega, rfl, OK2, TK2, S9⟩
        case round =>
          clear S9 OK2 TK2 L2
          obtain ⟨k, hk, rfl, hO, hT, hS⟩ := hrel
          have LK := box (show (⟨n, s + k, s - q⟩ : Gc).lim = n + (s - q) from lim_small (by show n + (s - q) ≤ 1000000; omega))
          have C1 := box (take_any 0 0 rfl gt ht [⟨n + (s - q), s + k⟩] _ hS.out.xt ⟨n + (s - q), s + k⟩ rfl hT.out)
          by_cases hkn : k < n - q
          · have t1 : (⟨n + (s - q), s + k⟩ : Tc).tkE = 0 ∧ (⟨n + (s - q), s + k⟩ : Tc).tkC = ⟨n + (s - q), s + (k + 1)⟩ := ⟨if_neg (by show ¬ n + (s - q) ≤ s + k; omega), if_neg (by show ¬ n + (s - q) ≤ s + k; omega)⟩
            have r1 := recv_ok ⟨n, s + k, s - q⟩ (by rw [LK.out]; show s + k < n + (s - q); omega)
            have NT := box (show (⟨n + (s - q), s + (k + 1)⟩ : Tc).Ok from by rw [← t1.2]; exact hT.out.tk)
            have NO := box (show (⟨n, s + (k + 1), s - q⟩ : Gc).Ok from by have h := hO.out.recv; rw [r1.2] at h; exact h)
            rw [t1.1, t1.2] at C1
            have R1 := box r1
            clear t1 r1
            go_wp2_with fail
            refine C1.out.mono ?_
            rintro e wa ⟨rfl, x, ap⟩
            have SA := box (hS.out.taker x ap)
            have C2 := box (receive_any 0 0 rfl g h [⟨n, s + k, s - q⟩] _ SA.out.xg ⟨n, s + k, s - q⟩ rfl hO.out)
            rw [R1.out.1, R1.out.2] at C2
            clear C1 x ap hS
            go_wp2_with fail
            refine C2.out.mono ?_
            rintro e wb ⟨rfl, x, ap⟩
            have SB := box (show StAt w1.heap.size D w1 wb g h ⟨n, s + (k + 1), s - q⟩ gt ht ⟨n + (s - q), s + (k + 1)⟩ vl L from SA.out.giver x ap)
            clear C2 x ap SA
            go_wp2_with fail
            go_roundw
            case rel => exact ⟨k + 1, by omega, by go_num, NO, NT, SB⟩
            case measure => simp [intOf]; omega
          · have t1 : (⟨n + (s - q), s + k⟩ : Tc).tkE = 5 ∧ (⟨n + (s - q), s + k⟩ : Tc).tkC = ⟨n + (s - q), s + k⟩ := ⟨if_pos (by show n + (s - q) ≤ s + k; omega), if_pos (by show n + (s - q) ≤ s + k; omega)⟩
            have r1 : (⟨n, s + k, s - q⟩ : Gc).recvE = 5 ∧ (⟨n, s + k, s - q⟩ : Gc).recvC = ⟨n, s + k, s - q⟩ := ⟨if_pos (by rw [LK.out]; show n + (s - q) ≤ s + k; omega), if_pos (by rw [LK.out]; show n + (s - q) ≤ s + k; omega)⟩
            rw [t1.1, t1.2] at C1
            have R1 := box r1
            clear t1 r1
            go_wp2_with fail
            refine C1.out.mono ?_
            rintro e wa ⟨rfl, x, ap⟩
            have SA := box (hS.out.taker x ap)
            have C2 := box (receive_any 0 0 rfl g h [⟨n, s + k, s - q⟩] _ SA.out.xg ⟨n, s + k, s - q⟩ rfl hO.out)
            rw [R1.out.1, R1.out.2] at C2
            clear C1 x ap hS
            go_wp2_with fail
            refine C2.out.mono ?_
            rintro e wb ⟨rfl, x, ap⟩
            have SB := box (SA.out.giver x ap)
            have C3 := box (held_b 0 0 rfl g h [⟨n, s + k, s - q⟩] _ SB.out.xg ⟨n, s + k, s - q⟩ rfl hO.out)
            rw [show (((⟨n, s + k, s - q⟩ : Gc).v : Int) - ((⟨n, s + k, s - q⟩ : Gc).f : Int)) = (n : Int) by show ((s + k : Nat) : Int) - ((s - q : Nat) : Int) = n; omega] at C3
            clear C2 x ap SA
            go_wp2_with fail
            refine C3.out.mono ?_
            rintro e wc2 ⟨rfl, b⟩
            have FB := box (B1.out.trans (((SB.out.keep b).bel).mono B1.out.size))
            clear C3 b SB
            go_wp2_with fail
            go_ret
            exact ⟨rfl, FB.out⟩
end Go.Proofs.Ytoolphpideicoaa
