/- CreditNew: its walk. -/
import Derived.Test.YtoolphpideicoaaCreG
namespace Go.Proofs.Ytoolphpideicoaa
open Go.RowKit

set_option maxRecDepth 100000 in
set_option maxHeartbeats 4000000 in
/-- The reference's Rooms. -/
theorem rooms_any (a : Option Addr) (n c : Nat) (zs : List Int) (hn : zs.length = n) (w : World) (hi : Ints w a zs) :
    Calls Try.prog 14 #[.slice a n c] w fun e w' => e = .returned (.bool (okRooms zs)) ∧ w = w' := by
  by_cases h14 : ¬ (1 ≤ n ∧ n ≤ 4)
  · have hb : okRooms zs = false := by
      cases he : okRooms zs
      · rfl
      · have h := okRooms_iff.1 he; omega
    rw [hb]
    by_cases h0 : n = 0
    · subst h0
      clear hb hi h14
      go_enter Try.func14, Try.ntmps14
      go_wp2_with fail
      go_ret
      exact ⟨rfl, rfl⟩
    · have h5 : 4 < n := by omega
      clear hb hi h14
      go_enter Try.func14, Try.ntmps14
      go_wp2_with fail
      go_ret
      exact ⟨rfl, rfl⟩
  · have h14 : 1 ≤ n ∧ n ≤ 4 := by omega
    have IQ := box hi
    clear hi
    go_enter Try.func14, Try.ntmps14
    go_wp2_with fail
    go_loopw [3] (fun t3 wr => ∃ i : Nat, i ≤ n ∧ t3 = .int .i64 i ∧ Box (∀ j (h : j < zs.length), j < i → 1 ≤ zs[j] ∧ zs[j] ≤ 64) ∧ w = wr) (fun t3 _ => n - (intOf t3).toNat)
    case atStart => exact ⟨0, by omega, rfl, box (fun j _ h => by omega), rfl⟩
    case round =>
      obtain ⟨i, hi, rfl, hV, hw⟩ := hrel
      subst hw
      by_cases hlt : i < n
      · have hiz : i < zs.length := by omega
        obtain ⟨g, o, rfl, cz⟩ := IQ.out.at_ hiz
        have ZZ := box (show ∃ z, zs[i] = z from ⟨_, rfl⟩)
        obtain ⟨z, hz⟩ := ZZ.out
        rw [hz] at cz
        have HZ := box hz
        clear ZZ hz
        by_cases hz1 : z < 1
        · have FIN := box (show okRooms zs = false from by
            cases he : okRooms zs
            · rfl
            · have h := (okRooms_iff.1 he).2.2 z (by rw [← HZ.out]; exact List.getElem_mem _); omega)
          go_wp2_with fail
          go_ret
          exact ⟨by rw [FIN.out]; rfl, rfl⟩
        · by_cases hz2 : 64 < z
          · have FIN := box (show okRooms zs = false from by
              cases he : okRooms zs
              · rfl
              · have h := (okRooms_iff.1 he).2.2 z (by rw [← HZ.out]; exact List.getElem_mem _); omega)
            go_wp2_with fail
            go_ret
            exact ⟨by rw [FIN.out]; rfl, rfl⟩
          · have NV := box (show ∀ j (h : j < zs.length), j < i + 1 → 1 ≤ zs[j] ∧ zs[j] ≤ 64 from fun j hj h1 => by
              by_cases hji : j = i
              · subst hji; rw [HZ.out]; omega
              · exact hV.out j hj (by omega))
            clear hV
            go_wp2_with fail
            go_roundw
            case rel => exact ⟨i + 1, by omega, by go_num, NV, by first | rfl | trivial⟩
            case measure => simp [intOf]; omega
      · have hin : i = n := by omega
        have OKR := box (show okRooms zs = true from okRooms_iff.2 ⟨by omega, by omega, fun z hz => by
          obtain ⟨j, hj, rfl⟩ := List.getElem_of_mem hz
          exact hV.out j hj (by omega)⟩)
        clear hV
        go_wp2_with fail
        go_ret
        exact ⟨by rw [OKR.out]; rfl, rfl⟩

set_option maxRecDepth 100000 in
set_option maxHeartbeats 8000000 in
theorem cnew_any (a : Option Addr) (n c : Nat) (zs : List Int) (hn : zs.length = n) (w : World) (hin : Ints w a zs) (cl z2 : Int) :
    Calls Try.prog 3 #[.slice a n c, .int .i64 cl, .int .i64 z2] w fun e w' => e = .returned (.bool true) ∧ Below w.heap.size w w' := by
  have AW := box (awake_any w)
  have HI := box hin
  go_enter Try.func3, Try.ntmps3
  go_wp2_with fail
  refine AW.out.mono ?_
  rintro e w1 ⟨rfl, b1⟩
  have B1 := box b1
  clear AW b1 hin
  by_cases h20 : 20 < n
  · go_wp2_with fail
    go_ret
    exact ⟨rfl, B1.out⟩
  · have NG := box (newg_any a n c zs hn w1 (HI.out.below B1.out) (by omega))
    go_wp2_with fail
    refine NG.out.mono ?_
    rintro e w2 (⟨hr, g, h, rfl, xg, hg, hh, b2⟩ | ⟨hr, rfl, b2⟩)
    · have HR := box hr
      have XG := box xg
      have B2 := box (B1.out.trans (b2.mono B1.out.size))
      clear NG hr xg hg hh b2 B1
      by_cases hc : cl < 1
      · have NT := box (newt_bad cl (.inl hc) w2)
        go_wp2_with fail
        refine NT.out.mono ?_
        rintro e w3 ⟨rfl, rfl⟩
        have B3 := B2
        have XG3 := XG
        clear XG
        clear NT B2
        have RM := box (rooms_any a n c zs hn w2 (HI.out.below B3.out))
        rw [HR.out] at RM
        go_wp2_with fail
        refine RM.out.mono ?_
        rintro e w4 ⟨rfl, rfl⟩
        clear RM
        go_wp2_with fail
        go_loopw [11] (fun t11 wr => ∃ i : Nat, i ≤ n ∧ t11 = .int .i64 i ∧ Box (Below w2.heap.size w2 wr)) (fun t11 _ => n - (intOf t11).toNat)
        case atStart => exact ⟨0, by omega, rfl, box (Below.refl _ _)⟩
        case round =>
          obtain ⟨i, hi, rfl, hK⟩ := hrel
          by_cases hin : i < n
          · have hiz : i < zs.length := by omega
            obtain ⟨ga, oa, rfl, cz0⟩ := HI.out.at_ hiz
            have cz := keepc (B3.out.trans (hK.out.mono B3.out.size)) cz0
            have OZ := (okRooms_iff.1 HR.out).2.2 zs[i] (List.getElem_mem _)
            have hgi : (zs.map gc0)[i]? = some (gc0 zs[i]) := by simp [hiz]
            obtain ⟨z, hz⟩ : ∃ z, zs[i] = z := ⟨_, rfl⟩
            rw [hz] at cz OZ hgi
            have XR := XG3.out.keep hK.out
            have LQ := box (fun q => Calls.quiet_of (limit_any i i rfl g h _ _ (XR.drewN q) (gc0 z) hgi (gc0_ok OZ)))
            have HQ := box (fun q => Calls.quiet_of (held_any i i rfl g h _ _ (XR.drewN q) (gc0 z) hgi (gc0_ok OZ)))
            rw [show (((gc0 z).lim : Nat) : Int) = z by rw [show (gc0 z).lim = z.toNat + 0 from by unfold Gc.lim LIM gc0; show min (z.toNat + 0) _ = _; omega]; omega] at LQ
            rw [show (((gc0 z).v : Int) - ((gc0 z).f : Int)) = 0 from rfl] at HQ
            have KQ := box (fun q => bel_drewN hK.out q)
            have czq := fun q => (show (World.drewN _ q).cell? _ = _ from cz)
            clear hz cz0 XR hgi OZ hiz
            go_wp2_with fail
            go_quiet ((first | (go_at_call 15; exact LQ.out _) | (go_at_call 16; exact HQ.out _)))
            go_wp2_with fail
            go_roundw
            case rel => exact ⟨i + 1, by omega, by go_num, box (KQ.out _)⟩
            case measure => simp [intOf]; omega
          · obtain rfl : i = n := by omega
            have B5 := box (B3.out.trans (hK.out.mono B3.out.size))
            go_wp2_with fail
            go_loopw [12] (fun t12 wr => t12 = .int .i64 0 ∧ Box (Below w.heap.size w wr)) (fun _ _ => 0)
            case atStart => exact ⟨rfl, B5⟩
            case round =>
              clear hK B5
              obtain ⟨rfl, B6⟩ := hrel
              go_wp2_with fail
              refine (audit_nil 0 z2 _).mono ?_
              rintro e w7 ⟨rfl, b⟩
              have B7 := box (B6.out.trans (b.mono B6.out.size))
              clear b B6
              go_wp2_with fail
              refine (receive_nil z2 _).mono ?_
              rintro e w8 ⟨rfl, rfl⟩
              go_wp2_with fail
              refine (free_nil z2 _).mono ?_
              rintro e w8 ⟨rfl, rfl⟩
              go_wp2_with fail
              refine (limit_nil z2 _).mono ?_
              rintro e w8 ⟨rfl, rfl⟩
              go_wp2_with fail
              refine (held_nil z2 _).mono ?_
              rintro e w8 ⟨rfl, rfl⟩
              go_wp2_with fail
              refine (raise_nil 1 z2 _).mono ?_
              rintro e w8 ⟨rfl, b⟩
              have B8 := box (B7.out.trans (b.mono B7.out.size))
              clear b B7
              go_wp2_with fail
              refine (take_nil z2 _).mono ?_
              rintro e w9 ⟨rfl, rfl⟩
              go_wp2_with fail
              refine (sent_nil z2 _).mono ?_
              rintro e w9 ⟨rfl, rfl⟩
              go_wp2_with fail
              refine (left_nil z2 _).mono ?_
              rintro e w9 ⟨rfl, rfl⟩
              go_wp2_with fail
              go_ret
              exact ⟨rfl, B8.out⟩
      · by_cases hc2 : 4 < cl
        · have NT := box (newt_bad cl (.inr hc2) w2)
          go_wp2_with fail
          refine NT.out.mono ?_
          rintro e w3 ⟨rfl, rfl⟩
          have B3 := B2
          have XG3 := XG
          clear XG
          clear NT B2
          have RM := box (rooms_any a n c zs hn w2 (HI.out.below B3.out))
          rw [HR.out] at RM
          go_wp2_with fail
          refine RM.out.mono ?_
          rintro e w4 ⟨rfl, rfl⟩
          clear RM
          go_wp2_with fail
          go_loopw [11] (fun t11 wr => ∃ i : Nat, i ≤ n ∧ t11 = .int .i64 i ∧ Box (Below w2.heap.size w2 wr)) (fun t11 _ => n - (intOf t11).toNat)
          case atStart => exact ⟨0, by omega, rfl, box (Below.refl _ _)⟩
          case round =>
            obtain ⟨i, hi, rfl, hK⟩ := hrel
            by_cases hin : i < n
            · have hiz : i < zs.length := by omega
              obtain ⟨ga, oa, rfl, cz0⟩ := HI.out.at_ hiz
              have cz := keepc (B3.out.trans (hK.out.mono B3.out.size)) cz0
              have OZ := (okRooms_iff.1 HR.out).2.2 zs[i] (List.getElem_mem _)
              have hgi : (zs.map gc0)[i]? = some (gc0 zs[i]) := by simp [hiz]
              obtain ⟨z, hz⟩ : ∃ z, zs[i] = z := ⟨_, rfl⟩
              rw [hz] at cz OZ hgi
              have XR := XG3.out.keep hK.out
              have LQ := box (fun q => Calls.quiet_of (limit_any i i rfl g h _ _ (XR.drewN q) (gc0 z) hgi (gc0_ok OZ)))
              have HQ := box (fun q => Calls.quiet_of (held_any i i rfl g h _ _ (XR.drewN q) (gc0 z) hgi (gc0_ok OZ)))
              rw [show (((gc0 z).lim : Nat) : Int) = z by rw [show (gc0 z).lim = z.toNat + 0 from by unfold Gc.lim LIM gc0; show min (z.toNat + 0) _ = _; omega]; omega] at LQ
              rw [show (((gc0 z).v : Int) - ((gc0 z).f : Int)) = 0 from rfl] at HQ
              have KQ := box (fun q => bel_drewN hK.out q)
              have czq := fun q => (show (World.drewN _ q).cell? _ = _ from cz)
              clear hz cz0 XR hgi OZ hiz
              go_wp2_with fail
              go_quiet ((first | (go_at_call 15; exact LQ.out _) | (go_at_call 16; exact HQ.out _)))
              go_wp2_with fail
              go_roundw
              case rel => exact ⟨i + 1, by omega, by go_num, box (KQ.out _)⟩
              case measure => simp [intOf]; omega
            · obtain rfl : i = n := by omega
              have B5 := box (B3.out.trans (hK.out.mono B3.out.size))
              go_wp2_with fail
              go_loopw [12] (fun t12 wr => t12 = .int .i64 0 ∧ Box (Below w.heap.size w wr)) (fun _ _ => 0)
              case atStart => exact ⟨rfl, B5⟩
              case round =>
                clear hK B5
                obtain ⟨rfl, B6⟩ := hrel
                go_wp2_with fail
                refine (audit_nil 0 z2 _).mono ?_
                rintro e w7 ⟨rfl, b⟩
                have B7 := box (B6.out.trans (b.mono B6.out.size))
                clear b B6
                go_wp2_with fail
                refine (receive_nil z2 _).mono ?_
                rintro e w8 ⟨rfl, rfl⟩
                go_wp2_with fail
                refine (free_nil z2 _).mono ?_
                rintro e w8 ⟨rfl, rfl⟩
                go_wp2_with fail
                refine (limit_nil z2 _).mono ?_
                rintro e w8 ⟨rfl, rfl⟩
                go_wp2_with fail
                refine (held_nil z2 _).mono ?_
                rintro e w8 ⟨rfl, rfl⟩
                go_wp2_with fail
                refine (raise_nil 1 z2 _).mono ?_
                rintro e w8 ⟨rfl, b⟩
                have B8 := box (B7.out.trans (b.mono B7.out.size))
                clear b B7
                go_wp2_with fail
                refine (take_nil z2 _).mono ?_
                rintro e w9 ⟨rfl, rfl⟩
                go_wp2_with fail
                refine (sent_nil z2 _).mono ?_
                rintro e w9 ⟨rfl, rfl⟩
                go_wp2_with fail
                refine (left_nil z2 _).mono ?_
                rintro e w9 ⟨rfl, rfl⟩
                go_wp2_with fail
                go_ret
                exact ⟨rfl, B8.out⟩
        · obtain ⟨nc, rfl⟩ : ∃ nc : Nat, cl = nc := ⟨cl.toNat, by omega⟩
          have hnc : 1 ≤ nc ∧ nc ≤ 4 := by omega
          clear hc hc2
          have NT := box (newt_any nc hnc.1 hnc.2 nc rfl w2)
          go_wp2_with fail
          refine NT.out.mono ?_
          rintro e w3 ⟨gt, ht, rfl, xt, hgt, hht, b3⟩
          have XT := box xt
          have B3 := box (B2.out.trans (b3.mono B2.out.size))
          have XG3 := box (XG.out.keep b3)
          clear XG
          clear NT xt hgt hht b3 B2
          have RM := box (rooms_any a n c zs hn w3 (HI.out.below B3.out))
          rw [HR.out] at RM
          go_wp2_with fail
          refine RM.out.mono ?_
          rintro e w4 ⟨rfl, rfl⟩
          clear RM
          go_wp2_with fail
          go_loopw [11] (fun t11 wr => ∃ i : Nat, i ≤ n ∧ t11 = .int .i64 i ∧ Box (Below w3.heap.size w3 wr)) (fun t11 _ => n - (intOf t11).toNat)
          case atStart => exact ⟨0, by omega, rfl, box (Below.refl _ _)⟩
          case round =>
            obtain ⟨i, hi, rfl, hK⟩ := hrel
            by_cases hin : i < n
            · have hiz : i < zs.length := by omega
              obtain ⟨ga, oa, rfl, cz0⟩ := HI.out.at_ hiz
              have cz := keepc (B3.out.trans (hK.out.mono B3.out.size)) cz0
              have OZ := (okRooms_iff.1 HR.out).2.2 zs[i] (List.getElem_mem _)
              have hgi : (zs.map gc0)[i]? = some (gc0 zs[i]) := by simp [hiz]
              obtain ⟨z, hz⟩ : ∃ z, zs[i] = z := ⟨_, rfl⟩
              rw [hz] at cz OZ hgi
              have XR := XG3.out.keep hK.out
              have LQ := box (fun q => Calls.quiet_of (limit_any i i rfl g h _ _ (XR.drewN q) (gc0 z) hgi (gc0_ok OZ)))
              have HQ := box (fun q => Calls.quiet_of (held_any i i rfl g h _ _ (XR.drewN q) (gc0 z) hgi (gc0_ok OZ)))
              rw [show (((gc0 z).lim : Nat) : Int) = z by rw [show (gc0 z).lim = z.toNat + 0 from by unfold Gc.lim LIM gc0; show min (z.toNat + 0) _ = _; omega]; omega] at LQ
              rw [show (((gc0 z).v : Int) - ((gc0 z).f : Int)) = 0 from rfl] at HQ
              have KQ := box (fun q => bel_drewN hK.out q)
              have czq := fun q => (show (World.drewN _ q).cell? _ = _ from cz)
              clear hz cz0 XR hgi OZ hiz
              go_wp2_with fail
              go_quiet ((first | (go_at_call 15; exact LQ.out _) | (go_at_call 16; exact HQ.out _)))
              go_wp2_with fail
              go_roundw
              case rel => exact ⟨i + 1, by omega, by go_num, box (KQ.out _)⟩
              case measure => simp [intOf]; omega
            · obtain rfl : i = n := by omega
              have B5 := box (B3.out.trans (hK.out.mono B3.out.size))
              go_wp2_with fail
              go_loopw [12] (fun t12 wr => ∃ k : Nat, k ≤ nc ∧ t12 = .int .i64 k ∧ Box (Below w3.heap.size w3 wr)) (fun t12 _ => nc - (intOf t12).toNat)
              case atStart => exact ⟨0, by omega, rfl, hK⟩
              case round =>
                clear hK B5
                obtain ⟨k, hk, rfl, hK⟩ := hrel
                by_cases hkn : k < nc
                · have hgk : (List.replicate nc (⟨0, 0⟩ : Tc))[k]? = some ⟨0, 0⟩ := by simp [hkn]
                  have TOK := box (show (⟨0, 0⟩ : Tc).Ok from ⟨Nat.le_refl _, Nat.zero_le _⟩)
                  have C1 := box (sent_b k k rfl gt ht _ _ (XT.out.keep hK.out) ⟨0, 0⟩ hgk TOK.out)
                  rw [show (((⟨0, 0⟩ : Tc).s : Nat) : Int) = 0 from rfl] at C1
                  go_wp2_with fail
                  refine C1.out.mono ?_
                  rintro e w6 ⟨rfl, b⟩
                  have K6 := box (hK.out.trans (b.mono hK.out.size))
                  have C2 := box (left_b k k rfl gt ht _ _ (XT.out.keep K6.out) ⟨0, 0⟩ hgk TOK.out)
                  rw [show (((⟨0, 0⟩ : Tc).l : Int) - ((⟨0, 0⟩ : Tc).s : Int)) = 0 from rfl] at C2
                  clear C1 b hgk TOK hK
                  go_wp2_with fail
                  refine C2.out.mono ?_
                  rintro e w7 ⟨rfl, b⟩
                  have K7 := box (K6.out.trans (b.mono K6.out.size))
                  clear C2 b K6
                  go_wp2_with fail
                  go_roundw
                  case rel => exact ⟨k + 1, by omega, by go_num, K7⟩
                  case measure => simp [intOf]; omega
                · obtain rfl : k = nc := by omega
                  have B6 := box (B3.out.trans (hK.out.mono B3.out.size))
                  go_wp2_with fail
                  refine (audit_nil 0 z2 _).mono ?_
                  rintro e w7 ⟨rfl, b⟩
                  have B7 := box (B6.out.trans (b.mono B6.out.size))
                  clear b B6
                  go_wp2_with fail
                  refine (receive_nil z2 _).mono ?_
                  rintro e w8 ⟨rfl, rfl⟩
                  go_wp2_with fail
                  refine (free_nil z2 _).mono ?_
                  rintro e w8 ⟨rfl, rfl⟩
                  go_wp2_with fail
                  refine (limit_nil z2 _).mono ?_
                  rintro e w8 ⟨rfl, rfl⟩
                  go_wp2_with fail
                  refine (held_nil z2 _).mono ?_
                  rintro e w8 ⟨rfl, rfl⟩
                  go_wp2_with fail
                  refine (raise_nil 1 z2 _).mono ?_
                  rintro e w8 ⟨rfl, b⟩
                  have B8 := box (B7.out.trans (b.mono B7.out.size))
                  clear b B7
                  go_wp2_with fail
                  refine (take_nil z2 _).mono ?_
                  rintro e w9 ⟨rfl, rfl⟩
                  go_wp2_with fail
                  refine (sent_nil z2 _).mono ?_
                  rintro e w9 ⟨rfl, rfl⟩
                  go_wp2_with fail
                  refine (left_nil z2 _).mono ?_
                  rintro e w9 ⟨rfl, rfl⟩
                  go_wp2_with fail
                  go_ret
                  exact ⟨rfl, B8.out⟩
    · have HR := box hr
      have B2 := box (B1.out.trans (b2.mono B1.out.size))
      clear NG hr b2 B1
      by_cases hc : cl < 1
      · have NT := box (newt_bad cl (.inl hc) w2)
        go_wp2_with fail
        refine NT.out.mono ?_
        rintro e w3 ⟨rfl, rfl⟩
        have B3 := B2
        skip
        clear NT B2
        have RM := box (rooms_any a n c zs hn w2 (HI.out.below B3.out))
        rw [HR.out] at RM
        go_wp2_with fail
        refine RM.out.mono ?_
        rintro e w4 ⟨rfl, rfl⟩
        clear RM
        go_wp2_with fail
        go_loopw [11] (fun t11 wr => t11 = .int .i64 0 ∧ Box (Below w2.heap.size w2 wr)) (fun _ _ => 0)
        case atStart => exact ⟨rfl, box (Below.refl _ _)⟩
        case round =>
          obtain ⟨rfl, hK⟩ := hrel
          have B5 := box (B3.out.trans (hK.out.mono B3.out.size))
          go_wp2_with fail
          go_loopw [12] (fun t12 wr => t12 = .int .i64 0 ∧ Box (Below w.heap.size w wr)) (fun _ _ => 0)
          case atStart => exact ⟨rfl, B5⟩
          case round =>
            clear hK B5
            obtain ⟨rfl, B6⟩ := hrel
            go_wp2_with fail
            refine (audit_nil 0 z2 _).mono ?_
            rintro e w7 ⟨rfl, b⟩
            have B7 := box (B6.out.trans (b.mono B6.out.size))
            clear b B6
            go_wp2_with fail
            refine (receive_nil z2 _).mono ?_
            rintro e w8 ⟨rfl, rfl⟩
            go_wp2_with fail
            refine (free_nil z2 _).mono ?_
            rintro e w8 ⟨rfl, rfl⟩
            go_wp2_with fail
            refine (limit_nil z2 _).mono ?_
            rintro e w8 ⟨rfl, rfl⟩
            go_wp2_with fail
            refine (held_nil z2 _).mono ?_
            rintro e w8 ⟨rfl, rfl⟩
            go_wp2_with fail
            refine (raise_nil 1 z2 _).mono ?_
            rintro e w8 ⟨rfl, b⟩
            have B8 := box (B7.out.trans (b.mono B7.out.size))
            clear b B7
            go_wp2_with fail
            refine (take_nil z2 _).mono ?_
            rintro e w9 ⟨rfl, rfl⟩
            go_wp2_with fail
            refine (sent_nil z2 _).mono ?_
            rintro e w9 ⟨rfl, rfl⟩
            go_wp2_with fail
            refine (left_nil z2 _).mono ?_
            rintro e w9 ⟨rfl, rfl⟩
            go_wp2_with fail
            go_ret
            exact ⟨rfl, B8.out⟩
      · by_cases hc2 : 4 < cl
        · have NT := box (newt_bad cl (.inr hc2) w2)
          go_wp2_with fail
          refine NT.out.mono ?_
          rintro e w3 ⟨rfl, rfl⟩
          have B3 := B2
          skip
          clear NT B2
          have RM := box (rooms_any a n c zs hn w2 (HI.out.below B3.out))
          rw [HR.out] at RM
          go_wp2_with fail
          refine RM.out.mono ?_
          rintro e w4 ⟨rfl, rfl⟩
          clear RM
          go_wp2_with fail
          go_loopw [11] (fun t11 wr => t11 = .int .i64 0 ∧ Box (Below w2.heap.size w2 wr)) (fun _ _ => 0)
          case atStart => exact ⟨rfl, box (Below.refl _ _)⟩
          case round =>
            obtain ⟨rfl, hK⟩ := hrel
            have B5 := box (B3.out.trans (hK.out.mono B3.out.size))
            go_wp2_with fail
            go_loopw [12] (fun t12 wr => t12 = .int .i64 0 ∧ Box (Below w.heap.size w wr)) (fun _ _ => 0)
            case atStart => exact ⟨rfl, B5⟩
            case round =>
              clear hK B5
              obtain ⟨rfl, B6⟩ := hrel
              go_wp2_with fail
              refine (audit_nil 0 z2 _).mono ?_
              rintro e w7 ⟨rfl, b⟩
              have B7 := box (B6.out.trans (b.mono B6.out.size))
              clear b B6
              go_wp2_with fail
              refine (receive_nil z2 _).mono ?_
              rintro e w8 ⟨rfl, rfl⟩
              go_wp2_with fail
              refine (free_nil z2 _).mono ?_
              rintro e w8 ⟨rfl, rfl⟩
              go_wp2_with fail
              refine (limit_nil z2 _).mono ?_
              rintro e w8 ⟨rfl, rfl⟩
              go_wp2_with fail
              refine (held_nil z2 _).mono ?_
              rintro e w8 ⟨rfl, rfl⟩
              go_wp2_with fail
              refine (raise_nil 1 z2 _).mono ?_
              rintro e w8 ⟨rfl, b⟩
              have B8 := box (B7.out.trans (b.mono B7.out.size))
              clear b B7
              go_wp2_with fail
              refine (take_nil z2 _).mono ?_
              rintro e w9 ⟨rfl, rfl⟩
              go_wp2_with fail
              refine (sent_nil z2 _).mono ?_
              rintro e w9 ⟨rfl, rfl⟩
              go_wp2_with fail
              refine (left_nil z2 _).mono ?_
              rintro e w9 ⟨rfl, rfl⟩
              go_wp2_with fail
              go_ret
              exact ⟨rfl, B8.out⟩
        · obtain ⟨nc, rfl⟩ : ∃ nc : Nat, cl = nc := ⟨cl.toNat, by omega⟩
          have hnc : 1 ≤ nc ∧ nc ≤ 4 := by omega
          clear hc hc2
          have NT := box (newt_any nc hnc.1 hnc.2 nc rfl w2)
          go_wp2_with fail
          refine NT.out.mono ?_
          rintro e w3 ⟨gt, ht, rfl, xt, hgt, hht, b3⟩
          have XT := box xt
          have B3 := box (B2.out.trans (b3.mono B2.out.size))
          skip
          clear NT xt hgt hht b3 B2
          have RM := box (rooms_any a n c zs hn w3 (HI.out.below B3.out))
          rw [HR.out] at RM
          go_wp2_with fail
          refine RM.out.mono ?_
          rintro e w4 ⟨rfl, rfl⟩
          clear RM
          go_wp2_with fail
          go_loopw [11] (fun t11 wr => t11 = .int .i64 0 ∧ Box (Below w3.heap.size w3 wr)) (fun _ _ => 0)
          case atStart => exact ⟨rfl, box (Below.refl _ _)⟩
          case round =>
            obtain ⟨rfl, hK⟩ := hrel
            have B5 := box (B3.out.trans (hK.out.mono B3.out.size))
            go_wp2_with fail
            go_loopw [12] (fun t12 wr => ∃ k : Nat, k ≤ nc ∧ t12 = .int .i64 k ∧ Box (Below w3.heap.size w3 wr)) (fun t12 _ => nc - (intOf t12).toNat)
            case atStart => exact ⟨0, by omega, rfl, hK⟩
            case round =>
              clear hK B5
              obtain ⟨k, hk, rfl, hK⟩ := hrel
              by_cases hkn : k < nc
              · have hgk : (List.replicate nc (⟨0, 0⟩ : Tc))[k]? = some ⟨0, 0⟩ := by simp [hkn]
                have TOK := box (show (⟨0, 0⟩ : Tc).Ok from ⟨Nat.le_refl _, Nat.zero_le _⟩)
                have C1 := box (sent_b k k rfl gt ht _ _ (XT.out.keep hK.out) ⟨0, 0⟩ hgk TOK.out)
                rw [show (((⟨0, 0⟩ : Tc).s : Nat) : Int) = 0 from rfl] at C1
                go_wp2_with fail
                refine C1.out.mono ?_
                rintro e w6 ⟨rfl, b⟩
                have K6 := box (hK.out.trans (b.mono hK.out.size))
                have C2 := box (left_b k k rfl gt ht _ _ (XT.out.keep K6.out) ⟨0, 0⟩ hgk TOK.out)
                rw [show (((⟨0, 0⟩ : Tc).l : Int) - ((⟨0, 0⟩ : Tc).s : Int)) = 0 from rfl] at C2
                clear C1 b hgk TOK hK
                go_wp2_with fail
                refine C2.out.mono ?_
                rintro e w7 ⟨rfl, b⟩
                have K7 := box (K6.out.trans (b.mono K6.out.size))
                clear C2 b K6
                go_wp2_with fail
                go_roundw
                case rel => exact ⟨k + 1, by omega, by go_num, K7⟩
                case measure => simp [intOf]; omega
              · obtain rfl : k = nc := by omega
                have B6 := box (B3.out.trans (hK.out.mono B3.out.size))
                go_wp2_with fail
                refine (audit_nil 0 z2 _).mono ?_
                rintro e w7 ⟨rfl, b⟩
                have B7 := box (B6.out.trans (b.mono B6.out.size))
                clear b B6
                go_wp2_with fail
                refine (receive_nil z2 _).mono ?_
                rintro e w8 ⟨rfl, rfl⟩
                go_wp2_with fail
                refine (free_nil z2 _).mono ?_
                rintro e w8 ⟨rfl, rfl⟩
                go_wp2_with fail
                refine (limit_nil z2 _).mono ?_
                rintro e w8 ⟨rfl, rfl⟩
                go_wp2_with fail
                refine (held_nil z2 _).mono ?_
                rintro e w8 ⟨rfl, rfl⟩
                go_wp2_with fail
                refine (raise_nil 1 z2 _).mono ?_
                rintro e w8 ⟨rfl, b⟩
                have B8 := box (B7.out.trans (b.mono B7.out.size))
                clear b B7
                go_wp2_with fail
                refine (take_nil z2 _).mono ?_
                rintro e w9 ⟨rfl, rfl⟩
                go_wp2_with fail
                refine (sent_nil z2 _).mono ?_
                rintro e w9 ⟨rfl, rfl⟩
                go_wp2_with fail
                refine (left_nil z2 _).mono ?_
                rintro e w9 ⟨rfl, rfl⟩
                go_wp2_with fail
                go_ret
                exact ⟨rfl, B8.out⟩
end Go.Proofs.Ytoolphpideicoaa
