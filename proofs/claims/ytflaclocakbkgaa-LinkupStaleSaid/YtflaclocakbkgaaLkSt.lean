/- LinkupStale: its walk. -/
import Derived.Test.YtflaclocakbkgaaLkW
namespace Go.Proofs.Ytflaclocakbkgaa
open Go.RowKit

set_option maxRecDepth 100000 in
set_option maxHeartbeats 8000000 in
theorem stale_any (a : Option Addr) (m cp : Nat) (l : List Act8) (hm : l.length = m) (w : World) (hin : Acts8 w a l) :
    Calls Try.prog 4 #[.slice a m cp] w fun e w' => e = .returned (.bool true) ∧ Below w.heap.size w w' := by
  have HI := box hin
  have HM := box hm
  clear hin hm
  have AW := box (awake_any w)
  have ES := eq_gr
  go_enter Try.func4, Try.ntmps4
  go_wp2_with fail
  refine AW.out.mono ?_
  rintro e w1 ⟨rfl, b1⟩
  have B1 := box b1
  clear AW b1
  obtain ⟨g, hg⟩ : ∃ g, w1.heap.size = g := ⟨_, rfl⟩
  have CN := box (new_s 1000 5 1000 5 rfl rfl (by unfold MAXN; omega) B1.out B1.out.size hg)
  clear hg
  go_wp2_with fail
  refine CN.out.mono ?_
  rintro e w2 ⟨rfl, x, -⟩
  have X := box x
  clear x CN B1
  by_cases h60 : 60 < m
  · go_wp2_with fail
    go_ret
    exact ⟨rfl, X.out.bel⟩
  · go_wp2_with fail
    go_loopw [5, 26] (fun t5 t26 wr => ∃ (j : Nat) (s : Sv), j ≤ m ∧ t26 = .int .i64 j ∧ t5 = .int .i64 (s.seen : Int) ∧ s.changes ≤ j ∧ Box s.Q ∧ Box (S1 w.heap.size w wr g s)) (fun _ t26 _ => m - (intOf t26).toNat)
    case atStart => exact ⟨0, _, by omega, rfl, rfl, Nat.le_refl _, box (Sv.Q.new (by unfold MAXN; omega)), X⟩
    case round =>
      clear X
      obtain ⟨j, s, hj, rfl, rfl, hch0, hQ, hX⟩ := hrel
      by_cases hlt : j < m
      · have hjl : j < l.length := by have := HM.out; omega
        obtain ⟨gb, o, rfl, c0, c1, c2⟩ := acts8_at HI.out hjl
        obtain ⟨gr, hgr⟩ : ∃ x, l[j].greet = x := ⟨_, rfl⟩
        obtain ⟨gm, hgm⟩ : ∃ x, l[j].m = x := ⟨_, rfl⟩
        obtain ⟨gy, hgy⟩ : ∃ x, l[j].y = x := ⟨_, rfl⟩
        rw [hgr] at c0
        rw [hgm] at c1
        rw [hgy] at c2
        replace c0 := keepc hX.out.bel c0
        replace c1 := keepc hX.out.bel c1
        replace c2 := keepc hX.out.bel c2
        clear hgr hgm hgy
        obtain ⟨mb, hmb⟩ : ∃ mb, wr.heap.size = mb := ⟨_, rfl⟩
        have k1 : Below wr.heap.size wr (wr.alloc (.cells #[.bool gr, .int .i64 gm, .int .i64 gy] 34)) := (Below.refl _ _).alloc (Nat.le_refl _) _
        have M := box (R3.new wr (.bool gr) (.int .i64 gm) (.int .i64 gy) 34 mb hmb.symm)
        have HB := box hmb
        have X := box (hX.out.keep k1)
        have MG := box (show mb ≠ g from by have := hX.out.x.lt; omega)
        clear hX
        clear k1
        go_upto_region 10 with fail
        generalize wr.alloc (.cells #[.bool gr, .int .i64 gm, .int .i64 gy] 34) = wa at X M ⊢
        (try simp only [HB.out])
        clear hmb c0 c1 c2
        obtain ⟨p0, p1, p2, pz⟩ := M.out
        cases gr with
        | true =>
          obtain ⟨s2, hs2⟩ : ∃ s2, s.recvS gm gy = s2 := ⟨_, rfl⟩
          obtain ⟨b, hb⟩ : ∃ b, s.recvB gm gy = b := ⟨_, rfl⟩
          have CC := recv_s X.out (by omega) gm gy
          have HR := hQ.out.recv gm gy
          have hch : s2.changes ≤ j + 1 := by have := recv_changes s gm gy; rw [hs2] at this; omega
          rw [hs2] at HR
          rw [hs2, hb] at CC
          have HQ := box HR.1
          have HS2 := box hs2
          clear HR hb hs2
          replace CC := box CC
          go_wp2_with fail
          refine CC.out.mono ?_
          rintro e w3 ⟨rfl, x, a⟩
          replace X := box x
          replace M := box (M.out.same (a.block mb M.out.lt MG.out (by simp)))
          clear x a CC p0 p1 p2 pz
          obtain ⟨p0, p1, p2, pz⟩ := M.out
          by_cases hv1 : gm < (s.seen : Int)
          · have hbad := recv_bad (s := s) gy (.inr hv1)
            obtain ⟨sn, hsn⟩ : ∃ sn, s.seen = sn := ⟨_, rfl⟩
            have e1 : s2.seen = sn := by rw [← HS2.out, hbad.1]; exact hsn
            clear hbad
            (try simp only [hsn] at hv1 ⊢)
            obtain ⟨pn, e2⟩ : ∃ pn, s2.peer = pn := ⟨_, rfl⟩
            obtain ⟨stn, e3⟩ : ∃ stn, s2.state = stn := ⟨_, rfl⟩
            have q1 := HQ.out.ps
            have q2 := HQ.out.st
            have q3 : sn < 1099511627776 := by have h := HQ.out.ok.se; unfold MAXN at h; omega
            rw [e2, e1] at q1
            rw [e2, e3] at q2
            have CP := box (peer_l X.out (pn : Int) (by omega))
            go_wp2_with fail
            refine CP.out.mono ?_
            rintro e w4 ⟨rfl, rfl⟩
            clear CP
            have CA := box (accepts_l X.out ((sn : Int) - 1) false (decide_eq_false (by omega)))
            by_cases hp0 : pn = 0
            · have hst : stn = 0 := q2.1 hp0
              subst hp0 hst
              have CS := box (state_l X.out 0 (by omega))
              clear q1 q2
              go_wp2_with fail
              refine CA.out.mono ?_
              rintro e w5 ⟨rfl, rfl⟩
              clear CA
              go_wp2_with fail
              refine CS.out.mono ?_
              rintro e w6 ⟨rfl, rfl⟩
              clear CS
              go_wp2_with fail
              go_roundw
              case rel => exact ⟨j + 1, s2, by omega, by go_num, by rw [e1], hch, HQ, X⟩
              case measure => simp [intOf]; omega
            · obtain rfl : pn = sn := by omega
              have hst : stn ≠ 0 := fun h => hp0 (q2.2 h)
              have CB := box (accepts_l X.out (pn : Int) true (decide_eq_true (by omega)))
              have CS := box (state_l X.out (stn : Int) (by omega))
              have hst0 : ((stn : Int) == 0) = false := by simp; omega
              have hp1 : ((pn : Int) == 0) = false := by simp; omega
              clear q1 q2
              go_wp2_with fail
              refine CB.out.mono ?_
              rintro e w5 ⟨rfl, rfl⟩
              clear CB
              go_wp2_with fail
              refine CA.out.mono ?_
              rintro e w6 ⟨rfl, rfl⟩
              clear CA
              go_wp2_with fail
              refine CS.out.mono ?_
              rintro e w7 ⟨rfl, rfl⟩
              clear CS
              go_wp2_with fail
              go_roundw
              case rel => exact ⟨j + 1, s2, by omega, by go_num, by rw [e1], hch, HQ, X⟩
              case measure => simp [intOf]; omega
          by_cases hv2 : 1099511627776 ≤ gm
          · have hbad := recv_bad (s := s) (m := gm) gy (.inl (by unfold okInc; simp; omega))
            obtain ⟨sn, hsn⟩ : ∃ sn, s.seen = sn := ⟨_, rfl⟩
            have e1 : s2.seen = sn := by rw [← HS2.out, hbad.1]; exact hsn
            clear hbad
            (try simp only [hsn] at hv1 ⊢)
            obtain ⟨pn, e2⟩ : ∃ pn, s2.peer = pn := ⟨_, rfl⟩
            obtain ⟨stn, e3⟩ : ∃ stn, s2.state = stn := ⟨_, rfl⟩
            have q1 := HQ.out.ps
            have q2 := HQ.out.st
            have q3 : sn < 1099511627776 := by have h := HQ.out.ok.se; unfold MAXN at h; omega
            rw [e2, e1] at q1
            rw [e2, e3] at q2
            have CP := box (peer_l X.out (pn : Int) (by omega))
            go_wp2_with fail
            refine CP.out.mono ?_
            rintro e w4 ⟨rfl, rfl⟩
            clear CP
            have CA := box (accepts_l X.out ((sn : Int) - 1) false (decide_eq_false (by omega)))
            by_cases hp0 : pn = 0
            · have hst : stn = 0 := q2.1 hp0
              subst hp0 hst
              have CS := box (state_l X.out 0 (by omega))
              clear q1 q2
              go_wp2_with fail
              refine CA.out.mono ?_
              rintro e w5 ⟨rfl, rfl⟩
              clear CA
              go_wp2_with fail
              refine CS.out.mono ?_
              rintro e w6 ⟨rfl, rfl⟩
              clear CS
              go_wp2_with fail
              go_roundw
              case rel => exact ⟨j + 1, s2, by omega, by go_num, by rw [e1], hch, HQ, X⟩
              case measure => simp [intOf]; omega
            · obtain rfl : pn = sn := by omega
              have hst : stn ≠ 0 := fun h => hp0 (q2.2 h)
              have CB := box (accepts_l X.out (pn : Int) true (decide_eq_true (by omega)))
              have CS := box (state_l X.out (stn : Int) (by omega))
              have hst0 : ((stn : Int) == 0) = false := by simp; omega
              have hp1 : ((pn : Int) == 0) = false := by simp; omega
              clear q1 q2
              go_wp2_with fail
              refine CB.out.mono ?_
              rintro e w5 ⟨rfl, rfl⟩
              clear CB
              go_wp2_with fail
              refine CA.out.mono ?_
              rintro e w6 ⟨rfl, rfl⟩
              clear CA
              go_wp2_with fail
              refine CS.out.mono ?_
              rintro e w7 ⟨rfl, rfl⟩
              clear CS
              go_wp2_with fail
              go_roundw
              case rel => exact ⟨j + 1, s2, by omega, by go_num, by rw [e1], hch, HQ, X⟩
              case measure => simp [intOf]; omega
          by_cases hv3 : gm < 1
          · have hbad := recv_bad (s := s) (m := gm) gy (.inl (by unfold okInc; simp; omega))
            have hs0 : s.seen = 0 := by omega
            obtain rfl : gm = 0 := by omega
            obtain ⟨sn, hsn⟩ : ∃ sn, s.seen = sn := ⟨_, rfl⟩
            have e1 : s2.seen = sn := by rw [← HS2.out, hbad.1]; exact hsn
            have hsn0 : sn = 0 := by omega
            subst hsn0
            clear hbad hs0
            (try simp only [hsn] at hv1 ⊢)
            clear hsn
            go_upto_region 14 with fail
            go_quiet (fail)
            replace X := box (X.out.drewN nq)
            generalize w3.drewN nq = wq at X ⊢
            clear p0 p1 p2 pz
            have q1 := HQ.out.ps
            have q2 := HQ.out.st
            have e2 : s2.peer = 0 := by omega
            have e3 : s2.state = 0 := q2.1 e2
            have CP := box (peer_l X.out 0 (by omega))
            have CA := box (accepts_l X.out (-1) false (decide_eq_false (by omega)))
            have CS := box (state_l X.out 0 (by omega))
            clear q1 q2
            go_wp2_with fail
            refine CP.out.mono ?_
            rintro e w4 ⟨rfl, rfl⟩
            clear CP
            go_wp2_with fail
            refine CA.out.mono ?_
            rintro e w5 ⟨rfl, rfl⟩
            clear CA
            go_wp2_with fail
            refine CS.out.mono ?_
            rintro e w6 ⟨rfl, rfl⟩
            clear CS
            go_wp2_with fail
            go_roundw
            case rel => exact ⟨j + 1, s2, by omega, by go_num, by rw [e1]; rfl, hch, HQ, X⟩
            case measure => simp [intOf]; omega
          obtain ⟨mn, rfl⟩ : ∃ mn : Nat, gm = mn := ⟨gm.toNat, by omega⟩
          have hgood := recv_seen (s := s) (m := (mn : Int)) gy (by omega) (by omega) (by omega)
          rw [HS2.out] at hgood
          have e1 : s2.seen = mn := by have := hgood.1; omega
          have CP0 := box (fun n => (peer_l (X.out.drewN n) (mn : Int) (by have := hgood.2; omega)).mono (R' := fun e w' => e = .returned (.int .i64 (mn : Int)) ∧ w' = w3.drewN n) fun e w' h => ⟨h.1, h.2.symm⟩)
          have v1 : (1 : Int) ≤ (mn : Int) := by omega
          have v2 : (mn : Int) < 1099511627776 := by omega
          have v3 : (s.seen : Int) ≤ (mn : Int) := by omega
          clear hgood hv1 hv2 hv3
          by_cases hlt : s.seen < mn
          · go_upto_region 14 with fail
            go_quiet ((go_at_call 19; exact Calls.quiet_of_same (CP0.out _)))
            replace X := box (X.out.drewN nq)
            generalize w3.drewN nq = wq at X ⊢
            clear p0 p1 p2 pz
            clear CP0 v1 v2
            obtain ⟨pn, e2⟩ : ∃ pn, s2.peer = pn := ⟨_, rfl⟩
            obtain ⟨stn, e3⟩ : ∃ stn, s2.state = stn := ⟨_, rfl⟩
            have q1 := HQ.out.ps
            have q2 := HQ.out.st
            have q3 : mn < 1099511627776 := by have h := HQ.out.ok.se; unfold MAXN at h; omega
            rw [e2, e1] at q1
            rw [e2, e3] at q2
            have CP := box (peer_l X.out (pn : Int) (by omega))
            go_wp2_with fail
            refine CP.out.mono ?_
            rintro e w5 ⟨rfl, rfl⟩
            clear CP
            have CA := box (accepts_l X.out ((mn : Int) - 1) false (decide_eq_false (by omega)))
            by_cases hp0 : pn = 0
            · have hst : stn = 0 := q2.1 hp0
              subst hp0 hst
              have CS := box (state_l X.out 0 (by omega))
              clear q1 q2
              go_wp2_with fail
              refine CA.out.mono ?_
              rintro e w6 ⟨rfl, rfl⟩
              clear CA
              go_wp2_with fail
              refine CS.out.mono ?_
              rintro e w7 ⟨rfl, rfl⟩
              clear CS
              go_wp2_with fail
              go_roundw
              case rel => exact ⟨j + 1, s2, by omega, by go_num, by rw [e1], hch, HQ, X⟩
              case measure => simp [intOf]; omega
            · obtain rfl : pn = mn := by omega
              have hst : stn ≠ 0 := fun h => hp0 (q2.2 h)
              have CB := box (accepts_l X.out (pn : Int) true (decide_eq_true (by omega)))
              have CS := box (state_l X.out (stn : Int) (by omega))
              have hst0 : ((stn : Int) == 0) = false := by simp; omega
              have hp1 : ((pn : Int) == 0) = false := by simp; omega
              clear q1 q2
              go_wp2_with fail
              refine CB.out.mono ?_
              rintro e w6 ⟨rfl, rfl⟩
              clear CB
              go_wp2_with fail
              refine CA.out.mono ?_
              rintro e w7 ⟨rfl, rfl⟩
              clear CA
              go_wp2_with fail
              refine CS.out.mono ?_
              rintro e w8 ⟨rfl, rfl⟩
              clear CS
              go_wp2_with fail
              go_roundw
              case rel => exact ⟨j + 1, s2, by omega, by go_num, by rw [e1], hch, HQ, X⟩
              case measure => simp [intOf]; omega
          · obtain hse : s.seen = mn := by omega
            (try simp only [hse])
            clear hlt v3 hse
            go_upto_region 14 with fail
            go_quiet ((go_at_call 19; exact Calls.quiet_of_same (CP0.out _)))
            replace X := box (X.out.drewN nq)
            generalize w3.drewN nq = wq at X ⊢
            clear p0 p1 p2 pz
            clear CP0 v1 v2
            obtain ⟨pn, e2⟩ : ∃ pn, s2.peer = pn := ⟨_, rfl⟩
            obtain ⟨stn, e3⟩ : ∃ stn, s2.state = stn := ⟨_, rfl⟩
            have q1 := HQ.out.ps
            have q2 := HQ.out.st
            have q3 : mn < 1099511627776 := by have h := HQ.out.ok.se; unfold MAXN at h; omega
            rw [e2, e1] at q1
            rw [e2, e3] at q2
            have CP := box (peer_l X.out (pn : Int) (by omega))
            go_wp2_with fail
            refine CP.out.mono ?_
            rintro e w5 ⟨rfl, rfl⟩
            clear CP
            have CA := box (accepts_l X.out ((mn : Int) - 1) false (decide_eq_false (by omega)))
            by_cases hp0 : pn = 0
            · have hst : stn = 0 := q2.1 hp0
              subst hp0 hst
              have CS := box (state_l X.out 0 (by omega))
              clear q1 q2
              go_wp2_with fail
              refine CA.out.mono ?_
              rintro e w6 ⟨rfl, rfl⟩
              clear CA
              go_wp2_with fail
              refine CS.out.mono ?_
              rintro e w7 ⟨rfl, rfl⟩
              clear CS
              go_wp2_with fail
              go_roundw
              case rel => exact ⟨j + 1, s2, by omega, by go_num, by rw [e1], hch, HQ, X⟩
              case measure => simp [intOf]; omega
            · obtain rfl : pn = mn := by omega
              have hst : stn ≠ 0 := fun h => hp0 (q2.2 h)
              have CB := box (accepts_l X.out (pn : Int) true (decide_eq_true (by omega)))
              have CS := box (state_l X.out (stn : Int) (by omega))
              have hst0 : ((stn : Int) == 0) = false := by simp; omega
              have hp1 : ((pn : Int) == 0) = false := by simp; omega
              clear q1 q2
              go_wp2_with fail
              refine CB.out.mono ?_
              rintro e w6 ⟨rfl, rfl⟩
              clear CB
              go_wp2_with fail
              refine CA.out.mono ?_
              rintro e w7 ⟨rfl, rfl⟩
              clear CA
              go_wp2_with fail
              refine CS.out.mono ?_
              rintro e w8 ⟨rfl, rfl⟩
              clear CS
              go_wp2_with fail
              go_roundw
              case rel => exact ⟨j + 1, s2, by omega, by go_num, by rw [e1], hch, HQ, X⟩
              case measure => simp [intOf]; omega
        | false =>
          obtain ⟨s2, hs2⟩ : ∃ s2, s.tickS = s2 := ⟨_, rfl⟩
          have HT := hQ.out.tick
          have CC := tick_s X.out (hQ.out.ok.si) (by omega)
          have hch : s2.changes ≤ j + 1 := by have := tick_changes s; rw [hs2] at this; omega
          rw [hs2] at HT CC
          have HQ := box HT.1
          obtain ⟨sn, hsn⟩ : ∃ sn, s.seen = sn := ⟨_, rfl⟩
          have e1 : s2.seen = sn := HT.2.1.trans hsn
          clear HT hs2
          replace CC := box CC
          (try simp only [hsn])
          go_wp2_with fail
          refine CC.out.mono ?_
          rintro e w3 ⟨rfl, x, -⟩
          replace X := box x
          clear x CC p0 p1 p2 pz
          obtain ⟨pn, e2⟩ : ∃ pn, s2.peer = pn := ⟨_, rfl⟩
          obtain ⟨stn, e3⟩ : ∃ stn, s2.state = stn := ⟨_, rfl⟩
          have q1 := HQ.out.ps
          have q2 := HQ.out.st
          have q3 : sn < 1099511627776 := by have h := HQ.out.ok.se; unfold MAXN at h; omega
          rw [e2, e1] at q1
          rw [e2, e3] at q2
          have CP := box (peer_l X.out (pn : Int) (by omega))
          go_wp2_with fail
          refine CP.out.mono ?_
          rintro e w4 ⟨rfl, rfl⟩
          clear CP
          have CA := box (accepts_l X.out ((sn : Int) - 1) false (decide_eq_false (by omega)))
          by_cases hp0 : pn = 0
          · have hst : stn = 0 := q2.1 hp0
            subst hp0 hst
            have CS := box (state_l X.out 0 (by omega))
            clear q1 q2
            go_wp2_with fail
            refine CA.out.mono ?_
            rintro e w5 ⟨rfl, rfl⟩
            clear CA
            go_wp2_with fail
            refine CS.out.mono ?_
            rintro e w6 ⟨rfl, rfl⟩
            clear CS
            go_wp2_with fail
            go_roundw
            case rel => exact ⟨j + 1, s2, by omega, by go_num, by rw [e1], hch, HQ, X⟩
            case measure => simp [intOf]; omega
          · obtain rfl : pn = sn := by omega
            have hst : stn ≠ 0 := fun h => hp0 (q2.2 h)
            have CB := box (accepts_l X.out (pn : Int) true (decide_eq_true (by omega)))
            have CS := box (state_l X.out (stn : Int) (by omega))
            have hst0 : ((stn : Int) == 0) = false := by simp; omega
            have hp1 : ((pn : Int) == 0) = false := by simp; omega
            clear q1 q2
            go_wp2_with fail
            refine CB.out.mono ?_
            rintro e w5 ⟨rfl, rfl⟩
            clear CB
            go_wp2_with fail
            refine CA.out.mono ?_
            rintro e w6 ⟨rfl, rfl⟩
            clear CA
            go_wp2_with fail
            refine CS.out.mono ?_
            rintro e w7 ⟨rfl, rfl⟩
            clear CS
            go_wp2_with fail
            go_roundw
            case rel => exact ⟨j + 1, s2, by omega, by go_num, by rw [e1], hch, HQ, X⟩
            case measure => simp [intOf]; omega
      · obtain rfl : j = m := by omega
        go_wp2_with fail
        go_ret
        exact ⟨rfl, hX.out.bel⟩
end Go.Proofs.Ytflaclocakbkgaa
