/- LinkupCounts: its walk. -/
import Derived.Test.YtflaclocakbkgaaLkW
namespace Go.Proofs.Ytflaclocakbkgaa
open Go.RowKit

theorem changes_l {B : Nat} {w0 w : World} {g : Nat} {s : Sv} (x : S1 B w0 w g s) (n : Int) (h : (s.changes : Int) = n) : Calls Try.prog 20 #[.pointer (some ⟨g, 0, none⟩)] w fun e w' => e = .returned (.int .i64 n) ∧ w = w' := by
  subst h; exact changes_s x
theorem set_change (s : Sv) (st pr e l : Nat) : ((Sv.setS ⟨s.mine, s.dead, s.peer, e, s.state, l, s.changes⟩ st pr).state = s.state ∧ (Sv.setS ⟨s.mine, s.dead, s.peer, e, s.state, l, s.changes⟩ st pr).peer = s.peer ∧ (Sv.setS ⟨s.mine, s.dead, s.peer, e, s.state, l, s.changes⟩ st pr).changes = s.changes) ∨ (((Sv.setS ⟨s.mine, s.dead, s.peer, e, s.state, l, s.changes⟩ st pr).state ≠ s.state ∨ (Sv.setS ⟨s.mine, s.dead, s.peer, e, s.state, l, s.changes⟩ st pr).peer ≠ s.peer) ∧ (Sv.setS ⟨s.mine, s.dead, s.peer, e, s.state, l, s.changes⟩ st pr).changes = s.changes + 1) := by
  show (st = s.state ∧ pr = s.peer ∧ (if s.state ≠ st ∨ s.peer ≠ pr then s.changes + 1 else s.changes) = s.changes) ∨ ((st ≠ s.state ∨ pr ≠ s.peer) ∧ (if s.state ≠ st ∨ s.peer ≠ pr then s.changes + 1 else s.changes) = s.changes + 1)
  by_cases h : s.state ≠ st ∨ s.peer ≠ pr
  · rw [if_pos h]; exact .inr ⟨by omega, rfl⟩
  · rw [if_neg h]; exact .inl ⟨by omega, by omega, rfl⟩
theorem tick_change (s : Sv) : (s.tickS.state = s.state ∧ s.tickS.peer = s.peer ∧ s.tickS.changes = s.changes) ∨ ((s.tickS.state ≠ s.state ∨ s.tickS.peer ≠ s.peer) ∧ s.tickS.changes = s.changes + 1) := by
  unfold Sv.tickS
  split
  · exact .inl ⟨rfl, rfl, rfl⟩
  · split
    · exact set_change s 0 0 s.seen s.silent
    · exact .inl ⟨rfl, rfl, rfl⟩
theorem recv_change (s : Sv) (m y : Int) : ((s.recvS m y).state = s.state ∧ (s.recvS m y).peer = s.peer ∧ (s.recvS m y).changes = s.changes) ∨ (((s.recvS m y).state ≠ s.state ∨ (s.recvS m y).peer ≠ s.peer) ∧ (s.recvS m y).changes = s.changes + 1) := by
  unfold Sv.recvS
  split
  · exact .inl ⟨rfl, rfl, rfl⟩
  · exact set_change s _ _ _ _
set_option maxRecDepth 100000 in
set_option maxHeartbeats 8000000 in
theorem counts_any (x0 : Nat) (hx0 : x0 < 256) (a : Option Addr) (m cp : Nat) (l : List Act8) (hm : l.length = m) (w : World) (hin : Acts8 w a l) :
    Calls Try.prog 8 #[nU8 x0, .slice a m cp] w fun e w' => e = .returned (.bool true) ∧ Below w.heap.size w w' := by
  obtain ⟨n, hn⟩ : ∃ n, 1 + x0 % 9 = n := ⟨_, rfl⟩
  have hn2 : 1 + (x0 : Int) % 9 = (n : Int) := by omega
  have hn3 : 1 ≤ n ∧ n ≤ 9 := by omega
  have HI := box hin
  have HM := box hm
  clear hin hm hn
  have AW := box (awake_any w)
  have ES := eq_gr
  go_enter Try.func8, Try.ntmps8
  go_wp2_with fail
  refine AW.out.mono ?_
  rintro e w1 ⟨rfl, b1⟩
  have B1 := box b1
  clear AW b1
  obtain ⟨g, hg⟩ : ∃ g, w1.heap.size = g := ⟨_, rfl⟩
  have CN := box (new_s 4 n 4 n rfl rfl (by unfold MAXN; omega) B1.out B1.out.size hg)
  clear hg
  go_wp2_with fail
  (try simp only [hn2])
  refine CN.out.mono ?_
  rintro e w2 ⟨rfl, x, -⟩
  have X := box x
  clear x CN B1
  by_cases h60 : 60 < m
  · go_wp2_with fail
    go_ret
    exact ⟨rfl, X.out.bel⟩
  · go_wp2_with fail
    (try simp only [hn2])
    go_loopw [34] (fun t34 wr => ∃ (j : Nat) (s : Sv), j ≤ m ∧ t34 = .int .i64 j ∧ s.changes ≤ j ∧ Box s.Q ∧ Box (S1 w.heap.size w wr g s)) (fun t34 _ => m - (intOf t34).toNat)
    case atStart => exact ⟨0, _, by omega, rfl, Nat.le_refl _, box (Sv.Q.new (by unfold MAXN; omega)), X⟩
    case round =>
      clear X
      obtain ⟨j, s, hj, rfl, hch0, hQ, hX⟩ := hrel
      by_cases hlt : j < m
      · have hjl : j < l.length := by have := HM.out; omega
        obtain ⟨gb, o, rfl, c0, c1, c2⟩ := acts8_at HI.out hjl
        obtain ⟨gr, hgr⟩ : ∃ x, l[j].greet = x := ⟨_, rfl⟩
        obtain ⟨gm, hgm⟩ : ∃ x, l[j].m = x := ⟨_, rfl⟩
        obtain ⟨gy, hgy⟩ : ∃ x, l[j].y = x := ⟨_, rfl⟩
        rw [hgr] at c0
        rw [hgm] at c1
        rw [hgy] at c2
        replace c0 := keepc hX.out.bel c0
        replace c1 := keepc hX.out.bel c1
        replace c2 := keepc hX.out.bel c2
        clear hgr hgm hgy
        obtain ⟨mb, hmb⟩ : ∃ mb, wr.heap.size = mb := ⟨_, rfl⟩
        have k1 : Below wr.heap.size wr (wr.alloc (.cells #[.bool gr, .int .i64 gm, .int .i64 gy] 34)) := (Below.refl _ _).alloc (Nat.le_refl _) _
        have M := box (R3.new wr (.bool gr) (.int .i64 gm) (.int .i64 gy) 34 mb hmb.symm)
        have HB := box hmb
        have X := box (hX.out.keep k1)
        have MG := box (show mb ≠ g from by have := hX.out.x.lt; omega)
        clear hX
        clear k1
        go_upto_region 9 with fail
        generalize wr.alloc (.cells #[.bool gr, .int .i64 gm, .int .i64 gy] 34) = wa at X M ⊢
        (try simp only [HB.out])
        clear hmb c0 c1 c2
        obtain ⟨p0, p1, p2, pz⟩ := M.out
        obtain ⟨st, hst⟩ : ∃ st, s.state = st := ⟨_, rfl⟩
        obtain ⟨pr, hpr⟩ : ∃ pr, s.peer = pr := ⟨_, rfl⟩
        obtain ⟨ch, hch⟩ : ∃ ch, s.changes = ch := ⟨_, rfl⟩
        have CS := box (state_l X.out (st : Int) (by omega))
        have CP := box (peer_l X.out (pr : Int) (by omega))
        have CH := box (changes_l X.out (ch : Int) (by omega))
        have hch1 : ch ≤ j := by omega
        go_wp2_with fail
        refine CS.out.mono ?_
        rintro e w3 ⟨rfl, rfl⟩
        go_wp2_with fail
        refine CP.out.mono ?_
        rintro e w4 ⟨rfl, rfl⟩
        go_wp2_with fail
        refine CH.out.mono ?_
        rintro e w5 ⟨rfl, rfl⟩
        clear CS CP CH
        cases gr with
        | true =>
          obtain ⟨s2, hs2⟩ : ∃ s2, s.recvS gm gy = s2 := ⟨_, rfl⟩
          have D := recv_change s gm gy
          have HR := hQ.out.recv gm gy
          have CC0 := fun b (h : s.recvB gm gy = b) => recv_l X.out (by omega) gm gy _ b rfl h
          rw [hs2] at D HR
          rw [hst, hpr, hch] at D
          have HQ := box HR.1
          clear HR
          rcases D with ⟨d1, d2, d3⟩ | ⟨d12, d3⟩
          · have CR := CC0 false (by unfold Sv.recvB; rw [hs2]; exact decide_eq_false (by omega))
            rw [hs2] at CR
            replace CR := box CR
            clear CC0
            go_wp2_with fail
            refine CR.out.mono ?_
            rintro e w6 ⟨rfl, x, -⟩
            replace X := box x
            clear x CR p0 p1 p2 pz
            have CS := box (state_l X.out (st : Int) (by omega))
            have CP := box (peer_l X.out (pr : Int) (by omega))
            have CC := box (changes_l X.out (ch : Int) (by omega))
            have hcc : ((ch : Int) == (ch : Int) + 1) = false := by simp; omega
            go_wp2_with fail
            refine CS.out.mono ?_
            rintro e w10 ⟨rfl, rfl⟩
            go_wp2_with fail
            refine CP.out.mono ?_
            rintro e w11 ⟨rfl, rfl⟩
            go_wp2_with fail
            refine CC.out.mono ?_
            rintro e w12 ⟨rfl, rfl⟩
            go_wp2_with fail
            refine CC.out.mono ?_
            rintro e w13 ⟨rfl, rfl⟩
            go_wp2_with fail
            go_roundw
            case rel => exact ⟨j + 1, s2, by omega, by go_num, by omega, HQ, X⟩
            case measure => simp [intOf]; omega
          · obtain ⟨st2, hst2⟩ : ∃ st2, s2.state = st2 := ⟨_, rfl⟩
            obtain ⟨pr2, hpr2⟩ : ∃ pr2, s2.peer = pr2 := ⟨_, rfl⟩
            by_cases hd : st2 = st
            · have hp : ¬ pr2 = pr := by omega
              have hp2 : ((pr2 : Int) == (pr : Int)) = false := by simp; omega
              have hp3 : ((pr2 : Int) != (pr : Int)) = true := by simp; omega
              have CR := CC0 true (by unfold Sv.recvB; rw [hs2]; exact decide_eq_true (by omega))
              rw [hs2] at CR
              replace CR := box CR
              clear CC0
              go_wp2_with fail
              refine CR.out.mono ?_
              rintro e w6 ⟨rfl, x, -⟩
              replace X := box x
              clear x CR p0 p1 p2 pz
              subst hd
              have CS := box (state_l X.out (st2 : Int) (by omega))
              have CP := box (peer_l X.out (pr2 : Int) (by omega))
              have CC := box (changes_l X.out ((ch : Int) + 1) (by omega))
              go_wp2_with fail
              refine CS.out.mono ?_
              rintro e w10 ⟨rfl, rfl⟩
              go_wp2_with fail
              refine CP.out.mono ?_
              rintro e w11 ⟨rfl, rfl⟩
              go_wp2_with fail
              refine CC.out.mono ?_
              rintro e w12 ⟨rfl, rfl⟩
              go_wp2_with fail
              go_roundw
              case rel => exact ⟨j + 1, s2, by omega, by go_num, by omega, HQ, X⟩
              case measure => simp [intOf]; omega
            · have CR := CC0 true (by unfold Sv.recvB; rw [hs2]; exact decide_eq_true (by omega))
              rw [hs2] at CR
              replace CR := box CR
              clear CC0
              go_wp2_with fail
              refine CR.out.mono ?_
              rintro e w6 ⟨rfl, x, -⟩
              replace X := box x
              clear x CR p0 p1 p2 pz
              have CS := box (state_l X.out (st2 : Int) (by omega))
              have CP := box (peer_l X.out (pr2 : Int) (by omega))
              have CC := box (changes_l X.out ((ch : Int) + 1) (by omega))
              go_wp2_with fail
              refine CS.out.mono ?_
              rintro e w10 ⟨rfl, rfl⟩
              go_wp2_with fail
              refine CC.out.mono ?_
              rintro e w11 ⟨rfl, rfl⟩
              go_wp2_with fail
              go_roundw
              case rel => exact ⟨j + 1, s2, by omega, by go_num, by omega, HQ, X⟩
              case measure => simp [intOf]; omega
        | false =>
          obtain ⟨s2, hs2⟩ : ∃ s2, s.tickS = s2 := ⟨_, rfl⟩
          have D := tick_change s
          have HT := hQ.out.tick
          have CC0 := tick_s X.out hQ.out.ok.si (by omega)
          rw [hs2] at D HT
          rw [hst, hpr, hch] at D
          have HQ := box HT.1
          clear HT
          rcases D with ⟨d1, d2, d3⟩ | ⟨d12, d3⟩
          · rw [hs2] at CC0
            replace CC0 := box CC0
            go_wp2_with fail
            refine CC0.out.mono ?_
            rintro e w6 ⟨rfl, x, -⟩
            replace X := box x
            clear x CC0 p0 p1 p2 pz
            have CS := box (state_l X.out (st : Int) (by omega))
            have CP := box (peer_l X.out (pr : Int) (by omega))
            have CC := box (changes_l X.out (ch : Int) (by omega))
            have hcc : ((ch : Int) == (ch : Int) + 1) = false := by simp; omega
            go_wp2_with fail
            refine CS.out.mono ?_
            rintro e w10 ⟨rfl, rfl⟩
            go_wp2_with fail
            refine CP.out.mono ?_
            rintro e w11 ⟨rfl, rfl⟩
            go_wp2_with fail
            refine CS.out.mono ?_
            rintro e w12 ⟨rfl, rfl⟩
            go_wp2_with fail
            refine CP.out.mono ?_
            rintro e w13 ⟨rfl, rfl⟩
            go_wp2_with fail
            refine CC.out.mono ?_
            rintro e w14 ⟨rfl, rfl⟩
            go_wp2_with fail
            refine CC.out.mono ?_
            rintro e w15 ⟨rfl, rfl⟩
            go_wp2_with fail
            go_roundw
            case rel => exact ⟨j + 1, s2, by omega, by go_num, by omega, HQ, X⟩
            case measure => simp [intOf]; omega
          · obtain ⟨st2, hst2⟩ : ∃ st2, s2.state = st2 := ⟨_, rfl⟩
            obtain ⟨pr2, hpr2⟩ : ∃ pr2, s2.peer = pr2 := ⟨_, rfl⟩
            by_cases hd : st2 = st
            · have hp : ¬ pr2 = pr := by omega
              have hp2 : ((pr2 : Int) == (pr : Int)) = false := by simp; omega
              have hp3 : ((pr2 : Int) != (pr : Int)) = true := by simp; omega
              rw [hs2] at CC0
              replace CC0 := box CC0
              go_wp2_with fail
              refine CC0.out.mono ?_
              rintro e w6 ⟨rfl, x, -⟩
              replace X := box x
              clear x CC0 p0 p1 p2 pz
              subst hd
              have CS := box (state_l X.out (st2 : Int) (by omega))
              have CP := box (peer_l X.out (pr2 : Int) (by omega))
              have CC := box (changes_l X.out ((ch : Int) + 1) (by omega))
              go_wp2_with fail
              refine CS.out.mono ?_
              rintro e w10 ⟨rfl, rfl⟩
              go_wp2_with fail
              refine CP.out.mono ?_
              rintro e w11 ⟨rfl, rfl⟩
              go_wp2_with fail
              refine CS.out.mono ?_
              rintro e w12 ⟨rfl, rfl⟩
              go_wp2_with fail
              refine CP.out.mono ?_
              rintro e w13 ⟨rfl, rfl⟩
              go_wp2_with fail
              refine CC.out.mono ?_
              rintro e w14 ⟨rfl, rfl⟩
              go_wp2_with fail
              go_roundw
              case rel => exact ⟨j + 1, s2, by omega, by go_num, by omega, HQ, X⟩
              case measure => simp [intOf]; omega
            · rw [hs2] at CC0
              replace CC0 := box CC0
              go_wp2_with fail
              refine CC0.out.mono ?_
              rintro e w6 ⟨rfl, x, -⟩
              replace X := box x
              clear x CC0 p0 p1 p2 pz
              have CS := box (state_l X.out (st2 : Int) (by omega))
              have CP := box (peer_l X.out (pr2 : Int) (by omega))
              have CC := box (changes_l X.out ((ch : Int) + 1) (by omega))
              go_wp2_with fail
              refine CS.out.mono ?_
              rintro e w10 ⟨rfl, rfl⟩
              go_wp2_with fail
              refine CS.out.mono ?_
              rintro e w11 ⟨rfl, rfl⟩
              go_wp2_with fail
              refine CC.out.mono ?_
              rintro e w12 ⟨rfl, rfl⟩
              go_wp2_with fail
              go_roundw
              case rel => exact ⟨j + 1, s2, by omega, by go_num, by omega, HQ, X⟩
              case measure => simp [intOf]; omega
      · obtain rfl : j = m := by omega
        go_wp2_with fail
        go_ret
        exact ⟨rfl, hX.out.bel⟩
end Go.Proofs.Ytflaclocakbkgaa
