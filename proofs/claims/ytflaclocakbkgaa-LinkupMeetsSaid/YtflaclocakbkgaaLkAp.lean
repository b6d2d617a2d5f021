/- LinkupApart: its walk. -/
import Derived.Test.YtflaclocakbkgaaLkCo
namespace Go.Proofs.Ytflaclocakbkgaa
open Go.RowKit

theorem S1.other {B : Nat} {w0 w w' : World} {g h : Nat} {s' t : Sv} (x : S1 B w0 w h t) (y : S1 B w0 w' g s') (a : Apart g none w w') (hne : h ≠ g) : S1 B w0 w' h t := ⟨x.x.apart a hne, y.bel, y.sz, x.bg⟩
theorem recv_mine (s : Sv) (m y : Int) : (s.recvS m y).mine = s.mine := by
  unfold Sv.recvS
  split <;> rfl
theorem fld0 (a b : Int) (w : World) : (Instr.field 32 (.agg #[.int .i64 a, .int .i64 b]) 0).run Try.prog w = .ok (.int .i64 a) w := by kernel_rfl
theorem fld1 (a b : Int) (w : World) : (Instr.field 32 (.agg #[.int .i64 a, .int .i64 b]) 1).run Try.prog w = .ok (.int .i64 b) w := by kernel_rfl
theorem tick_mine' (s : Sv) : s.tickS.mine = s.mine := by
  unfold Sv.tickS
  split
  · rfl
  · split <;> rfl
set_option maxRecDepth 100000 in
set_option maxHeartbeats 8000000 in
theorem apart_any (a : Option Addr) (m cp : Nat) (l : List Act8) (hm : l.length = m) (w : World) (hin : Acts8 w a l) :
    Calls Try.prog 9 #[.slice a m cp] w fun e w' => e = .returned (.bool true) ∧ Below w.heap.size w w' := by
  have HI := box hin
  have HM := box hm
  have FL := fld0
  clear hin hm
  have AW := box (awake_any w)
  have ES := eq_gr
  go_enter Try.func9, Try.ntmps9
  go_wp2_with fail
  refine AW.out.mono ?_
  rintro e w1 ⟨rfl, b1⟩
  have B1 := box b1
  clear AW b1
  obtain ⟨g, hg⟩ : ∃ g, w1.heap.size = g := ⟨_, rfl⟩
  have CN := box (new_s 7 4 7 4 rfl rfl (by unfold MAXN; omega) B1.out B1.out.size hg)
  clear hg
  go_wp2_with fail
  refine CN.out.mono ?_
  rintro e w2 ⟨rfl, x, -⟩
  have X := box x
  clear x CN B1
  obtain ⟨h, hh⟩ : ∃ h, w2.heap.size = h := ⟨_, rfl⟩
  have CN := box (new_s 7 4 7 4 rfl rfl (by unfold MAXN; omega) X.out.bel X.out.bel.size hh)
  have GH := box (show h ≠ g from by have := X.out.x.lt; omega)
  clear hh
  go_wp2_with fail
  refine CN.out.mono ?_
  rintro e w3 ⟨rfl, x, b⟩
  replace X := box (X.out.keep b)
  have Y := box x
  clear x CN b
  by_cases h40 : 40 < m
  · go_wp2_with fail
    go_ret
    exact ⟨rfl, X.out.bel⟩
  · go_wp2_with fail
    go_loopw [39] (fun t39 wr => ∃ (j : Nat) (s : Sv), j ≤ m ∧ t39 = .int .i64 j ∧ s.changes ≤ j ∧ Box (s.Ok ∧ s.mine = 7) ∧ Box (S1 w.heap.size w wr g s) ∧ Box (S1 w.heap.size w wr h ⟨7, 4, 0, 0, 0, 0, 0⟩)) (fun t39 _ => m - (intOf t39).toNat)
    case atStart => exact ⟨0, _, by omega, rfl, Nat.le_refl _, box ⟨(Sv.Q.new (by unfold MAXN; omega)).ok, rfl⟩, X, Y⟩
    case round =>
      clear X Y
      obtain ⟨j, s, hj, rfl, hch0, hO, hX, hY⟩ := hrel
      have hQ := box hO.out.1
      have hMI := box hO.out.2
      clear hO
      by_cases hlt : j < m
      · have hjl : j < l.length := by have := HM.out; omega
        obtain ⟨gb, o, rfl, c0, c1, c2⟩ := acts8_at HI.out hjl
        obtain ⟨gr, hgr⟩ : ∃ x, l[j].greet = x := ⟨_, rfl⟩
        obtain ⟨gm, hgm⟩ : ∃ x, l[j].m = x := ⟨_, rfl⟩
        obtain ⟨gy, hgy⟩ : ∃ x, l[j].y = x := ⟨_, rfl⟩
        rw [hgr] at c0
        rw [hgm] at c1
        rw [hgy] at c2
        replace c0 := keepc hX.out.bel c0
        replace c1 := keepc hX.out.bel c1
        replace c2 := keepc hX.out.bel c2
        clear hgr hgm hgy
        obtain ⟨mb, hmb⟩ : ∃ mb, wr.heap.size = mb := ⟨_, rfl⟩
        have k1 : Below wr.heap.size wr (wr.alloc (.cells #[.bool gr, .int .i64 gm, .int .i64 gy] 34)) := (Below.refl _ _).alloc (Nat.le_refl _) _
        have M := box (R3.new wr (.bool gr) (.int .i64 gm) (.int .i64 gy) 34 mb hmb.symm)
        have HB := box hmb
        have X := box (hX.out.keep k1)
        have Y := box (hY.out.keep k1)
        have MG := box (show mb ≠ g ∧ mb ≠ h from by have := hX.out.x.lt; have := hY.out.x.lt; omega)
        clear hX hY
        clear k1
        go_upto_region 11 with fail
        generalize wr.alloc (.cells #[.bool gr, .int .i64 gm, .int .i64 gy] 34) = wa at X Y M ⊢
        (try simp only [HB.out])
        clear hmb c0 c1 c2
        obtain ⟨p0, p1, p2, pz⟩ := M.out
        cases gr with
        | true =>
          obtain ⟨s2, hs2⟩ : ∃ s2, s.recvS gm gy = s2 := ⟨_, rfl⟩
          obtain ⟨b, hb⟩ : ∃ b, s.recvB gm gy = b := ⟨_, rfl⟩
          have CC := recv_l X.out (by omega) gm gy _ _ rfl rfl
          have hch : s2.changes ≤ j + 1 := by have := recv_changes s gm gy; rw [hs2] at this; omega
          have HO := hQ.out.recv gm gy
          have HMI := box (show s2.mine = 7 from by rw [← hs2]; exact (recv_mine s gm gy).trans hMI.out)
          rw [hs2] at HO CC
          rw [hb] at CC
          replace HO := box (And.intro HO HMI.out)
          clear hb hs2 HMI
          replace CC := box CC
          go_wp2_with fail
          refine CC.out.mono ?_
          rintro e w4 ⟨rfl, x, a⟩
          replace M := box (M.out.same (a.block mb M.out.lt MG.out.1 (by simp)))
          replace Y := box (Y.out.other x a GH.out)
          replace X := box x
          clear x a CC p0 p1 p2 pz
          obtain ⟨p0, p1, p2, pz⟩ := M.out
          have CN := box (receive_nil gm gy w4)
          go_wp2_with fail
          refine CN.out.mono ?_
          rintro e w5 ⟨rfl, b5⟩
          replace Y := box (Y.out.keep b5)
          replace X := box (X.out.keep b5)
          clear CN b5 p0 p1 p2 pz
          have HS := box (state_l Y.out 0 rfl)
          have HP := box (peer_l Y.out 0 rfl)
          have HC := box (changes_l Y.out 0 rfl)
          by_cases h2 : j % 2 = 0
          · have h22 : (j : Int) % 2 = 0 := by omega
            clear h2
            go_wp2_with fail
            refine HS.out.mono ?_
            rintro e w20 ⟨rfl, rfl⟩
            go_wp2_with fail
            refine HP.out.mono ?_
            rintro e w21 ⟨rfl, rfl⟩
            go_wp2_with fail
            refine HC.out.mono ?_
            rintro e w22 ⟨rfl, rfl⟩
            clear HS HP HC
            go_wp2_with fail
            clear h22
            go_roundw
            case rel => exact ⟨j + 1, s2, by omega, by go_num, hch, HO, X, Y⟩
            case measure => simp [intOf]; omega
          · have h22 : (j : Int) % 2 = 1 := by omega
            clear h2 HS HP HC
            go_wp2_with fail
            clear h22
            go_roundw
            case rel => exact ⟨j + 1, s2, by omega, by go_num, hch, HO, X, Y⟩
            case measure => simp [intOf]; omega
        | false =>
          obtain ⟨s2, hs2⟩ : ∃ s2, s.tickS = s2 := ⟨_, rfl⟩
          have CC := fun pi h => tick_l X.out hQ.out.si (by omega) s2 7 pi hs2 (by rw [hMI.out]; rfl) h
          have hch : s2.changes ≤ j + 1 := by have := tick_changes s; rw [hs2] at this; omega
          have HO := hQ.out.tick
          have HMI := box (show s2.mine = 7 from by rw [← hs2]; exact (tick_mine' s).trans hMI.out)
          rw [hs2] at HO
          replace HO := box (And.intro HO HMI.out)
          obtain ⟨pi, hpi⟩ : ∃ pi, s2.peer = pi := ⟨_, rfl⟩
          replace CC := box (CC (pi : Int) (by rw [hpi]))
          clear hs2 HMI hpi
          go_wp2_with fail
          refine CC.out.mono ?_
          rintro e w4 ⟨rfl, x, a⟩
          replace Y := box (Y.out.other x a GH.out)
          replace X := box x
          clear x a CC p0 p1 p2 pz
          have CN := box (tick_nil w4)
          go_wp2_with fail
          refine CN.out.mono ?_
          rintro e w5 ⟨rfl, b5⟩
          replace Y := box (Y.out.keep b5)
          replace X := box (X.out.keep b5)
          clear CN b5
          have HS := box (state_l Y.out 0 rfl)
          have HP := box (peer_l Y.out 0 rfl)
          have HC := box (changes_l Y.out 0 rfl)
          by_cases h2 : j % 2 = 0
          · have h22 : (j : Int) % 2 = 0 := by omega
            clear h2
            go_wp2_with fail
            refine HS.out.mono ?_
            rintro e w20 ⟨rfl, rfl⟩
            go_wp2_with fail
            refine HP.out.mono ?_
            rintro e w21 ⟨rfl, rfl⟩
            go_wp2_with fail
            refine HC.out.mono ?_
            rintro e w22 ⟨rfl, rfl⟩
            clear HS HP HC
            go_wp2_with fail
            clear h22
            go_roundw
            case rel => exact ⟨j + 1, s2, by omega, by go_num, hch, HO, X, Y⟩
            case measure => simp [intOf]; omega
          · have h22 : (j : Int) % 2 = 1 := by omega
            clear h2 HS HP HC
            go_wp2_with fail
            clear h22
            go_roundw
            case rel => exact ⟨j + 1, s2, by omega, by go_num, hch, HO, X, Y⟩
            case measure => simp [intOf]; omega
      · obtain rfl : j = m := by omega
        have N1 := box (state_nil wr)
        have N2 := box (peer_nil wr)
        have N3 := box (accepts_nil 0 wr)
        have N4 := box (changes_nil wr)
        clear hY
        go_wp2_with fail
        refine N1.out.mono ?_
        rintro e w20 ⟨rfl, rfl⟩
        go_wp2_with fail
        refine N2.out.mono ?_
        rintro e w21 ⟨rfl, rfl⟩
        go_wp2_with fail
        refine N3.out.mono ?_
        rintro e w22 ⟨rfl, rfl⟩
        go_wp2_with fail
        refine N4.out.mono ?_
        rintro e w23 ⟨rfl, rfl⟩
        go_wp2_with fail
        go_ret
        exact ⟨rfl, hX.out.bel⟩
end Go.Proofs.Ytflaclocakbkgaa
