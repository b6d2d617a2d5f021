/- LinkupTruth: its walk. -/
import Derived.Test.YtflaclocakbkgaaLkV
import Derived.Test.YtflaclocakbkgaaLkLK
namespace Go.Proofs.Ytflaclocakbkgaa
open Go.RowKit

theorem Grs.at_ {w : World} {a : Option Addr} {l : List (Int × Int)} (h : Grs w a l) {j : Nat} (hj : j < l.length) : ∃ g o, a = some ⟨g, o, none⟩ ∧ w.cell? ⟨g, o + j * 2, none⟩ = some (.int .i64 l[j].1) ∧ w.cell? ⟨g, o + j * 2 + 1, none⟩ = some (.int .i64 l[j].2) := by
  rcases h with rfl | ⟨g, o, e, h⟩
  · cases hj
  · exact ⟨g, o, e, h j hj⟩
set_option maxRecDepth 100000 in
set_option maxHeartbeats 4000000 in
theorem truth_any (x0 : Nat) (hx0 : x0 < 4294967296) (a : Option Addr) (m cp : Nat) (l : List (Int × Int)) (hm : l.length = m) (w : World) (hin : Grs w a l) :
    Calls Try.prog 7 #[.int .u32 (x0 : Int), .slice a m cp] w fun e w' => e = .returned (.bool true) ∧ Below w.heap.size w w' := by
  obtain ⟨mi, hmi0⟩ : ∃ mi, 1 + x0 = mi := ⟨_, rfl⟩
  have hm2 : 1 + (x0 : Int) = (mi : Int) := by omega
  have hm3 : 1 ≤ mi ∧ mi ≤ 4294967296 := by omega
  have HI := box hin
  have HM := box hm
  clear hin hm
  have AW := box (awake_any w)
  have ES := eq_gr
  go_enter Try.func7, Try.ntmps7
  go_wp2_with fail
  refine AW.out.mono ?_
  rintro e w1 ⟨rfl, b1⟩
  have B1 := box b1
  clear AW b1
  obtain ⟨g, hg⟩ : ∃ g, w1.heap.size = g := ⟨_, rfl⟩
  have CN := box (new_s mi 1000 mi 1000 rfl rfl (by unfold MAXN; omega) B1.out B1.out.size hg)
  clear hg
  go_wp2_with fail
  (try simp only [hm2])
  refine CN.out.mono ?_
  rintro e w2 ⟨rfl, x, -⟩
  have X := box x
  clear x CN B1
  by_cases h60 : 60 < m
  · go_wp2_with fail
    go_ret
    exact ⟨rfl, X.out.bel⟩
  · go_wp2_with fail
    (try simp only [hm2])
    go_loopw [8, 9, 33] (fun t8 t9 t33 wr => ∃ (j : Nat) (s : Sv), j ≤ m ∧ t33 = .int .i64 j ∧ t8 = .int .i64 (s.seen : Int) ∧ t9 = .int .i64 (s.state : Int) ∧ s.mine = mi ∧ s.changes ≤ j ∧ Box (S1 w.heap.size w wr g s)) (fun _ _ t33 _ => m - (intOf t33).toNat)
    case atStart => exact ⟨0, _, by omega, rfl, rfl, rfl, rfl, Nat.le_refl _, X⟩
    case round =>
      clear X
      obtain ⟨j, s, hj, rfl, rfl, rfl, hmi, hch, hX⟩ := hrel
      by_cases hlt : j < m
      · have hjl : j < l.length := by have := HM.out; omega
        obtain ⟨gb, o, rfl, c0, c1⟩ := Grs.at_ HI.out hjl
        obtain ⟨gm, hgm⟩ : ∃ x, l[j].1 = x := ⟨_, rfl⟩
        obtain ⟨gy, hgy⟩ : ∃ x, l[j].2 = x := ⟨_, rfl⟩
        rw [hgm] at c0
        rw [hgy] at c1
        replace c0 := keepc hX.out.bel c0
        replace c1 := keepc hX.out.bel c1
        clear hgm hgy
        obtain ⟨mb, hmb⟩ : ∃ mb, wr.heap.size = mb := ⟨_, rfl⟩
        have k1 : Below wr.heap.size wr (wr.alloc (.cells #[.int .i64 gm, .int .i64 gy] 32)) := (Below.refl _ _).alloc (Nat.le_refl _) _
        have X := box (hX.out.keep k1)
        have M := box (R2.new wr (.int .i64 gm) (.int .i64 gy) 32 mb hmb.symm)
        have MG := box (show mb ≠ g from by have := hX.out.x.lt; omega)
        have HB := box hmb
        clear k1 hX
        go_upto_region 11 with fail
        generalize wr.alloc (.cells #[.int .i64 gm, .int .i64 gy] 32) = wa at X M ⊢
        (try simp only [HB.out])
        clear hmb c0 c1
        obtain ⟨p0, p1, pz⟩ := M.out
        have CC := box (recv_s X.out (by omega) gm gy)
        go_wp2_with fail
        refine CC.out.mono ?_
        rintro e w3 ⟨rfl, x, a⟩
        replace M := box (M.out.same (a.block mb M.out.lt MG.out (by simp)))
        replace X := box x
        clear x a CC p0 p1 pz
        obtain ⟨p0, p1, pz⟩ := M.out
        by_cases hv : 1 ≤ gm ∧ gm < 1099511627776 ∧ ((s.seen : Int) ≤ gm)
        · obtain ⟨v1, v2, v3⟩ := hv
          obtain ⟨mn, rfl⟩ : ∃ mn : Nat, gm = mn := ⟨gm.toNat, by omega⟩
          by_cases hy : gy = (mi : Int)
          · have hy2 : (gy == (mi : Int)) = true := by simp [hy]
            have E := recv_good (s := s) (m := (mn : Int)) (y := gy) 2 ((okInc_iff _).2 ⟨v1, v2⟩) (by omega) (if_pos (by rw [hmi]; exact hy))
            have X2 := box (show S1 w.heap.size w w3 g ⟨s.mine, s.dead, mn, mn, 2, 0, if s.state ≠ 2 ∨ s.peer ≠ mn then s.changes + 1 else s.changes⟩ from by
              have h := X.out
              rw [E.1] at h
              exact h)
            have CH := box (show (if s.state ≠ 2 ∨ s.peer ≠ mn then s.changes + 1 else s.changes) ≤ j + 1 from by split <;> omega)
            clear E X hy
            have CS := box (state_l X2.out 2 rfl)
            go_wp2_with fail
            refine CS.out.mono ?_
            rintro e w4 ⟨rfl, rfl⟩
            clear CS p0 p1 pz
            go_wp2_with fail
            go_roundw
            case rel => exact ⟨j + 1, ⟨s.mine, s.dead, mn, mn, 2, 0, if s.state ≠ 2 ∨ s.peer ≠ mn then s.changes + 1 else s.changes⟩, by omega, by go_num, rfl, rfl, hmi, CH.out, X2⟩
            case measure => simp [intOf]; omega
          · have hy2 : (gy == (mi : Int)) = false := by simp [hy]
            have E := recv_good (s := s) (m := (mn : Int)) (y := gy) 1 ((okInc_iff _).2 ⟨v1, v2⟩) (by omega) (if_neg (by rw [hmi]; exact hy))
            have X2 := box (show S1 w.heap.size w w3 g ⟨s.mine, s.dead, mn, mn, 1, 0, if s.state ≠ 1 ∨ s.peer ≠ mn then s.changes + 1 else s.changes⟩ from by
              have h := X.out
              rw [E.1] at h
              exact h)
            have CH := box (show (if s.state ≠ 1 ∨ s.peer ≠ mn then s.changes + 1 else s.changes) ≤ j + 1 from by split <;> omega)
            clear E X hy
            have CS := box (state_l X2.out 1 rfl)
            go_wp2_with fail
            refine CS.out.mono ?_
            rintro e w4 ⟨rfl, rfl⟩
            clear CS p0 p1 pz
            go_wp2_with fail
            go_roundw
            case rel => exact ⟨j + 1, ⟨s.mine, s.dead, mn, mn, 1, 0, if s.state ≠ 1 ∨ s.peer ≠ mn then s.changes + 1 else s.changes⟩, by omega, by go_num, rfl, rfl, hmi, CH.out, X2⟩
            case measure => simp [intOf]; omega
        · have E := recv_bad (s := s) (m := gm) gy (by
            by_cases h1 : 1 ≤ gm ∧ gm < 1099511627776
            · right; omega
            · left
              cases h : okInc gm
              · rfl
              · exact absurd ((okInc_iff gm).1 h) h1)
          rw [E.1] at X
          have RL := box (show (s.seen : Int) = (s.seen : Int) from rfl)
          by_cases q1 : gm < 1
          · clear E
            have CS := box (state_s X.out)
            go_wp2_with fail
            refine CS.out.mono ?_
            rintro e w4 ⟨rfl, rfl⟩
            clear CS p0 p1 pz
            go_wp2_with fail
            go_roundw
            case rel => exact ⟨j + 1, s, by omega, by go_num, rfl, rfl, hmi, by omega, X⟩
            case measure => simp [intOf]; omega
          by_cases q2 : 1099511627776 ≤ gm
          · clear E
            have CS := box (state_s X.out)
            go_wp2_with fail
            refine CS.out.mono ?_
            rintro e w4 ⟨rfl, rfl⟩
            clear CS p0 p1 pz
            go_wp2_with fail
            go_roundw
            case rel => exact ⟨j + 1, s, by omega, by go_num, rfl, rfl, hmi, by omega, X⟩
            case measure => simp [intOf]; omega
          have q3 : gm < (s.seen : Int) := by omega
          clear E
          have CS := box (state_s X.out)
          go_wp2_with fail
          refine CS.out.mono ?_
          rintro e w4 ⟨rfl, rfl⟩
          clear CS p0 p1 pz
          go_wp2_with fail
          go_roundw
          case rel => exact ⟨j + 1, s, by omega, by go_num, rfl, rfl, hmi, by omega, X⟩
          case measure => simp [intOf]; omega
      · obtain rfl : j = m := by omega
        go_wp2_with fail
        go_ret
        exact ⟨rfl, hX.out.bel⟩
end Go.Proofs.Ytflaclocakbkgaa
