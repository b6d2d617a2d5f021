/- LinkupMeets: its walk. -/
import Derived.Test.YtflaclocakbkgaaLkX
import Derived.LoopN
import Derived.Deep.CutBlock
namespace Go.Proofs.Ytflaclocakbkgaa
open Go.RowKit

theorem zero_gr (w : World) : (zeroValue 32).run Try.prog w = .ok (.agg #[.int .i64 0, .int .i64 0]) w := by kernel_rfl
set_option maxRecDepth 100000 in
set_option maxHeartbeats 16000000 in
theorem meets_any (y0 y1 : Nat) (hy0 : y0 < 256) (hy1 : y1 < 256) (a : Option Addr) (L cp : Nat) (xs : List Nat) (hm : xs.length = L) (hxs : ∀ x ∈ xs, x < 256) (w : World) (hin : In w a xs) :
    Calls Try.prog 6 #[nU8 y0, nU8 y1, .slice a L cp] w fun e w' => e = .returned (.bool true) ∧ Below w.heap.size w w' := by
  obtain ⟨d, hd⟩ : ∃ d, 1 + y0 % 6 = d := ⟨_, rfl⟩
  have hd2 : 1 + (y0 : Int) % 6 = (d : Int) := by omega
  have hd3 : 1 ≤ d ∧ d ≤ 6 := by omega
  obtain ⟨n, hn⟩ : ∃ n, 2 + y1 % 30 = n := ⟨_, rfl⟩
  have hn2 : 2 + (y1 : Int) % 30 = (n : Int) := by omega
  have hn3 : 2 ≤ n ∧ n ≤ 31 := by omega
  have HI := box hin
  have HM := box hm
  have HX := box hxs
  clear hin hm hxs hd hn
  obtain ⟨p, HP⟩ : ∃ p : Meet.Par, Box (p.n = n ∧ p.d = d ∧ p.ma = 10 ∧ p.mb = 20 ∧ (∀ t, p.ra t = (decide (t < L) && decide (((xs.getD t 0 : Nat) : Int) % 8 = 4))) ∧ (∀ t, p.rb t = (decide (t < L) && decide (((xs.getD t 0 : Nat) : Int) % 8 = 5))) ∧ (∀ t, p.ka t = (!decide (t < L) || decide (bits .and .i64 ((xs.getD t 0 : Nat) : Int) 1 = 0))) ∧ (∀ t, p.kb t = (!decide (t < L) || decide (bits .and .i64 ((xs.getD t 0 : Nat) : Int) 2 = 0)))) :=
    ⟨⟨n, d, 10, 20, _, _, _, _⟩, box ⟨rfl, rfl, rfl, rfl, fun _ => rfl, fun _ => rfl, fun _ => rfl, fun _ => rfl⟩⟩
  have AW := box (awake_any w)
  have ES := eq_gr
  go_enter Try.func6, Try.ntmps6
  go_wp2_with fail
  refine AW.out.mono ?_
  rintro e w1 ⟨rfl, b1⟩
  have B1 := box b1
  clear AW b1
  by_cases h40 : 40 < L
  · go_wp2_with fail
    go_ret
    exact ⟨rfl, B1.out⟩
  -- mine, s
  have k1 : Below w1.heap.size w1 (w1.alloc (.cells #[.int .i64 10, .int .i64 20] 45)) := (Below.refl _ _).alloc (Nat.le_refl _) _
  obtain ⟨bm, hbm⟩ : ∃ bm, w1.heap.size = bm := ⟨_, rfl⟩
  have RM := box (R2.new w1 (.int .i64 10) (.int .i64 20) 45 bm hbm.symm)
  have s1 := box (show (w1.alloc (.cells #[.int .i64 10, .int .i64 20] 45)).heap.size = bm + 1 from by rw [size_alloc', hbm])
  have B2 := box (B1.out.trans (k1.mono B1.out.size))
  have LB := box (show w.heap.size ≤ bm from by rw [← hbm]; exact B1.out.size)
  have HBM := box hbm
  clear k1
  go_upto_region 7 with fail
  generalize w1.alloc (.cells #[.int .i64 10, .int .i64 20] 45) = w2 at RM s1 B2 ⊢
  (try simp only [HBM.out])
  clear hbm B1
  obtain ⟨bs, hbs⟩ : ∃ bs, w2.heap.size = bs := ⟨_, rfl⟩
  have k1 : Below w2.heap.size w2 (w2.alloc (.cells #[.pointer none, .pointer none] 46)) := (Below.refl _ _).alloc (Nat.le_refl _) _
  have RS := box (R2.new w2 (.pointer none) (.pointer none) 46 bs hbs.symm)
  replace RM := box (RM.out.keep k1)
  have s2 := box (show (w2.alloc (.cells #[.pointer none, .pointer none] 46)).heap.size = bs + 1 from by rw [size_alloc', hbs])
  have OBS := box (show bm < bs from by have := s1.out; omega)
  replace B2 := box (B2.out.trans (k1.mono B2.out.size))
  have HBS := box hbs
  clear k1
  go_upto_region 8 with fail
  generalize w2.alloc (.cells #[.pointer none, .pointer none] 46) = w3 at RM RS s2 B2 ⊢
  (try simp only [HBS.out])
  clear hbs s1
  obtain ⟨q0, q1, qz⟩ := RM.out
  obtain ⟨r0, r1, rz⟩ := RS.out
  go_wp2_with fail
  refine wp_loop_rounds 3 ?_
  rw [rounds_succ]
  have N0 := box (new_any 10 n 10 n rfl rfl (by unfold MAXN; omega) w3)
  go_wp2_with fail
  refine N0.out.mono ?_
  rintro e w4 ⟨rfl, x0, b4⟩
  obtain ⟨g0, hg0⟩ : ∃ g0, w3.heap.size = g0 := ⟨_, rfl⟩
  have s3 := World.block_lt_of_cell? w4 ⟨w3.heap.size, 0, none⟩ x0.mine
  rw [hg0] at x0 s3
  (try simp only [hg0])
  replace RM := box (RM.out.keep b4)
  replace RS := box (RS.out.keep b4)
  replace B2 := box (B2.out.trans (b4.mono B2.out.size))
  have OG0 := box (show bs < g0 from by have := s2.out; omega)
  have X0 := box x0
  clear N0 x0 b4 q0 q1 qz r0 r1 rz s2 hg0
  -- s[0]
  have a5 : Apart bs none w4 (w4.setCell ⟨bs, 0, none⟩ (.pointer (some ⟨g0, 0, none⟩))) := (Apart.refl _ _ _).setCell 0 _
  have RS5 := box (RS.out.set0 (.pointer (some ⟨g0, 0, none⟩)))
  have RM5 := box (RM.out.same (a5.block bm RM.out.lt (by have := OBS.out; omega) (by simp)))
  have X05 := box (X0.out.same (a5.block g0 X0.out.lt (by have := OG0.out; omega) (by simp)))
  have B5 := box (a5.below B2.out B2.out.size (by have := LB.out; have := OBS.out; omega) (fun k hk => by cases hk))
  have s5 := Nat.lt_of_lt_of_le s3 a5.size
  obtain ⟨q0, q1, qz⟩ := RM.out
  obtain ⟨r0, r1, rz⟩ := RS.out
  go_upto_region 12 with fail
  generalize w4.setCell ⟨bs, 0, none⟩ (.pointer (some ⟨g0, 0, none⟩)) = w5 at RS5 RM5 X05 B5 s5 ⊢
  clear a5 q0 q1 qz r0 r1 rz RS RM X0 B2 s3
  obtain ⟨q0, q1, qz⟩ := RM5.out
  obtain ⟨r0, r1, rz⟩ := RS5.out
  have N1 := box (new_any 20 n 20 n rfl rfl (by unfold MAXN; omega) w5)
  go_wp2_with fail
  (try rw [rounds_succ])
  (try go_wp2_with fail)
  refine N1.out.mono ?_
  rintro e w6 ⟨rfl, x1, b6⟩
  obtain ⟨g1, hg1⟩ : ∃ g1, w5.heap.size = g1 := ⟨_, rfl⟩
  have s6 := World.block_lt_of_cell? w6 ⟨w5.heap.size, 0, none⟩ x1.mine
  rw [hg1] at x1 s6
  (try simp only [hg1])
  have RM := box (RM5.out.keep b6)
  have RS := box (RS5.out.keep b6)
  have X0 := box (X05.out.keep b6)
  have B2 := box (B5.out.trans (b6.mono B5.out.size))
  have OG1 := box (show g0 < g1 from by omega)
  have X1 := box x1
  clear N1 x1 b6 q0 q1 qz r0 r1 rz s5 hg1 RS5 RM5 X05 B5
  have a7 : Apart bs none w6 (w6.setCell ⟨bs, 1, none⟩ (.pointer (some ⟨g1, 0, none⟩))) := (Apart.refl _ _ _).setCell 1 _
  have RS7 := box (RS.out.set1 (.pointer (some ⟨g1, 0, none⟩)))
  have RM7 := box (RM.out.same (a7.block bm RM.out.lt (by have := OBS.out; omega) (by simp)))
  have X07 := box (X0.out.same (a7.block g0 X0.out.lt (by have := OG0.out; omega) (by simp)))
  have X17 := box (X1.out.same (a7.block g1 X1.out.lt (by have := OG0.out; have := OG1.out; omega) (by simp)))
  have B7 := box (a7.below B2.out B2.out.size (by have := LB.out; have := OBS.out; omega) (fun k hk => by cases hk))
  have s7 := Nat.lt_of_lt_of_le s6 a7.size
  obtain ⟨q0, q1, qz⟩ := RM.out
  obtain ⟨r0, r1, rz⟩ := RS.out
  go_upto_region 12 with fail
  generalize w6.setCell ⟨bs, 1, none⟩ (.pointer (some ⟨g1, 0, none⟩)) = w7 at RS7 RM7 X07 X17 B7 s7 ⊢
  clear a7 q0 q1 qz r0 r1 rz RS RM X0 X1 B2 s6
  obtain ⟨q0, q1, qz⟩ := RM7.out
  obtain ⟨r0, r1, rz⟩ := RS7.out
  go_wp2_with fail
  rw [rounds_succ]
  go_upto_region 15 with fail
  clear q0 q1 qz r0 r1 rz
  have MM := fun (u : World) => (show (Instr.makeMap 47 none).run Try.prog u = .ok (.map (some u.heap.size)) (u.alloc (.map #[] 0)) from rfl)
  obtain ⟨m0, hm0⟩ : ∃ m0, w7.heap.size = m0 := ⟨_, rfl⟩
  go_upto_region 16 with fail
  have e8 := size_alloc' w7 (.map #[] 0)
  have e9 := size_alloc' (w7.alloc (.map #[] 0)) (.map #[] 0)
  obtain ⟨m1, hm1⟩ : ∃ m1, m0 + 1 = m1 := ⟨_, rfl⟩
  obtain ⟨bw, hbw⟩ : ∃ bw, m1 + 1 = bw := ⟨_, rfl⟩
  have k8 := map_below w7
  have k9 := map_below (w7.alloc (.map #[] 0))
  have k10 : Below ((w7.alloc (.map #[] 0)).alloc (.map #[] 0)).heap.size ((w7.alloc (.map #[] 0)).alloc (.map #[] 0)) (((w7.alloc (.map #[] 0)).alloc (.map #[] 0)).alloc (.cells #[.map (some m0), .map (some m1)] 48)) := (Below.refl _ _).alloc (Nat.le_refl _) _
  have y0 := MapIs.new w7
  have y1 := MapIs.new (w7.alloc (.map #[] 0))
  rw [hm0] at y0
  rw [e8, hm0, hm1] at y1
  have hbw2 : bw = ((w7.alloc (.map #[] 0)).alloc (.map #[] 0)).heap.size := by rw [e9, e8, hm0]; omega
  have E := box (show ME w.heap.size w (((w7.alloc (.map #[] 0)).alloc (.map #[] 0)).alloc (.cells #[.map (some m0), .map (some m1)] 48)) bm bs bw m0 m1 g0 g1 10 20 ⟨10, n, 0, 0, 0, 0, 0⟩ ⟨20, n, 0, 0, 0, 0, 0⟩ (Meet.ents d (Meet.run p 0).hb 0) (Meet.ents d (Meet.run p 0).ha 0) from by
    have o1 := OBS.out
    have o2 := OG0.out
    have o3 := OG1.out
    have o4 := LB.out
    have o5 := B7.out.size
    refine ⟨((RM7.out.keep k8).keep k9).keep k10, ((RS7.out.keep k8).keep k9).keep k10, R2.new _ _ _ _ bw hbw2, ((X07.out.keep k8).keep k9).keep k10, ((X17.out.keep k8).keep k9).keep k10, (y0.keep k9).keep k10, y1.keep k10, ((B7.out.trans (k8.mono o5)).trans (k9.mono (by omega))).trans (k10.mono (by omega)), by have := k10.size; omega, ⟨by omega, by omega, by omega, by omega, by omega, by omega⟩, ⟨by omega, by omega, by omega, by omega, by omega, by omega, by omega, by omega, by omega, by omega⟩, ⟨by omega, by omega, by omega, by omega, by omega⟩, ⟨by omega, by omega, by omega, by omega, by omega⟩, by omega⟩)
  have HB3 := box (And.intro hm1 hbw)
  clear k8 k9 k10 y0 y1 MM RS7 RM7 X07 X17 B7 s7 hbw2 e8 e9 hm0
  (try simp only [hm1, hbw])
  generalize ((w7.alloc (.map #[] 0)).alloc (.map #[] 0)).alloc (.cells #[.map (some m0), .map (some m1)] 48) = w8 at E ⊢
  clear hm1 hbw OBS OG0 OG1 LB
  have HF0 := box (show Hf n (5 * 0) (Meet.run p 0).a (Meet.run p 0).b 10 20 ⟨10, n, 0, 0, 0, 0, 0⟩ ⟨20, n, 0, 0, 0, 0, 0⟩ from by
    obtain ⟨h1, h2, h3, h4, -⟩ := HP.out
    refine ⟨?_, ?_, rfl, rfl, ⟨(Sv.Q.new (by unfold MAXN; omega)).ok, rfl, Nat.zero_le _⟩, ⟨(Sv.Q.new (by unfold MAXN; omega)).ok, rfl, Nat.zero_le _⟩⟩
    · show Meet.Sd.mk 10 0 0 0 0 = Meet.fresh p.ma
      rw [h3]; rfl
    · show Meet.Sd.mk 20 0 0 0 0 = Meet.fresh p.mb
      rw [h4]; rfl)
  obtain ⟨T, hT0⟩ : ∃ T, L + 4 * d + 40 = T := ⟨_, rfl⟩
  have hT : (L : Int) + 4 * (d : Int) + 40 = (T : Int) := by omega
  have hT3 : T ≤ 104 := by omega
  have HT := box hT0
  clear hT0
  go_wp2_with fail
  (try simp only [hT])
  go_loopw [60] (fun t60 wr => ∃ (t g0 g1 ma mb : Nat) (sa sb : Sv), t ≤ T ∧ t60 = .int .i64 t ∧ Box (Hf n (5 * t) (Meet.run p t).a (Meet.run p t).b ma mb sa sb) ∧ Box (ME w.heap.size w wr bm bs bw m0 m1 g0 g1 ma mb sa sb (Meet.ents d (Meet.run p t).hb 0) (Meet.ents d (Meet.run p t).ha 0))) (fun t60 _ => T - (intOf t60).toNat)
  case atStart => exact ⟨0, g0, g1, 10, 20, _, _, by omega, rfl, HF0, E⟩
  case round =>
    clear HF0 E
    obtain ⟨t, g0', g1', ma, mb, sa, sb, ht, rfl, hF, hE⟩ := hrel
    by_cases htT : t < T
    · go_wp2_with fail
      go_loopw [63] (fun t63 wr => ∃ (i g0 g1 ma mb : Nat) (sa sb : Sv), i ≤ 2 ∧ t63 = .int .i64 i ∧ Box (Hf n (5 * t + 1 + i) (Meet.fA p t i) (Meet.fB p t i) ma mb sa sb) ∧ Box (ME w.heap.size w wr bm bs bw m0 m1 g0 g1 ma mb sa sb (Meet.ents d (Meet.fHB p t i) 0) (Meet.ents d (Meet.fHA p t i) 0))) (fun t63 _ => 2 - (intOf t63).toNat)
      case atStart => exact ⟨0, g0', g1', ma, mb, sa, sb, by omega, rfl, box ⟨hF.out.ea, hF.out.eb, hF.out.ma, hF.out.mb, hF.out.ga.le (by omega), hF.out.gb.le (by omega)⟩, hE⟩
      case round =>
        clear hF hE
        obtain ⟨i, g0, g1, ma, mb, sa, sb, hi, rfl, hF, hE⟩ := hrel
        by_cases hi0 : i = 0
        · subst hi0
          obtain ⟨rb, hrb⟩ : ∃ rb, p.ra t = rb := ⟨_, rfl⟩
          have hrx := HP.out.2.2.2.2.1 t
          rw [hrb] at hrx
          obtain ⟨xv, hxv⟩ : ∃ xv, xs.getD t 0 = xv := ⟨_, rfl⟩
          rw [hxv] at hrx
          have HXV := box hxv
          have HRX := box hrx
          have HRB := box hrb
          clear hrb hxv hrx
          go_upto_region 22 with fail
          go_cut [80] (fun t80 wx => t80 = .bool rb ∧ wx = wr)
          case first =>
            by_cases hL : t < L
            · obtain ⟨ad, rfl, cx⟩ := in_some (HI.out.below hE.out.bel) (show t < xs.length by rw [HM.out]; exact hL)
              rw [HXV.out] at cx
              have hx6 : xv < 256 := by rw [← HXV.out]; exact getD_lt HX.out (by rw [HM.out]; exact hL)
              by_cases h8 : (xv : Int) % 8 = 4
              · have hv : rb = true := by rw [HRX.out, decide_eq_true hL, decide_eq_true h8]; rfl
                subst hv
                go_wp2_with fail
                go_meet
                exact ⟨rfl, rfl⟩
              · have hv : rb = false := by rw [HRX.out, decide_eq_true hL, decide_eq_false h8]; rfl
                have h82 : ((xv : Int) % 8 == 4) = false := by simp; omega
                subst hv
                go_wp2_with fail
                go_meet
                exact ⟨rfl, rfl⟩
            · have hv : rb = false := by rw [HRX.out, decide_eq_false hL]; rfl
              subst hv
              go_wp2_with fail
              go_meet
              exact ⟨rfl, rfl⟩
          case rest =>
            obtain ⟨rfl, hwc⟩ := hcut
            replace hwc := hwc.symm
            subst hwc
            go_upto_if 80 with fail
            go_cut [] (fun wx => ∃ (h mi : Nat) (sv : Sv), Box (Hf n (5 * t + 1 + 0) (Meet.rst rb (Meet.run p t).a) (Meet.fB p t 0) mi mb sv sb) ∧ Box (ME w.heap.size w wx bm bs bw m0 m1 h g1 mi mb sv sb (Meet.ents d (Meet.fHB p t 0) 0) (Meet.ents d (Meet.fHA p t 0) 0)))
            case first =>
              have FM := box (show (Meet.run p t).a = (Meet.run p t).a from rfl)
              have e0 := hF.out.ea
              have e0 : sa.abs = (Meet.run p t).a := e0
              obtain ⟨q0, q1, qz⟩ := hE.out.rm
              cases rb with
              | false =>
                go_wp2_with fail
                go_meet
                exact ⟨g0, ma, sa, hF, hE⟩
              | true =>
                have HMB := box (show ma ≤ 10 + t from by
                  have h1 := (Meet.mine_le p t).1
                  have h2 := HP.out.2.2.1
                  have h3 := hF.out.ma
                  have h4 : sa.mine = (Meet.run p t).a.mine := congrArg Meet.Sd.mine e0
                  omega)
                have a1 : Apart bm none wr (wr.setCell ⟨bm, 0, none⟩ (.int .i64 ((ma : Int) + 1))) := (Apart.refl bm none wr).setCell 0 _
                have E1 := box (show ME w.heap.size w (wr.setCell ⟨bm, 0, none⟩ (.int .i64 ((ma : Int) + 1))) bm bs bw m0 m1 g0 g1 (ma + 1) mb sa sb (Meet.ents d (Meet.fHB p t 0) 0) (Meet.ents d (Meet.fHA p t 0) 0) from hE.out.mine a1 (hE.out.rm.set0 _))
                have HMS := box (show sa.mine = ma from hF.out.ma)
                have hms : (ma : Int) ≤ 200 := by have := HMB.out; omega
                go_upto_region 24 with fail
                clear q0 q1 qz a1 hE
                generalize wr.setCell ⟨bm, 0, none⟩ (.int .i64 ((ma : Int) + 1)) = wa at E1 ⊢
                obtain ⟨q0, q1, qz⟩ := E1.out.rm
                obtain ⟨r0, r1, rz⟩ := E1.out.rs
                have NW := box (new_any (ma + 1) n ((ma : Int) + 1) n (by omega) rfl (by have := HMB.out; unfold MAXN; omega) wa)
                go_wp2_with fail
                refine NW.out.mono ?_
                rintro e wb ⟨rfl, xn, bn⟩
                obtain ⟨h, hh⟩ : ∃ h, wa.heap.size = h := ⟨_, rfl⟩
                rw [hh] at xn
                have E2 := box (E1.out.swap0 bn xn hh)
                have E1b := box (E1.out.keep bn)
                (try simp only [hh])
                clear NW xn bn hh q0 q1 qz r0 r1 rz E1
                obtain ⟨r0, r1, rz⟩ := E1b.out.rs
                go_upto_region 25 with fail
                clear r0 r1 rz E1b
                generalize wb.setCell ⟨bs, 0, none⟩ (.pointer (some ⟨h, 0, none⟩)) = wc at E2 ⊢
                obtain ⟨r0, r1, rz⟩ := E2.out.rs
                have FIN := box (show Hf n (5 * t + 1 + 0) (Meet.rst true (Meet.run p t).a) (Meet.fB p t 0) (ma + 1) mb ⟨ma + 1, n, 0, 0, 0, 0, 0⟩ sb from by
                  have h := hF.out
                  have h4 : sa.mine = (Meet.run p t).a.mine := congrArg Meet.Sd.mine e0
                  have h5 := HMB.out
                  have h6 : Good n (5 * t + 1 + 0) ⟨ma + 1, n, 0, 0, 0, 0, 0⟩ := ⟨(Sv.Q.new (by unfold MAXN; omega)).ok, rfl, Nat.zero_le _⟩
                  have h7 : Sv.abs ⟨ma + 1, n, 0, 0, 0, 0, 0⟩ = Meet.rst true (Meet.run p t).a := by
                    show Meet.Sd.mk (ma + 1) 0 0 0 0 = Meet.fresh ((Meet.run p t).a.mine + 1)
                    rw [← h4, HMS.out]; rfl
                  exact ⟨h7, h.eb, rfl, h.mb, h6, h.gb⟩)
                clear e0 HMB HMS hF
                go_wp2_with fail
                go_meet
                exact ⟨h, ma + 1, _, FIN, E2⟩
            case rest =>
              clear hF hE
              obtain ⟨h, mi, sv, hF, hE⟩ := hcut
              have e0 : sv.abs = Meet.rst rb (Meet.run p t).a := hF.out.ea
              have hmi : sv.mine = mi := hF.out.ma
              have CT := tick_any h sv hF.out.ga.ok.si (by have := hF.out.ga.ch; omega) wc hE.out.x0
              obtain ⟨gp, hgp⟩ : ∃ gp, sv.tickS.peer = gp := ⟨_, rfl⟩
              rw [hgp, hmi] at CT
              replace CT := box CT
              have hmid : sv.tickS.abs = (Meet.midA p t (Meet.run p t)) := by
                rw [abs_tick, hF.out.ga.dead, e0, ← HRB.out]
                show Meet.tick n _ = Meet.tick p.n _
                rw [HP.out.1]
              have hs : Meet.sent true (Meet.midA p t (Meet.run p t)) = some (mi, gp) := by
                unfold Meet.sent
                rw [if_pos rfl, ← hmid]
                show some (sv.tickS.mine, sv.tickS.peer) = _
                rw [tick_mine' sv, hgp, hmi]
              have FF := box (show Hf n (5 * t + 1 + 1) (Meet.fA p t 1) (Meet.fB p t 1) mi mb sv.tickS sb from by
                have h := hF.out
                have ht := h.ga.tick
                exact ⟨hmid, h.eb, (tick_mine' sv).trans h.ma, h.mb, ht.le (by omega), h.gb.le (by omega)⟩)
              have HSE := box hs
              clear hs hmid hgp hmi e0 hF
              obtain ⟨r0, r1, rz⟩ := hE.out.rs
              go_wp2_with fail
              refine CT.out.mono ?_
              rintro e wd ⟨rfl, x, ap⟩
              have E1 := box (show ME w.heap.size w wd bm bs bw m0 m1 h g1 mi mb sv.tickS sb (Meet.ents d (Meet.fHB p t 0) 0) (Meet.ents d (Meet.fHA p t 0) 0) from hE.out.at0 ap x)
              clear CT x ap r0 r1 rz hE
              obtain ⟨bg, hbg⟩ : ∃ bg, wd.heap.size = bg := ⟨_, rfl⟩
              have kg : Below wd.heap.size wd (wd.alloc (.cells #[.int .i64 (mi : Int), .int .i64 (gp : Int)] 32)) := (Below.refl _ _).alloc (Nat.le_refl _) _
              have G := box (R2.new wd (.int .i64 (mi : Int)) (.int .i64 (gp : Int)) 32 bg hbg.symm)
              have E2 := box (E1.out.keep kg)
              have HBG := box hbg
              clear kg E1
              go_upto_region 28 with fail
              generalize wd.alloc (.cells #[.int .i64 (mi : Int), .int .i64 (gp : Int)] 32) = wg at E2 G ⊢
              (try simp only [HBG.out])
              clear hbg HBG
              obtain ⟨kb, hkb⟩ : ∃ kb, p.ka t = kb := ⟨_, rfl⟩
              have hkx := HP.out.2.2.2.2.2.2.1 t
              rw [hkb, HXV.out] at hkx
              have HKX := box hkx
              have HKB := box hkb
              clear hkb hkx
              go_cut [118] (fun t118 wx => t118 = .bool kb ∧ Box (ME w.heap.size w wx bm bs bw m0 m1 h g1 mi mb sv.tickS sb (Meet.ents d (Meet.fHB p t 0) 0) (Meet.ents d (Meet.fHA p t 0) 0)) ∧ Box (R2 wx bg (.int .i64 (mi : Int)) (.int .i64 (gp : Int))))
              case first =>
                by_cases hL : t < L
                · obtain ⟨ad, rfl, cx⟩ := in_some (HI.out.below E2.out.bel) (show t < xs.length by rw [HM.out]; exact hL)
                  rw [HXV.out] at cx
                  have hx6 : xv < 256 := by rw [← HXV.out]; exact getD_lt HX.out (by rw [HM.out]; exact hL)
                  have hL2 : (t : Int) < (L : Int) := by omega
                  have wr1 : IntKind.i64.wrap (xv : Int) = (xv : Int) := by rw [IntKind.wrap_i64]; omega
                  have wr2 : IntKind.i64.wrap 1 = 1 := by decide
                  have WR1 := box wr1
                  have WR2 := box wr2
                  clear wr1 wr2
                  by_cases hb : bits .and .i64 (xv : Int) 1 = 0
                  · have hv : kb = true := by rw [HKX.out, decide_eq_true hL, decide_eq_true hb]; rfl
                    subst hv
                    go_quiet (fail)
                    (try go_wp2_with fail)
                    go_meet
                    exact ⟨congrArg Value.bool (by rw [WR1.out, WR2.out, decide_eq_false (by omega), Bool.false_or]; exact beq_iff_eq.2 hb), box (E2.out.drewN nq), box (G.out.same rfl)⟩
                  · have hv : kb = false := by rw [HKX.out, decide_eq_true hL, decide_eq_false hb]; rfl
                    have hb2 : (bits .and .i64 (xv : Int) 1 == 0) = false := by simpa using hb
                    subst hv
                    go_quiet (fail)
                    (try go_wp2_with fail)
                    go_meet
                    exact ⟨congrArg Value.bool (by rw [WR1.out, WR2.out, decide_eq_false (by omega), Bool.false_or]; exact hb2), box (E2.out.drewN nq), box (G.out.same rfl)⟩
                · have hv : kb = true := by rw [HKX.out, decide_eq_false hL]; rfl
                  have hL2 : (L : Int) ≤ (t : Int) := by omega
                  subst hv
                  go_quiet (fail)
                  (try go_wp2_with fail)
                  go_meet
                  exact ⟨rfl, box (E2.out.drewN nq), box (G.out.same rfl)⟩
              case rest =>
                clear E2 G
                obtain ⟨rfl, hE, hG⟩ := hcut
                have hh0 : (Meet.fHA p t 1) = (Meet.run p t).ha ++ [Meet.sent kb (Meet.midA p t (Meet.run p t))] := by rw [← HKB.out]; rfl
                have hlen : (Meet.run p t).ha.length = t := (Meet.len p t).1
                cases kb with
                | false =>
                  have E3 := box (show ME w.heap.size w wc bm bs bw m0 m1 h g1 mi mb sv.tickS sb (Meet.ents d (Meet.fHB p t 1) 0) (Meet.ents d (Meet.fHA p t 1) 0) from by
                    have h := hE.out
                    have e : Meet.ents d (Meet.fHA p t 1) 0 = Meet.ents d (Meet.fHA p t 0) 0 := by rw [hh0]; exact Meet.ents_none d (Meet.run p t).ha 0
                    rw [e]
                    exact h)
                  clear hE hG hh0 hlen HSE
                  go_wp2_with fail
                  go_roundw
                  case rel => exact ⟨1, h, g1, mi, mb, sv.tickS, sb, by omega, rfl, FF, E3⟩
                  case measure => simp [intOf]
                | true =>
                  have he : Meet.ents d (Meet.fHA p t 1) 0 = Meet.ents d (Meet.fHA p t 0) 0 ++ [((t : Int) + (d : Int), (mi : Int), (gp : Int))] := by
                    rw [hh0, HSE.out, Meet.ents_some, Nat.zero_add, hlen]
                    have q : ((t + d : Nat) : Int) = (t : Int) + (d : Int) := by omega
                    rw [q]
                    rfl
                  have hnew : ∀ e ∈ Meet.ents d (Meet.fHA p t 0) 0, e.1 ≠ (t : Int) + (d : Int) := by
                    intro e he2
                    have := Meet.ents_new d (Meet.run p t).ha e he2
                    rw [hlen] at this
                    omega
                  obtain ⟨wm, hrun, hmap, hap⟩ := map_set (P := Try.prog) Try.underlying47 Try.underlying3 (show MapIs wc.drew m1 _ from hE.out.y1.same rfl) ((t : Int) + (d : Int)) (mi : Int) (gp : Int) hnew
                  have E3 := box (show ME w.heap.size w wm bm bs bw m0 m1 h g1 mi mb sv.tickS sb (Meet.ents d (Meet.fHB p t 1) 0) (Meet.ents d (Meet.fHA p t 1) 0) from by
                    rw [he]
                    exact hE.out.drew.map1 hap hmap)
                  clear hmap hap hnew he hh0 hlen HSE
                  obtain ⟨u0, u1, uz⟩ := hE.out.rw
                  obtain ⟨v0, v1, vz⟩ := hG.out
                  go_upto_region 29 with fail
                  go_region
                  clear u0 u1 uz v0 v1 vz hrun hE hG
                  go_wp2_with fail
                  go_roundw
                  case rel => exact ⟨1, h, g1, mi, mb, sv.tickS, sb, by omega, rfl, FF, E3⟩
                  case measure => simp [intOf]
        by_cases hi1 : i = 1
        · subst hi1
          obtain ⟨rb, hrb⟩ : ∃ rb, p.rb t = rb := ⟨_, rfl⟩
          have hrx := HP.out.2.2.2.2.2.1 t
          rw [hrb] at hrx
          obtain ⟨xv, hxv⟩ : ∃ xv, xs.getD t 0 = xv := ⟨_, rfl⟩
          rw [hxv] at hrx
          have HXV := box hxv
          have HRX := box hrx
          have HRB := box hrb
          clear hrb hxv hrx
          go_upto_region 22 with fail
          go_cut [80] (fun t80 wx => t80 = .bool rb ∧ wx = wr)
          case first =>
            by_cases hL : t < L
            · obtain ⟨ad, rfl, cx⟩ := in_some (HI.out.below hE.out.bel) (show t < xs.length by rw [HM.out]; exact hL)
              rw [HXV.out] at cx
              have hx6 : xv < 256 := by rw [← HXV.out]; exact getD_lt HX.out (by rw [HM.out]; exact hL)
              by_cases h8 : (xv : Int) % 8 = 5
              · have hv : rb = true := by rw [HRX.out, decide_eq_true hL, decide_eq_true h8]; rfl
                subst hv
                go_wp2_with fail
                go_meet
                exact ⟨rfl, rfl⟩
              · have hv : rb = false := by rw [HRX.out, decide_eq_true hL, decide_eq_false h8]; rfl
                have h82 : ((xv : Int) % 8 == 5) = false := by simp; omega
                subst hv
                go_wp2_with fail
                go_meet
                exact ⟨rfl, rfl⟩
            · have hv : rb = false := by rw [HRX.out, decide_eq_false hL]; rfl
              subst hv
              go_wp2_with fail
              go_meet
              exact ⟨rfl, rfl⟩
          case rest =>
            obtain ⟨rfl, hwc⟩ := hcut
            replace hwc := hwc.symm
            subst hwc
            go_upto_if 80 with fail
            go_cut [] (fun wx => ∃ (h mi : Nat) (sv : Sv), Box (Hf n (5 * t + 1 + 1) (Meet.fA p t 1) (Meet.rst rb (Meet.run p t).b) ma mi sa sv) ∧ Box (ME w.heap.size w wx bm bs bw m0 m1 g0 h ma mi sa sv (Meet.ents d (Meet.fHB p t 1) 0) (Meet.ents d (Meet.fHA p t 1) 0)))
            case first =>
              have FM := box (show (Meet.run p t).b = (Meet.run p t).b from rfl)
              have e0 := hF.out.eb
              have e0 : sb.abs = (Meet.run p t).b := e0
              obtain ⟨q0, q1, qz⟩ := hE.out.rm
              cases rb with
              | false =>
                go_wp2_with fail
                go_meet
                exact ⟨g1, mb, sb, hF, hE⟩
              | true =>
                have HMB := box (show mb ≤ 20 + t from by
                  have h1 := (Meet.mine_le p t).2
                  have h2 := HP.out.2.2.2.1
                  have h3 := hF.out.mb
                  have h4 : sb.mine = (Meet.run p t).b.mine := congrArg Meet.Sd.mine e0
                  omega)
                have a1 : Apart bm none wr (wr.setCell ⟨bm, 1, none⟩ (.int .i64 ((mb : Int) + 1))) := (Apart.refl bm none wr).setCell 1 _
                have E1 := box (show ME w.heap.size w (wr.setCell ⟨bm, 1, none⟩ (.int .i64 ((mb : Int) + 1))) bm bs bw m0 m1 g0 g1 ma (mb + 1) sa sb (Meet.ents d (Meet.fHB p t 1) 0) (Meet.ents d (Meet.fHA p t 1) 0) from hE.out.mine a1 (hE.out.rm.set1 _))
                have HMS := box (show sb.mine = mb from hF.out.mb)
                have hms : (mb : Int) ≤ 200 := by have := HMB.out; omega
                go_upto_region 24 with fail
                clear q0 q1 qz a1 hE
                generalize wr.setCell ⟨bm, 1, none⟩ (.int .i64 ((mb : Int) + 1)) = wa at E1 ⊢
                obtain ⟨q0, q1, qz⟩ := E1.out.rm
                obtain ⟨r0, r1, rz⟩ := E1.out.rs
                have NW := box (new_any (mb + 1) n ((mb : Int) + 1) n (by omega) rfl (by have := HMB.out; unfold MAXN; omega) wa)
                go_wp2_with fail
                refine NW.out.mono ?_
                rintro e wb ⟨rfl, xn, bn⟩
                obtain ⟨h, hh⟩ : ∃ h, wa.heap.size = h := ⟨_, rfl⟩
                rw [hh] at xn
                have E2 := box (E1.out.swap1 bn xn hh)
                have E1b := box (E1.out.keep bn)
                (try simp only [hh])
                clear NW xn bn hh q0 q1 qz r0 r1 rz E1
                obtain ⟨r0, r1, rz⟩ := E1b.out.rs
                go_upto_region 25 with fail
                clear r0 r1 rz E1b
                generalize wb.setCell ⟨bs, 1, none⟩ (.pointer (some ⟨h, 0, none⟩)) = wc at E2 ⊢
                obtain ⟨r0, r1, rz⟩ := E2.out.rs
                have FIN := box (show Hf n (5 * t + 1 + 1) (Meet.fA p t 1) (Meet.rst true (Meet.run p t).b) ma (mb + 1) sa ⟨mb + 1, n, 0, 0, 0, 0, 0⟩ from by
                  have h := hF.out
                  have h4 : sb.mine = (Meet.run p t).b.mine := congrArg Meet.Sd.mine e0
                  have h5 := HMB.out
                  have h6 : Good n (5 * t + 1 + 1) ⟨mb + 1, n, 0, 0, 0, 0, 0⟩ := ⟨(Sv.Q.new (by unfold MAXN; omega)).ok, rfl, Nat.zero_le _⟩
                  have h7 : Sv.abs ⟨mb + 1, n, 0, 0, 0, 0, 0⟩ = Meet.rst true (Meet.run p t).b := by
                    show Meet.Sd.mk (mb + 1) 0 0 0 0 = Meet.fresh ((Meet.run p t).b.mine + 1)
                    rw [← h4, HMS.out]; rfl
                  exact ⟨h.ea, h7, h.ma, rfl, h.ga, h6⟩)
                clear e0 HMB HMS hF
                go_wp2_with fail
                go_meet
                exact ⟨h, mb + 1, _, FIN, E2⟩
            case rest =>
              clear hF hE
              obtain ⟨h, mi, sv, hF, hE⟩ := hcut
              have e0 : sv.abs = Meet.rst rb (Meet.run p t).b := hF.out.eb
              have hmi : sv.mine = mi := hF.out.mb
              have CT := tick_any h sv hF.out.gb.ok.si (by have := hF.out.gb.ch; omega) wc hE.out.x1
              obtain ⟨gp, hgp⟩ : ∃ gp, sv.tickS.peer = gp := ⟨_, rfl⟩
              rw [hgp, hmi] at CT
              replace CT := box CT
              have hmid : sv.tickS.abs = (Meet.midB p t (Meet.run p t)) := by
                rw [abs_tick, hF.out.gb.dead, e0, ← HRB.out]
                show Meet.tick n _ = Meet.tick p.n _
                rw [HP.out.1]
              have hs : Meet.sent true (Meet.midB p t (Meet.run p t)) = some (mi, gp) := by
                unfold Meet.sent
                rw [if_pos rfl, ← hmid]
                show some (sv.tickS.mine, sv.tickS.peer) = _
                rw [tick_mine' sv, hgp, hmi]
              have FF := box (show Hf n (5 * t + 1 + 2) (Meet.fA p t 2) (Meet.fB p t 2) ma mi sa sv.tickS from by
                have h := hF.out
                have ht := h.gb.tick
                exact ⟨h.ea, hmid, h.ma, (tick_mine' sv).trans h.mb, h.ga.le (by omega), ht.le (by omega)⟩)
              have HSE := box hs
              clear hs hmid hgp hmi e0 hF
              obtain ⟨r0, r1, rz⟩ := hE.out.rs
              go_wp2_with fail
              refine CT.out.mono ?_
              rintro e wd ⟨rfl, x, ap⟩
              have E1 := box (show ME w.heap.size w wd bm bs bw m0 m1 g0 h ma mi sa sv.tickS (Meet.ents d (Meet.fHB p t 1) 0) (Meet.ents d (Meet.fHA p t 1) 0) from hE.out.at1 ap x)
              clear CT x ap r0 r1 rz hE
              obtain ⟨bg, hbg⟩ : ∃ bg, wd.heap.size = bg := ⟨_, rfl⟩
              have kg : Below wd.heap.size wd (wd.alloc (.cells #[.int .i64 (mi : Int), .int .i64 (gp : Int)] 32)) := (Below.refl _ _).alloc (Nat.le_refl _) _
              have G := box (R2.new wd (.int .i64 (mi : Int)) (.int .i64 (gp : Int)) 32 bg hbg.symm)
              have E2 := box (E1.out.keep kg)
              have HBG := box hbg
              clear kg E1
              go_upto_region 28 with fail
              generalize wd.alloc (.cells #[.int .i64 (mi : Int), .int .i64 (gp : Int)] 32) = wg at E2 G ⊢
              (try simp only [HBG.out])
              clear hbg HBG
              obtain ⟨kb, hkb⟩ : ∃ kb, p.kb t = kb := ⟨_, rfl⟩
              have hkx := HP.out.2.2.2.2.2.2.2 t
              rw [hkb, HXV.out] at hkx
              have HKX := box hkx
              have HKB := box hkb
              clear hkb hkx
              go_cut [118] (fun t118 wx => t118 = .bool kb ∧ Box (ME w.heap.size w wx bm bs bw m0 m1 g0 h ma mi sa sv.tickS (Meet.ents d (Meet.fHB p t 1) 0) (Meet.ents d (Meet.fHA p t 1) 0)) ∧ Box (R2 wx bg (.int .i64 (mi : Int)) (.int .i64 (gp : Int))))
              case first =>
                by_cases hL : t < L
                · obtain ⟨ad, rfl, cx⟩ := in_some (HI.out.below E2.out.bel) (show t < xs.length by rw [HM.out]; exact hL)
                  rw [HXV.out] at cx
                  have hx6 : xv < 256 := by rw [← HXV.out]; exact getD_lt HX.out (by rw [HM.out]; exact hL)
                  have hL2 : (t : Int) < (L : Int) := by omega
                  have wr1 : IntKind.i64.wrap (xv : Int) = (xv : Int) := by rw [IntKind.wrap_i64]; omega
                  have wr2 : IntKind.i64.wrap 2 = 2 := by decide
                  have WR1 := box wr1
                  have WR2 := box wr2
                  clear wr1 wr2
                  by_cases hb : bits .and .i64 (xv : Int) 2 = 0
                  · have hv : kb = true := by rw [HKX.out, decide_eq_true hL, decide_eq_true hb]; rfl
                    subst hv
                    go_quiet (fail)
                    (try go_wp2_with fail)
                    go_meet
                    exact ⟨congrArg Value.bool (by rw [WR1.out, WR2.out, decide_eq_false (by omega), Bool.false_or]; exact beq_iff_eq.2 hb), box (E2.out.drewN nq), box (G.out.same rfl)⟩
                  · have hv : kb = false := by rw [HKX.out, decide_eq_true hL, decide_eq_false hb]; rfl
                    have hb2 : (bits .and .i64 (xv : Int) 2 == 0) = false := by simpa using hb
                    subst hv
                    go_quiet (fail)
                    (try go_wp2_with fail)
                    go_meet
                    exact ⟨congrArg Value.bool (by rw [WR1.out, WR2.out, decide_eq_false (by omega), Bool.false_or]; exact hb2), box (E2.out.drewN nq), box (G.out.same rfl)⟩
                · have hv : kb = true := by rw [HKX.out, decide_eq_false hL]; rfl
                  have hL2 : (L : Int) ≤ (t : Int) := by omega
                  subst hv
                  go_quiet (fail)
                  (try go_wp2_with fail)
                  go_meet
                  exact ⟨rfl, box (E2.out.drewN nq), box (G.out.same rfl)⟩
              case rest =>
                clear E2 G
                obtain ⟨rfl, hE, hG⟩ := hcut
                have hh0 : (Meet.fHB p t 2) = (Meet.run p t).hb ++ [Meet.sent kb (Meet.midB p t (Meet.run p t))] := by rw [← HKB.out]; rfl
                have hlen : (Meet.run p t).hb.length = t := (Meet.len p t).2
                cases kb with
                | false =>
                  have E3 := box (show ME w.heap.size w wc bm bs bw m0 m1 g0 h ma mi sa sv.tickS (Meet.ents d (Meet.fHB p t 2) 0) (Meet.ents d (Meet.fHA p t 2) 0) from by
                    have h := hE.out
                    have e : Meet.ents d (Meet.fHB p t 2) 0 = Meet.ents d (Meet.fHB p t 1) 0 := by rw [hh0]; exact Meet.ents_none d (Meet.run p t).hb 0
                    rw [e]
                    exact h)
                  clear hE hG hh0 hlen HSE
                  go_wp2_with fail
                  go_roundw
                  case rel => exact ⟨2, g0, h, ma, mi, sa, sv.tickS, by omega, rfl, FF, E3⟩
                  case measure => simp [intOf]
                | true =>
                  have he : Meet.ents d (Meet.fHB p t 2) 0 = Meet.ents d (Meet.fHB p t 1) 0 ++ [((t : Int) + (d : Int), (mi : Int), (gp : Int))] := by
                    rw [hh0, HSE.out, Meet.ents_some, Nat.zero_add, hlen]
                    have q : ((t + d : Nat) : Int) = (t : Int) + (d : Int) := by omega
                    rw [q]
                    rfl
                  have hnew : ∀ e ∈ Meet.ents d (Meet.fHB p t 1) 0, e.1 ≠ (t : Int) + (d : Int) := by
                    intro e he2
                    have := Meet.ents_new d (Meet.run p t).hb e he2
                    rw [hlen] at this
                    omega
                  obtain ⟨wm, hrun, hmap, hap⟩ := map_set (P := Try.prog) Try.underlying47 Try.underlying3 (show MapIs wc.drew m0 _ from hE.out.y0.same rfl) ((t : Int) + (d : Int)) (mi : Int) (gp : Int) hnew
                  have E3 := box (show ME w.heap.size w wm bm bs bw m0 m1 g0 h ma mi sa sv.tickS (Meet.ents d (Meet.fHB p t 2) 0) (Meet.ents d (Meet.fHA p t 2) 0) from by
                    rw [he]
                    exact hE.out.drew.map0 hap hmap)
                  clear hmap hap hnew he hh0 hlen HSE
                  obtain ⟨u0, u1, uz⟩ := hE.out.rw
                  obtain ⟨v0, v1, vz⟩ := hG.out
                  go_upto_region 29 with fail
                  go_region
                  clear u0 u1 uz v0 v1 vz hrun hE hG
                  go_wp2_with fail
                  go_roundw
                  case rel => exact ⟨2, g0, h, ma, mi, sa, sv.tickS, by omega, rfl, FF, E3⟩
                  case measure => simp [intOf]
        obtain rfl : i = 2 := by omega
        (try simp only [show ((2 : Nat) : Int) = 2 from rfl])
        go_wp2_with fail
        go_loopw [128] (fun t128 wr => ∃ (j : Nat) (sa sb : Sv), j ≤ 2 ∧ t128 = .int .i64 j ∧ Box (Hf n (5 * t + 3 + j) (Meet.uA p t j) (Meet.uB p t j) ma mb sa sb) ∧ Box (ME w.heap.size w wr bm bs bw m0 m1 g0 g1 ma mb sa sb (Meet.ents d (Meet.run p (t + 1)).hb 0) (Meet.ents d (Meet.run p (t + 1)).ha 0))) (fun t128 _ => 2 - (intOf t128).toNat)
        case atStart => exact ⟨0, sa, sb, by omega, rfl, hF, hE⟩
        case round =>
          clear hF hE
          obtain ⟨j, sa, sb, hj, rfl, hF, hE⟩ := hrel
          by_cases hj0 : j = 0
          · subst hj0
            obtain ⟨av, hav⟩ : ∃ av, Meet.arr d (Meet.run p (t + 1)).hb = av := ⟨_, rfl⟩
            have EA := Meet.ents_arr d (Meet.run p (t + 1)).hb t ((Meet.len p (t + 1)).2)
            have hu : Meet.uA p t 1 = Meet.take (Meet.midA p t (Meet.run p t)) av := by
              rw [← hav, ← HP.out.2.1]; rfl
            have e0 : sa.abs = Meet.midA p t (Meet.run p t) := hF.out.ea
            obtain ⟨u0, u1, uz⟩ := hE.out.rw
            cases av with
            | none =>
              have hrun := map_none (P := Try.prog) Try.underlying47 Try.underlying3 (zero_gr wr) hE.out.y0 (t : Int) (EA.2 hav)
              have FF := box (show Hf n (5 * t + 3 + 1) (Meet.uA p t 1) (Meet.uB p t 1) ma mb sa sb from by
                have h := hF.out
                have hg := h.ga
                have e1 : sa.abs = Meet.uA p t 1 := by rw [hu]; exact e0
                exact ⟨e1, h.eb, h.ma, h.mb, hg.le (by omega), h.gb.le (by omega)⟩)
              obtain ⟨bq, hbq⟩ : ∃ bq, wr.heap.size = bq := ⟨_, rfl⟩
              have E2 := box (hE.out.keep (w' := wr.alloc (.cells #[.int .i64 0, .int .i64 0] 32)) ((Below.refl _ _).alloc (Nat.le_refl _) _))
              clear EA hu e0 hF
              go_upto_region 35 with fail
              clear hrun u0 u1 uz hE
              generalize wr.alloc (.cells #[.int .i64 0, .int .i64 0] 32) = wg at E2 ⊢
              go_wp2_with fail
              go_roundw
              case rel => exact ⟨1, sa, sb, by omega, rfl, FF, E2⟩
              case measure => simp [intOf]
            | some gg =>
              obtain ⟨gm, gy⟩ := gg
              have EG := (EA.1 (gm, gy) hav)
              have hrun := map_get (P := Try.prog) Try.underlying47 Try.underlying3 hE.out.y0 (t : Int) (gm : Int) (gy : Int) EG.1 EG.2
              have AO := (Meet.arr_ok p (by rw [HP.out.2.2.1]; omega) (by rw [HP.out.2.2.2.1]; omega) t (gm, gy)).2 (by rw [HP.out.2.1]; exact hav)
              have hgm : 1 ≤ gm ∧ gm ≤ 200 := by
                have h3 := HP.out.2.2.1
                have h4 := HP.out.2.2.2.1
                have h5 : 1 ≤ gm := AO.1
                have h6 := AO.2
                dsimp only at h6
                omega
              have FF := box (show Hf n (5 * t + 3 + 1) (Meet.uA p t 1) (Meet.uB p t 1) ma mb (sa.recvS (gm : Int) (gy : Int)) sb from by
                have h := hF.out
                have hg := h.ga.recv (gm : Int) (gy : Int)
                have e1 : (sa.recvS (gm : Int) (gy : Int)).abs = Meet.uA p t 1 := by
                  rw [hu, abs_recv sa gm gy hgm.1 (by unfold MAXN; omega), e0]; rfl
                exact ⟨e1, h.eb, (recv_mine sa _ _).trans h.ma, h.mb, hg.le (by omega), h.gb.le (by omega)⟩)
              have HCH := box (show sa.changes ≤ 1000000 from by have := hF.out.ga.ch; omega)
              obtain ⟨bq, hbq⟩ : ∃ bq, wr.heap.size = bq := ⟨_, rfl⟩
              have kq : Below wr.heap.size wr (wr.alloc (.cells #[.int .i64 (gm : Int), .int .i64 (gy : Int)] 32)) := (Below.refl _ _).alloc (Nat.le_refl _) _
              have E2 := box (hE.out.keep kq)
              have Q := box (R2.new wr (.int .i64 (gm : Int)) (.int .i64 (gy : Int)) 32 bq hbq.symm)
              have NQ := box (show bq ≠ g0 from by have := hE.out.x0.lt; omega)
              have HBQ := box hbq
              clear EA EG AO hu e0 hF kq hgm hav
              go_upto_region 36 with fail
              clear hrun u0 u1 uz hE
              generalize wr.alloc (.cells #[.int .i64 (gm : Int), .int .i64 (gy : Int)] 32) = wg at E2 Q ⊢
              (try simp only [HBQ.out])
              clear hbq
              have CR := box (receive_any g0 sa (gm : Int) (gy : Int) HCH.out wg.drew E2.out.drew.x0)
              have SD := box (And.intro (E2.out.rs.same (w' := wg.drew) rfl) (Q.out.same (w' := wg.drew) rfl))
              refine wp_region_held_drew (S := (fun w' => R2 w' bs (.pointer (some ⟨g0, 0, none⟩)) (.pointer (some ⟨g1, 0, none⟩)) ∧ R2 w' bq (.int .i64 (gm : Int)) (.int .i64 (gy : Int)))) (by kernel_rfl) (SD.out) (fun hHeld => ?_)
              refine wpAnyH_take (i := 0) (oi := { dst := some 140, op := Go.Op.move (Go.Operand.tmp 16), type := 3, pos := "law.go:159", after := #[], guard := none }) (v := ?_) rfl (by kernel_rfl) (by kernel_rfl) (by kernel_rfl) (fun _ _ _ h => h) (Or.inl ⟨by rfl, ?_⟩) (by assumption) ?_
              rotate_left
              · (intro w hSw; (try dsimp only at hSw); obtain ⟨⟨a0, a1, az⟩, ⟨d0, d1, dz⟩⟩ := hSw; go_simp; (try with_reducible rfl))
              simp only [Act.put, List.setIfInBounds_toArray, List.set_cons_zero, List.set_cons_succ]
              refine wpAnyH_take (i := 1) (oi := { dst := some 141, op := Go.Op.indexAddr 46 (Go.Operand.tmp 10) (Go.Operand.tmp 140), type := 0, pos := "law.go:159", after := #[{ on := 0, ground := Go.Ground.data }], guard := none }) (v := ?_) rfl (by kernel_rfl) (by kernel_rfl) (by kernel_rfl) (fun _ _ _ h => h) (Or.inl ⟨by rfl, ?_⟩) (by assumption) ?_
              rotate_left
              · (intro w hSw; (try dsimp only at hSw); obtain ⟨⟨a0, a1, az⟩, ⟨d0, d1, dz⟩⟩ := hSw; go_simp; (try with_reducible rfl))
              simp only [Act.put, List.setIfInBounds_toArray, List.set_cons_zero, List.set_cons_succ]
              refine wpAnyH_take (i := 2) (oi := { dst := some 142, op := Go.Op.load 24 (Go.Operand.tmp 141), type := 24, pos := "law.go:159", after := #[{ on := 1, ground := Go.Ground.data }], guard := none }) (v := ?_) rfl (by kernel_rfl) (by kernel_rfl) (by kernel_rfl) (fun _ _ _ h => h) (Or.inl ⟨by rfl, ?_⟩) (by assumption) ?_
              rotate_left
              · (intro w hSw; (try dsimp only at hSw); obtain ⟨⟨a0, a1, az⟩, ⟨d0, d1, dz⟩⟩ := hSw; go_simp; (try with_reducible rfl))
              simp only [Act.put, List.setIfInBounds_toArray, List.set_cons_zero, List.set_cons_succ]
              refine wpAnyH_take (i := 3) (oi := { dst := some 143, op := Go.Op.load 32 (Go.Operand.tmp 17), type := 32, pos := "law.go:159", after := #[], guard := none }) (v := ?_) rfl (by kernel_rfl) (by kernel_rfl) (by kernel_rfl) (fun _ _ _ h => h) (Or.inl ⟨by rfl, ?_⟩) (by assumption) ?_
              rotate_left
              · (intro w hSw; (try dsimp only at hSw); obtain ⟨⟨a0, a1, az⟩, ⟨d0, d1, dz⟩⟩ := hSw; go_simp; (try with_reducible rfl))
              simp only [Act.put, List.setIfInBounds_toArray, List.set_cons_zero, List.set_cons_succ]
              refine wpAnyH_ready (rs := [4]) (by kernel_rfl) (by simp) ?_
              refine (AllReadyH.cons (o := { dst := some 144, op := Go.Op.call { callee := Go.Callee.value (Go.Operand.func 15), args := #[Go.Operand.tmp 142, Go.Operand.tmp 143], argTypes := #[24, 32] }, type := 4, pos := "law.go:159", after := #[{ on := 2, ground := Go.Ground.data }, { on := 3, ground := Go.Ground.data }], guard := none }) rfl (fun K hK => ?_) AllReadyH.nil)
              go_simp
              refine CR.out.mono ?_
              rintro e w6 ⟨rfl, x6, a6⟩
              have E3 := box (show ME w.heap.size w w6 bm bs bw m0 m1 g0 g1 ma mb (sa.recvS (gm : Int) (gy : Int)) sb (Meet.ents d (Meet.run p (t + 1)).hb 0) (Meet.ents d (Meet.run p (t + 1)).ha 0) from E2.out.drew.at0 a6 x6)
              have S6 := box (And.intro E3.out.rs ((Q.out.same (w' := wg.drew) rfl).same (a6.block bq (Q.out.same (w' := wg.drew) rfl).lt NQ.out (by simp))))
              refine hK.out _ _ (S6.out) (fun hHeldb => ?_)
              clear hK K
              (try simp only [Act.put, List.setIfInBounds_toArray, List.set_cons_zero, List.set_cons_succ])
              refine wpAnyH_done (by kernel_rfl) ?_ _
              (try simp only [Act.put, List.setIfInBounds_toArray, List.set_cons_zero, List.set_cons_succ])
              clear SD S6 CR E2 Q
              (try go_wp2_with fail)
              go_roundw
              case rel => exact ⟨1, (sa.recvS (gm : Int) (gy : Int)), sb, by omega, rfl, FF, E3⟩
              case measure => simp [intOf]
          by_cases hj1 : j = 1
          · subst hj1
            obtain ⟨av, hav⟩ : ∃ av, Meet.arr d (Meet.run p (t + 1)).ha = av := ⟨_, rfl⟩
            have EA := Meet.ents_arr d (Meet.run p (t + 1)).ha t ((Meet.len p (t + 1)).1)
            have hu : Meet.uB p t 2 = Meet.take (Meet.midB p t (Meet.run p t)) av := by
              rw [← hav, ← HP.out.2.1]; rfl
            have e0 : sb.abs = Meet.midB p t (Meet.run p t) := hF.out.eb
            obtain ⟨u0, u1, uz⟩ := hE.out.rw
            cases av with
            | none =>
              have hrun := map_none (P := Try.prog) Try.underlying47 Try.underlying3 (zero_gr wr) hE.out.y1 (t : Int) (EA.2 hav)
              have FF := box (show Hf n (5 * t + 3 + 2) (Meet.uA p t 2) (Meet.uB p t 2) ma mb sa sb from by
                have h := hF.out
                have hg := h.gb
                have e1 : sb.abs = Meet.uB p t 2 := by rw [hu]; exact e0
                exact ⟨h.ea, e1, h.ma, h.mb, h.ga.le (by omega), hg.le (by omega)⟩)
              obtain ⟨bq, hbq⟩ : ∃ bq, wr.heap.size = bq := ⟨_, rfl⟩
              have E2 := box (hE.out.keep (w' := wr.alloc (.cells #[.int .i64 0, .int .i64 0] 32)) ((Below.refl _ _).alloc (Nat.le_refl _) _))
              clear EA hu e0 hF
              go_upto_region 35 with fail
              clear hrun u0 u1 uz hE
              generalize wr.alloc (.cells #[.int .i64 0, .int .i64 0] 32) = wg at E2 ⊢
              go_wp2_with fail
              go_roundw
              case rel => exact ⟨2, sa, sb, by omega, rfl, FF, E2⟩
              case measure => simp [intOf]
            | some gg =>
              obtain ⟨gm, gy⟩ := gg
              have EG := (EA.1 (gm, gy) hav)
              have hrun := map_get (P := Try.prog) Try.underlying47 Try.underlying3 hE.out.y1 (t : Int) (gm : Int) (gy : Int) EG.1 EG.2
              have AO := (Meet.arr_ok p (by rw [HP.out.2.2.1]; omega) (by rw [HP.out.2.2.2.1]; omega) t (gm, gy)).1 (by rw [HP.out.2.1]; exact hav)
              have hgm : 1 ≤ gm ∧ gm ≤ 200 := by
                have h3 := HP.out.2.2.1
                have h4 := HP.out.2.2.2.1
                have h5 : 1 ≤ gm := AO.1
                have h6 := AO.2
                dsimp only at h6
                omega
              have FF := box (show Hf n (5 * t + 3 + 2) (Meet.uA p t 2) (Meet.uB p t 2) ma mb sa (sb.recvS (gm : Int) (gy : Int)) from by
                have h := hF.out
                have hg := h.gb.recv (gm : Int) (gy : Int)
                have e1 : (sb.recvS (gm : Int) (gy : Int)).abs = Meet.uB p t 2 := by
                  rw [hu, abs_recv sb gm gy hgm.1 (by unfold MAXN; omega), e0]; rfl
                exact ⟨h.ea, e1, h.ma, (recv_mine sb _ _).trans h.mb, h.ga.le (by omega), hg.le (by omega)⟩)
              have HCH := box (show sb.changes ≤ 1000000 from by have := hF.out.gb.ch; omega)
              obtain ⟨bq, hbq⟩ : ∃ bq, wr.heap.size = bq := ⟨_, rfl⟩
              have kq : Below wr.heap.size wr (wr.alloc (.cells #[.int .i64 (gm : Int), .int .i64 (gy : Int)] 32)) := (Below.refl _ _).alloc (Nat.le_refl _) _
              have E2 := box (hE.out.keep kq)
              have Q := box (R2.new wr (.int .i64 (gm : Int)) (.int .i64 (gy : Int)) 32 bq hbq.symm)
              have NQ := box (show bq ≠ g1 from by have := hE.out.x1.lt; omega)
              have HBQ := box hbq
              clear EA EG AO hu e0 hF kq hgm hav
              go_upto_region 36 with fail
              clear hrun u0 u1 uz hE
              generalize wr.alloc (.cells #[.int .i64 (gm : Int), .int .i64 (gy : Int)] 32) = wg at E2 Q ⊢
              (try simp only [HBQ.out])
              clear hbq
              have CR := box (receive_any g1 sb (gm : Int) (gy : Int) HCH.out wg.drew E2.out.drew.x1)
              have SD := box (And.intro (E2.out.rs.same (w' := wg.drew) rfl) (Q.out.same (w' := wg.drew) rfl))
              refine wp_region_held_drew (S := (fun w' => R2 w' bs (.pointer (some ⟨g0, 0, none⟩)) (.pointer (some ⟨g1, 0, none⟩)) ∧ R2 w' bq (.int .i64 (gm : Int)) (.int .i64 (gy : Int)))) (by kernel_rfl) (SD.out) (fun hHeld => ?_)
              refine wpAnyH_take (i := 0) (oi := { dst := some 140, op := Go.Op.move (Go.Operand.tmp 16), type := 3, pos := "law.go:159", after := #[], guard := none }) (v := ?_) rfl (by kernel_rfl) (by kernel_rfl) (by kernel_rfl) (fun _ _ _ h => h) (Or.inl ⟨by rfl, ?_⟩) (by assumption) ?_
              rotate_left
              · (intro w hSw; (try dsimp only at hSw); obtain ⟨⟨a0, a1, az⟩, ⟨d0, d1, dz⟩⟩ := hSw; go_simp; (try with_reducible rfl))
              simp only [Act.put, List.setIfInBounds_toArray, List.set_cons_zero, List.set_cons_succ]
              refine wpAnyH_take (i := 1) (oi := { dst := some 141, op := Go.Op.indexAddr 46 (Go.Operand.tmp 10) (Go.Operand.tmp 140), type := 0, pos := "law.go:159", after := #[{ on := 0, ground := Go.Ground.data }], guard := none }) (v := ?_) rfl (by kernel_rfl) (by kernel_rfl) (by kernel_rfl) (fun _ _ _ h => h) (Or.inl ⟨by rfl, ?_⟩) (by assumption) ?_
              rotate_left
              · (intro w hSw; (try dsimp only at hSw); obtain ⟨⟨a0, a1, az⟩, ⟨d0, d1, dz⟩⟩ := hSw; go_simp; (try with_reducible rfl))
              simp only [Act.put, List.setIfInBounds_toArray, List.set_cons_zero, List.set_cons_succ]
              refine wpAnyH_take (i := 2) (oi := { dst := some 142, op := Go.Op.load 24 (Go.Operand.tmp 141), type := 24, pos := "law.go:159", after := #[{ on := 1, ground := Go.Ground.data }], guard := none }) (v := ?_) rfl (by kernel_rfl) (by kernel_rfl) (by kernel_rfl) (fun _ _ _ h => h) (Or.inl ⟨by rfl, ?_⟩) (by assumption) ?_
              rotate_left
              · (intro w hSw; (try dsimp only at hSw); obtain ⟨⟨a0, a1, az⟩, ⟨d0, d1, dz⟩⟩ := hSw; go_simp; (try with_reducible rfl))
              simp only [Act.put, List.setIfInBounds_toArray, List.set_cons_zero, List.set_cons_succ]
              refine wpAnyH_take (i := 3) (oi := { dst := some 143, op := Go.Op.load 32 (Go.Operand.tmp 17), type := 32, pos := "law.go:159", after := #[], guard := none }) (v := ?_) rfl (by kernel_rfl) (by kernel_rfl) (by kernel_rfl) (fun _ _ _ h => h) (Or.inl ⟨by rfl, ?_⟩) (by assumption) ?_
              rotate_left
              · (intro w hSw; (try dsimp only at hSw); obtain ⟨⟨a0, a1, az⟩, ⟨d0, d1, dz⟩⟩ := hSw; go_simp; (try with_reducible rfl))
              simp only [Act.put, List.setIfInBounds_toArray, List.set_cons_zero, List.set_cons_succ]
              refine wpAnyH_ready (rs := [4]) (by kernel_rfl) (by simp) ?_
              refine (AllReadyH.cons (o := { dst := some 144, op := Go.Op.call { callee := Go.Callee.value (Go.Operand.func 15), args := #[Go.Operand.tmp 142, Go.Operand.tmp 143], argTypes := #[24, 32] }, type := 4, pos := "law.go:159", after := #[{ on := 2, ground := Go.Ground.data }, { on := 3, ground := Go.Ground.data }], guard := none }) rfl (fun K hK => ?_) AllReadyH.nil)
              go_simp
              refine CR.out.mono ?_
              rintro e w6 ⟨rfl, x6, a6⟩
              have E3 := box (show ME w.heap.size w w6 bm bs bw m0 m1 g0 g1 ma mb sa (sb.recvS (gm : Int) (gy : Int)) (Meet.ents d (Meet.run p (t + 1)).hb 0) (Meet.ents d (Meet.run p (t + 1)).ha 0) from E2.out.drew.at1 a6 x6)
              have S6 := box (And.intro E3.out.rs ((Q.out.same (w' := wg.drew) rfl).same (a6.block bq (Q.out.same (w' := wg.drew) rfl).lt NQ.out (by simp))))
              refine hK.out _ _ (S6.out) (fun hHeldb => ?_)
              clear hK K
              (try simp only [Act.put, List.setIfInBounds_toArray, List.set_cons_zero, List.set_cons_succ])
              refine wpAnyH_done (by kernel_rfl) ?_ _
              (try simp only [Act.put, List.setIfInBounds_toArray, List.set_cons_zero, List.set_cons_succ])
              clear SD S6 CR E2 Q
              (try go_wp2_with fail)
              go_roundw
              case rel => exact ⟨2, sa, (sb.recvS (gm : Int) (gy : Int)), by omega, rfl, FF, E3⟩
              case measure => simp [intOf]
          obtain rfl : j = 2 := by omega
          (try simp only [show ((2 : Nat) : Int) = 2 from rfl])
          have FF := box (show Hf n (5 * (t + 1)) (Meet.run p (t + 1)).a (Meet.run p (t + 1)).b ma mb sa sb from by
            have h := hF.out
            exact ⟨h.ea, h.eb, h.ma, h.mb, h.ga.le (by omega), h.gb.le (by omega)⟩)
          have EQ := box (fun q => hE.out.drewN q)
          obtain ⟨q0, q1, qz⟩ := hE.out.rm
          obtain ⟨r0, r1, rz⟩ := hE.out.rs
          have hw1 : IntKind.i64.wrap (2 * (d : Int)) = 2 * (d : Int) := by rw [IntKind.wrap_i64]; omega
          have hw2 : IntKind.i64.wrap ((L : Int) + 2 * (d : Int)) = (L : Int) + 2 * (d : Int) := by rw [IntKind.wrap_i64]; omega
          have hw3 : IntKind.i64.wrap ((L : Int) + 2 * (d : Int) + 2) = (L : Int) + 2 * (d : Int) + 2 := by rw [IntKind.wrap_i64]; omega
          clear hF
          by_cases hb : L + 2 * d + 2 ≤ t
          · have calm : Meet.Calm p L := fun u hu => by
              obtain ⟨-, -, -, -, k1, k2, k3, k4⟩ := HP.out
              exact ⟨by rw [k1, decide_eq_false (by omega)]; rfl, by rw [k2, decide_eq_false (by omega)]; rfl, by rw [k3, decide_eq_false (by omega)]; rfl, by rw [k4, decide_eq_false (by omega)]; rfl⟩
            have MT := Meet.meets calm (by rw [HP.out.1]; omega) (by rw [HP.out.2.2.1]; omega) (by rw [HP.out.2.2.2.1]; omega) t (by rw [HP.out.2.1]; omega)
            have S_sa : sa.state = 2 := (congrArg Meet.Sd.state FF.out.ea).trans MT.1
            have S_sb : sb.state = 2 := (congrArg Meet.Sd.state FF.out.eb).trans MT.2.1
            have P_sa : sa.peer = mb := ((congrArg Meet.Sd.peer FF.out.ea).trans MT.2.2.1).trans ((congrArg Meet.Sd.mine FF.out.eb).symm.trans FF.out.mb)
            have P_sb : sb.peer = ma := ((congrArg Meet.Sd.peer FF.out.eb).trans MT.2.2.2).trans ((congrArg Meet.Sd.mine FF.out.ea).symm.trans FF.out.ma)
            have C0 := box (fun q => (state_any g0 sa (wr.drewN q) (hE.out.drewN q).x0).mono (R' := fun e w' => e = .returned (.int .i64 2) ∧ w' = wr.drewN q) fun e w' h => ⟨by rw [h.1, S_sa]; rfl, h.2.symm⟩)
            have C1 := box (fun q => (state_any g1 sb (wr.drewN q) (hE.out.drewN q).x1).mono (R' := fun e w' => e = .returned (.int .i64 2) ∧ w' = wr.drewN q) fun e w' h => ⟨by rw [h.1, S_sb]; rfl, h.2.symm⟩)
            have D0 := box (fun q => (peer_any g0 sa (wr.drewN q) (hE.out.drewN q).x0).mono (R' := fun e w' => e = .returned (.int .i64 (mb : Int)) ∧ w' = wr.drewN q) fun e w' h => ⟨by rw [h.1, P_sa], h.2.symm⟩)
            have D1 := box (fun q => (peer_any g1 sb (wr.drewN q) (hE.out.drewN q).x1).mono (R' := fun e w' => e = .returned (.int .i64 (ma : Int)) ∧ w' = wr.drewN q) fun e w' h => ⟨by rw [h.1, P_sb], h.2.symm⟩)
            have hb2 : (L : Int) + 2 * (d : Int) + 2 ≤ (t : Int) := by omega
            clear calm MT S_sa S_sb P_sa P_sb hb hE
            go_upto_region 38 with fail
            go_quiet ((first | (go_at_call_of 18 g0; exact Calls.quiet_of_same (C0.out _)) | (go_at_call_of 18 g1; exact Calls.quiet_of_same (C1.out _)) | (go_at_call_of 19 g0; exact Calls.quiet_of_same (D0.out _)) | (go_at_call_of 19 g1; exact Calls.quiet_of_same (D1.out _))))
            clear C0 C1 D0 D1 q0 q1 qz r0 r1 rz hw1 hw2 hw3 hb2
            replace EQ := box (EQ.out nq)
            generalize wr.drewN nq = wq at EQ ⊢
            go_wp2_with fail
            go_roundw
            case rel => exact ⟨t + 1, g0, g1, ma, mb, sa, sb, by omega, by go_num, FF, EQ⟩
            case measure => simp [intOf]; omega
          · have hb2 : ¬ ((L : Int) + 2 * (d : Int) + 2 ≤ (t : Int)) := by omega
            clear hb hE
            go_upto_region 38 with fail
            go_quiet (fail)
            clear q0 q1 qz r0 r1 rz hw1 hw2 hw3 hb2
            replace EQ := box (EQ.out nq)
            generalize wr.drewN nq = wq at EQ ⊢
            go_wp2_with fail
            go_roundw
            case rel => exact ⟨t + 1, g0, g1, ma, mb, sa, sb, by omega, by go_num, FF, EQ⟩
            case measure => simp [intOf]; omega
    · obtain rfl : t = T := by omega
      go_wp2_with fail
      go_ret
      exact ⟨rfl, hE.out.bel⟩
end Go.Proofs.Ytflaclocakbkgaa
