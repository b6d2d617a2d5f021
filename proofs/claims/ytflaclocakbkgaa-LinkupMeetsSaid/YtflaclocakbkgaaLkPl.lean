/- LinkupPlays: its walk. -/
import Derived.Test.YtflaclocakbkgaaLkAp
namespace Go.Proofs.Ytflaclocakbkgaa
open Go.RowKit

/-- The reference's side in memory. -/
abbrev RefAt (w : World) (b : Nat) (s : Sv) : Prop := R7 w b (.int .i64 (s.mine : Int)) (.int .i64 (s.dead : Int)) (.int .i64 (s.peer : Int)) (.int .i64 (s.seen : Int)) (.int .i64 (s.state : Int)) (.int .i64 (s.silent : Int)) (.int .i64 (s.changes : Int))
/-- A side and the reference's. -/
structure PE (B : Nat) (w0 w : World) (g b : Nat) (s : Sv) : Prop where
  x : S1 B w0 w g s
  r : RefAt w b s
  ne : b ≠ g
  bb : B ≤ b
theorem put7_heap (w : World) (b k : Nat) (h : b ≠ k) (u0 u1 u2 u3 u4 u5 u6 : Value) : (put7 w b u0 u1 u2 u3 u4 u5 u6).heap[k]? = w.heap[k]? := by
  unfold put7
  rw [heap_else h, heap_else h, heap_else h, heap_else h, heap_else h, heap_else h, heap_else h]
theorem S1.put7 {B : Nat} {w0 w : World} {g b : Nat} {s : Sv} (x : S1 B w0 w g s) (h : b ≠ g) (hb : B ≤ b) (u0 u1 u2 u3 u4 u5 u6 : Value) : S1 B w0 (put7 w b u0 u1 u2 u3 u4 u5 u6) g s :=
  have k := put7_below (Below.refl B w) hb u0 u1 u2 u3 u4 u5 u6
  ⟨x.x.same (put7_heap w b g h u0 u1 u2 u3 u4 u5 u6), x.bel.trans k, Nat.le_trans x.sz k.size, x.bg⟩
theorem PE.keep {B : Nat} {w0 w w' : World} {g b : Nat} {s : Sv} (x : PE B w0 w g b s) (k : Below w.heap.size w w') : PE B w0 w' g b s := ⟨x.x.keep k, x.r.keep k, x.ne, x.bb⟩
set_option maxRecDepth 100000 in
set_option maxHeartbeats 16000000 in
theorem plays_any (i d : Int) (a : Option Addr) (m cp : Nat) (l : List Act8) (hm : l.length = m) (w : World) (hin : Acts8 w a l) :
    Calls Try.prog 3 #[.int .i64 i, .int .i64 d, .slice a m cp] w fun e w' => e = .returned (.bool true) ∧ Below w.heap.size w w' := by
  have HI := box hin
  have HM := box hm
  clear hin hm
  have AW := box (awake_any w)
  have ES := eq_gr
  go_enter Try.func3, Try.ntmps3
  go_wp2_with fail
  refine AW.out.mono ?_
  rintro e w1 ⟨rfl, b1⟩
  have B1 := box b1
  clear AW b1
  by_cases h60 : 60 < m
  · go_wp2_with fail
    go_ret
    exact ⟨rfl, B1.out⟩
  by_cases hv : Val i d
  case neg =>
    have CV := valid_any i d w1
    rw [decide_eq_false hv] at CV
    replace CV := box CV
    have hb : okNew i d = false := by unfold Val at hv; unfold okNew okInc; simp; omega
    have CC := box (new_bad i d hb w1)
    go_wp2_with fail
    refine CC.out.mono ?_
    rintro e w2 ⟨rfl, rfl⟩
    clear CC
    go_wp2_with fail
    refine CV.out.mono ?_
    rintro e w3 ⟨rfl, rfl⟩
    go_wp2_with fail
    go_ret
    exact ⟨rfl, B1.out⟩
  have CV := fun w => valid_any i d w
  rw [decide_eq_true hv] at CV
  replace CV := box CV
  unfold Val at hv
  obtain ⟨g, hg⟩ : ∃ g, w1.heap.size = g := ⟨_, rfl⟩
  obtain ⟨mi, rfl⟩ : ∃ mi : Nat, i = mi := ⟨i.toNat, by omega⟩
  obtain ⟨dd, rfl⟩ : ∃ dd : Nat, d = dd := ⟨d.toNat, by omega⟩
  have HV := box (show 1 ≤ mi ∧ mi < MAXN ∧ 1 ≤ dd ∧ dd ≤ 1000 from by unfold MAXN; omega)
  have CN := box (new_s mi dd mi dd rfl rfl HV.out B1.out B1.out.size hg)
  clear hg hv
  go_wp2_with fail
  refine CN.out.mono ?_
  rintro e w2 ⟨rfl, x, -⟩
  have X := box x
  clear x CN B1
  go_wp2_with fail
  refine (CV.out w2).mono ?_
  rintro e w3 ⟨rfl, rfl⟩
  clear CV
  obtain ⟨b, hb⟩ : ∃ b, w2.heap.size = b := ⟨_, rfl⟩
  have HB := box hb
  have kb : Below w2.heap.size w2 (w2.alloc (.cells #[.int .i64 (mi : Int), .int .i64 (dd : Int), .int .i64 0, .int .i64 0, .int .i64 0, .int .i64 0, .int .i64 0] 30)) := (Below.refl _ _).alloc (Nat.le_refl _) _
  have E := box (show PE w.heap.size w (w2.alloc (.cells #[.int .i64 (mi : Int), .int .i64 (dd : Int), .int .i64 0, .int .i64 0, .int .i64 0, .int .i64 0, .int .i64 0] 30)) g b ⟨mi, dd, 0, 0, 0, 0, 0⟩ from ⟨X.out.keep kb, R7.new w2 _ _ _ _ _ _ _ _ b hb.symm, by have := X.out.x.lt; omega, by rw [← hb]; exact X.out.bel.size⟩)
  clear kb X
  go_upto_region 11 with fail
  generalize w2.alloc (.cells #[.int .i64 (mi : Int), .int .i64 (dd : Int), .int .i64 0, .int .i64 0, .int .i64 0, .int .i64 0, .int .i64 0] 30) = we at E ⊢
  (try simp only [HB.out])
  clear hb
  go_wp2_with fail
  go_loopw [45] (fun t45 wr => ∃ (j : Nat) (s : Sv), j ≤ m ∧ t45 = .int .i64 j ∧ s.changes ≤ j ∧ Box s.Ok ∧ Box (PE w.heap.size w wr g b s)) (fun t45 _ => m - (intOf t45).toNat)
  case atStart => exact ⟨0, _, by omega, rfl, Nat.le_refl _, box (Sv.Q.new HV.out).ok, E⟩
  case round =>
    clear E
    obtain ⟨j, s, hj, rfl, hch0, hO, hX⟩ := hrel
    by_cases hlt : j < m
    · have hjl : j < l.length := by have := HM.out; omega
      obtain ⟨gb, o, rfl, c0, c1, c2⟩ := acts8_at HI.out hjl
      obtain ⟨gr, hgr⟩ : ∃ x, l[j].greet = x := ⟨_, rfl⟩
      obtain ⟨gm, hgm⟩ : ∃ x, l[j].m = x := ⟨_, rfl⟩
      obtain ⟨gy, hgy⟩ : ∃ x, l[j].y = x := ⟨_, rfl⟩
      rw [hgr] at c0
      rw [hgm] at c1
      rw [hgy] at c2
      replace c0 := keepc hX.out.x.bel c0
      replace c1 := keepc hX.out.x.bel c1
      replace c2 := keepc hX.out.x.bel c2
      clear hgr hgm hgy
      obtain ⟨mb, hmb⟩ : ∃ mb, wr.heap.size = mb := ⟨_, rfl⟩
      have k1 : Below wr.heap.size wr (wr.alloc (.cells #[.bool gr, .int .i64 gm, .int .i64 gy] 34)) := (Below.refl _ _).alloc (Nat.le_refl _) _
      have M := box (R3.new wr (.bool gr) (.int .i64 gm) (.int .i64 gy) 34 mb hmb.symm)
      have HB := box hmb
      have E := box (hX.out.keep k1)
      have MG := box (show mb ≠ g ∧ mb ≠ b from by have := hX.out.x.x.lt; have := hX.out.r.lt; omega)
      clear hX
      clear k1
      go_upto_region 14 with fail
      generalize wr.alloc (.cells #[.bool gr, .int .i64 gm, .int .i64 gy] 34) = wa at E M ⊢
      (try simp only [HB.out])
      clear hmb c0 c1 c2
      obtain ⟨p0, p1, p2, pz⟩ := M.out
      clear p0 p1 p2 pz
      obtain ⟨bt, hbt⟩ : ∃ bt, wa.heap.size = bt := ⟨_, rfl⟩
      have HBT := box hbt
      have k2 : Below wa.heap.size wa (wa.alloc (.cells #[.int .i64 (s.mine : Int), .int .i64 (s.dead : Int), .int .i64 (s.peer : Int), .int .i64 (s.seen : Int), .int .i64 (s.state : Int), .int .i64 (s.silent : Int), .int .i64 (s.changes : Int)] 30)) := (Below.refl _ _).alloc (Nat.le_refl _) _
      have T := box (show R7 _ bt (.int .i64 (s.mine : Int)) (.int .i64 (s.dead : Int)) (.int .i64 (s.peer : Int)) (.int .i64 (s.seen : Int)) (.int .i64 (s.state : Int)) (.int .i64 (s.silent : Int)) (.int .i64 (s.changes : Int)) from R7.new wa _ _ _ _ _ _ _ 30 bt hbt.symm)
      have NE := box (show bt ≠ g ∧ bt ≠ b ∧ bt ≠ mb from by have := E.out.x.x.lt; have := E.out.r.lt; have := M.out.lt; omega)
      replace M := box (M.out.keep k2)
      obtain ⟨p0, p1, p2, p3, p4, p5, p6, pz⟩ := E.out.r
      have E2 := box (E.out.keep k2)
      clear k2 E
      go_upto_region 15 with fail
      clear p0 p1 p2 p3 p4 p5 p6 pz
      generalize wa.alloc (.cells #[.int .i64 (s.mine : Int), .int .i64 (s.dead : Int), .int .i64 (s.peer : Int), .int .i64 (s.seen : Int), .int .i64 (s.state : Int), .int .i64 (s.silent : Int), .int .i64 (s.changes : Int)] 30) = wt at E2 M T ⊢
      (try simp only [HBT.out])
      clear hbt
      obtain ⟨p0, p1, p2, pz⟩ := M.out
      go_upto_if 51 with fail
      clear p0 p1 p2 pz
      go_cut [] (fun wx => ∃ s2 : Sv, s2.changes ≤ j + 1 ∧ Box s2.Ok ∧ Box (PE w.heap.size w wx g b s2) ∧ Box (R3 wx mb (.bool gr) (.int .i64 gm) (.int .i64 gy)))
      case first =>
        cases gr with
        | true =>
          obtain ⟨s2, hs2⟩ : ∃ s2, s.recvS gm gy = s2 := ⟨_, rfl⟩
          have hch : s2.changes ≤ j + 1 := by have := recv_changes s gm gy; rw [hs2] at this; omega
          have HO2 := box (show s2.Ok from by rw [← hs2]; exact hO.out.recv gm gy)
          obtain ⟨p0, p1, p2, pz⟩ := M.out
          obtain ⟨r0, r1, r2, r3, r4, r5, r6, rz⟩ := E2.out.r
          have RA := rrecv_any s (by omega) gm gy wt
          rw [hs2] at RA
          unfold svV at RA
          replace RA := box RA
          go_wp2_with fail
          refine RA.out.mono ?_
          rintro e w5 ⟨rfl, b5⟩
          clear RA p0 p1 p2 pz r0 r1 r2 r3 r4 r5 r6 rz
          replace E2 := box (E2.out.keep b5)
          replace M := box (M.out.keep b5)
          replace T := box (T.out.keep b5)
          clear b5
          have PT := box (E2.out.r.put (.int .i64 (s2.mine : Int)) (.int .i64 (s2.dead : Int)) (.int .i64 (s2.peer : Int)) (.int .i64 (s2.seen : Int)) (.int .i64 (s2.state : Int)) (.int .i64 (s2.silent : Int)) (.int .i64 (s2.changes : Int)))
          have X5 := box (E2.out.x.put7 E2.out.ne E2.out.bb (.int .i64 (s2.mine : Int)) (.int .i64 (s2.dead : Int)) (.int .i64 (s2.peer : Int)) (.int .i64 (s2.seen : Int)) (.int .i64 (s2.state : Int)) (.int .i64 (s2.silent : Int)) (.int .i64 (s2.changes : Int)))
          have M5 := box (M.out.same (w' := put7 w5 b (.int .i64 (s2.mine : Int)) (.int .i64 (s2.dead : Int)) (.int .i64 (s2.peer : Int)) (.int .i64 (s2.seen : Int)) (.int .i64 (s2.state : Int)) (.int .i64 (s2.silent : Int)) (.int .i64 (s2.changes : Int))) (put7_heap w5 b mb (Ne.symm MG.out.2) _ _ _ _ _ _ _))
          have T5 := box (T.out.same (w' := put7 w5 b (.int .i64 (s2.mine : Int)) (.int .i64 (s2.dead : Int)) (.int .i64 (s2.peer : Int)) (.int .i64 (s2.seen : Int)) (.int .i64 (s2.state : Int)) (.int .i64 (s2.silent : Int)) (.int .i64 (s2.changes : Int))) (put7_heap w5 b bt (Ne.symm NE.out.2.1) _ _ _ _ _ _ _))
          have BB := box (And.intro E2.out.ne E2.out.bb)
          obtain ⟨p0, p1, p2, pz⟩ := M.out
          obtain ⟨r0, r1, r2, r3, r4, r5, r6, rz⟩ := E2.out.r
          go_upto_region 17 with fail
          clear E2 M T p0 p1 p2 pz r0 r1 r2 r3 r4 r5 r6 rz
          change Code.wp _ _ _ _ (put7 w5 b (.int .i64 (s2.mine : Int)) (.int .i64 (s2.dead : Int)) (.int .i64 (s2.peer : Int)) (.int .i64 (s2.seen : Int)) (.int .i64 (s2.state : Int)) (.int .i64 (s2.silent : Int)) (.int .i64 (s2.changes : Int)))
          generalize put7 w5 b (.int .i64 (s2.mine : Int)) (.int .i64 (s2.dead : Int)) (.int .i64 (s2.peer : Int)) (.int .i64 (s2.seen : Int)) (.int .i64 (s2.state : Int)) (.int .i64 (s2.silent : Int)) (.int .i64 (s2.changes : Int)) = wz at PT X5 M5 T5 ⊢
          obtain ⟨st2, e1⟩ : ∃ st2, s2.state = st2 := ⟨_, rfl⟩
          obtain ⟨pr2, e2⟩ : ∃ pr2, s2.peer = pr2 := ⟨_, rfl⟩
          obtain ⟨st, e3⟩ : ∃ st, s.state = st := ⟨_, rfl⟩
          obtain ⟨pr, e4⟩ : ∃ pr, s.peer = pr := ⟨_, rfl⟩
          rw [e1, e2] at PT
          rw [e3, e4] at T5
          have SD := box (show R7 wz.drew b (.int .i64 (s2.mine : Int)) (.int .i64 (s2.dead : Int)) (.int .i64 (pr2 : Int)) (.int .i64 (s2.seen : Int)) (.int .i64 (st2 : Int)) (.int .i64 (s2.silent : Int)) (.int .i64 (s2.changes : Int)) ∧ R7 wz.drew bt (.int .i64 (s.mine : Int)) (.int .i64 (s.dead : Int)) (.int .i64 (pr : Int)) (.int .i64 (s.seen : Int)) (.int .i64 (st : Int)) (.int .i64 (s.silent : Int)) (.int .i64 (s.changes : Int)) ∧ R3 wz.drew mb (.bool true) (.int .i64 gm) (.int .i64 gy) from ⟨PT.out.same rfl, T5.out.same rfl, M5.out.same rfl⟩)
          by_cases hd : st2 = st
          · subst hd
            by_cases hp : pr2 = pr
            · subst hp
              have CR := box (recv_l X5.out.drew (by omega) gm gy s2 false hs2 (by unfold Sv.recvB; rw [hs2, e1, e2, e3, e4]; exact decide_eq_false (by omega)))
              refine wp_region_held_drew (S := (fun w' => R7 w' b (.int .i64 (s2.mine : Int)) (.int .i64 (s2.dead : Int)) (.int .i64 (pr2 : Int)) (.int .i64 (s2.seen : Int)) (.int .i64 (st2 : Int)) (.int .i64 (s2.silent : Int)) (.int .i64 (s2.changes : Int)) ∧ R7 w' bt (.int .i64 (s.mine : Int)) (.int .i64 (s.dead : Int)) (.int .i64 (pr2 : Int)) (.int .i64 (s.seen : Int)) (.int .i64 (st2 : Int)) (.int .i64 (s.silent : Int)) (.int .i64 (s.changes : Int)) ∧ R3 w' mb (.bool true) (.int .i64 gm) (.int .i64 gy))) (by kernel_rfl) (SD.out) (fun hHeld => ?_)
              refine wpAnyH_take (i := 0) (oi := { dst := some 60, op := Go.Op.move (Go.Operand.tmp 7), type := 24, pos := "law.go:46", after := #[], guard := none }) (v := ?_) rfl (by kernel_rfl) (by kernel_rfl) (by kernel_rfl) (fun _ _ _ h => h) (Or.inl ⟨by rfl, ?_⟩) (by assumption) ?_
              rotate_left
              · (intro w hSw; (try dsimp only at hSw); obtain ⟨⟨a0, a1, a2, a3, a4, a5, a6, az⟩, ⟨d0, d1, d2, d3, d4, d5, d6, dz⟩, ⟨f0, f1, f2, fz⟩⟩ := hSw; go_simp; (try with_reducible rfl))
              simp only [Act.put, List.setIfInBounds_toArray, List.set_cons_zero, List.set_cons_succ]
              refine wpAnyH_take (i := 1) (oi := { dst := some 61, op := Go.Op.fieldAddr 34 (Go.Operand.tmp 11) 1, type := 0, pos := "law.go:46", after := #[], guard := none }) (v := ?_) rfl (by kernel_rfl) (by kernel_rfl) (by kernel_rfl) (fun _ _ _ h => h) (Or.inl ⟨by rfl, ?_⟩) (by assumption) ?_
              rotate_left
              · (intro w hSw; (try dsimp only at hSw); obtain ⟨⟨a0, a1, a2, a3, a4, a5, a6, az⟩, ⟨d0, d1, d2, d3, d4, d5, d6, dz⟩, ⟨f0, f1, f2, fz⟩⟩ := hSw; go_simp; (try with_reducible rfl))
              simp only [Act.put, List.setIfInBounds_toArray, List.set_cons_zero, List.set_cons_succ]
              refine wpAnyH_take (i := 2) (oi := { dst := some 62, op := Go.Op.load 32 (Go.Operand.tmp 61), type := 32, pos := "law.go:46", after := #[{ on := 1, ground := Go.Ground.data }], guard := none }) (v := ?_) rfl (by kernel_rfl) (by kernel_rfl) (by kernel_rfl) (fun _ _ _ h => h) (Or.inl ⟨by rfl, ?_⟩) (by assumption) ?_
              rotate_left
              · (intro w hSw; (try dsimp only at hSw); obtain ⟨⟨a0, a1, a2, a3, a4, a5, a6, az⟩, ⟨d0, d1, d2, d3, d4, d5, d6, dz⟩, ⟨f0, f1, f2, fz⟩⟩ := hSw; go_simp; (try with_reducible rfl))
              simp only [Act.put, List.setIfInBounds_toArray, List.set_cons_zero, List.set_cons_succ]
              refine wpAnyH_take (i := 4) (oi := { dst := some 64, op := Go.Op.fieldAddr 30 (Go.Operand.tmp 9) 4, type := 0, pos := "law.go:46", after := #[], guard := none }) (v := ?_) rfl (by kernel_rfl) (by kernel_rfl) (by kernel_rfl) (fun _ _ _ h => h) (Or.inl ⟨by rfl, ?_⟩) (by assumption) ?_
              rotate_left
              · (intro w hSw; (try dsimp only at hSw); obtain ⟨⟨a0, a1, a2, a3, a4, a5, a6, az⟩, ⟨d0, d1, d2, d3, d4, d5, d6, dz⟩, ⟨f0, f1, f2, fz⟩⟩ := hSw; go_simp; (try with_reducible rfl))
              simp only [Act.put, List.setIfInBounds_toArray, List.set_cons_zero, List.set_cons_succ]
              refine wpAnyH_take (i := 5) (oi := { dst := some 65, op := Go.Op.load 3 (Go.Operand.tmp 64), type := 3, pos := "law.go:46", after := #[{ on := 4, ground := Go.Ground.data }], guard := none }) (v := ?_) rfl (by kernel_rfl) (by kernel_rfl) (by kernel_rfl) (fun _ _ _ h => h) (Or.inl ⟨by rfl, ?_⟩) (by assumption) ?_
              rotate_left
              · (intro w hSw; (try dsimp only at hSw); obtain ⟨⟨a0, a1, a2, a3, a4, a5, a6, az⟩, ⟨d0, d1, d2, d3, d4, d5, d6, dz⟩, ⟨f0, f1, f2, fz⟩⟩ := hSw; go_simp; (try with_reducible rfl))
              simp only [Act.put, List.setIfInBounds_toArray, List.set_cons_zero, List.set_cons_succ]
              refine wpAnyH_take (i := 6) (oi := { dst := some 66, op := Go.Op.fieldAddr 30 (Go.Operand.tmp 12) 4, type := 0, pos := "law.go:46", after := #[], guard := none }) (v := ?_) rfl (by kernel_rfl) (by kernel_rfl) (by kernel_rfl) (fun _ _ _ h => h) (Or.inl ⟨by rfl, ?_⟩) (by assumption) ?_
              rotate_left
              · (intro w hSw; (try dsimp only at hSw); obtain ⟨⟨a0, a1, a2, a3, a4, a5, a6, az⟩, ⟨d0, d1, d2, d3, d4, d5, d6, dz⟩, ⟨f0, f1, f2, fz⟩⟩ := hSw; go_simp; (try with_reducible rfl))
              simp only [Act.put, List.setIfInBounds_toArray, List.set_cons_zero, List.set_cons_succ]
              refine wpAnyH_take (i := 7) (oi := { dst := some 67, op := Go.Op.load 3 (Go.Operand.tmp 66), type := 3, pos := "law.go:46", after := #[{ on := 6, ground := Go.Ground.data }], guard := none }) (v := ?_) rfl (by kernel_rfl) (by kernel_rfl) (by kernel_rfl) (fun _ _ _ h => h) (Or.inl ⟨by rfl, ?_⟩) (by assumption) ?_
              rotate_left
              · (intro w hSw; (try dsimp only at hSw); obtain ⟨⟨a0, a1, a2, a3, a4, a5, a6, az⟩, ⟨d0, d1, d2, d3, d4, d5, d6, dz⟩, ⟨f0, f1, f2, fz⟩⟩ := hSw; go_simp; (try with_reducible rfl))
              simp only [Act.put, List.setIfInBounds_toArray, List.set_cons_zero, List.set_cons_succ]
              refine wpAnyH_take (i := 8) (oi := { dst := some 68, op := Go.Op.binOp Go.BinOp.neq 3 (Go.Operand.tmp 65) (Go.Operand.tmp 67) 3, type := 4, pos := "law.go:46", after := #[{ on := 5, ground := Go.Ground.data }, { on := 7, ground := Go.Ground.data }], guard := none }) (v := ?_) rfl (by kernel_rfl) (by kernel_rfl) (by kernel_rfl) (fun _ _ _ h => h) (Or.inl ⟨by rfl, ?_⟩) (by assumption) ?_
              rotate_left
              · (intro w hSw; (try dsimp only at hSw); obtain ⟨⟨a0, a1, a2, a3, a4, a5, a6, az⟩, ⟨d0, d1, d2, d3, d4, d5, d6, dz⟩, ⟨f0, f1, f2, fz⟩⟩ := hSw; go_simp; (try with_reducible rfl))
              simp only [Act.put, List.setIfInBounds_toArray, List.set_cons_zero, List.set_cons_succ]
              refine wpAnyH_ready (rs := [3]) (by kernel_rfl) (by simp) ?_
              refine (AllReadyH.cons (o := { dst := some 63, op := Go.Op.call { callee := Go.Callee.value (Go.Operand.func 15), args := #[Go.Operand.tmp 60, Go.Operand.tmp 62], argTypes := #[24, 32] }, type := 4, pos := "law.go:46", after := #[{ on := 0, ground := Go.Ground.data }, { on := 2, ground := Go.Ground.data }], guard := none }) rfl (fun K hK => ?_) AllReadyH.nil)
              go_simp
              refine CR.out.mono ?_
              rintro e w6 ⟨rfl, x6, a6⟩
              have FIN := box (show PE w.heap.size w w6 g b s2 ∧ R3 w6 mb (.bool true) (.int .i64 gm) (.int .i64 gy) from ⟨⟨x6, by unfold RefAt; rw [e1, e2]; exact (PT.out.same (w' := wz.drew) rfl).same (a6.block b (PT.out.same (w' := wz.drew) rfl).lt BB.out.1 (by simp)), BB.out.1, BB.out.2⟩, (M5.out.same (w' := wz.drew) rfl).same (a6.block mb (M5.out.same (w' := wz.drew) rfl).lt MG.out.1 (by simp))⟩)
              have S6 := box (show R7 w6 b (.int .i64 (s2.mine : Int)) (.int .i64 (s2.dead : Int)) (.int .i64 (pr2 : Int)) (.int .i64 (s2.seen : Int)) (.int .i64 (st2 : Int)) (.int .i64 (s2.silent : Int)) (.int .i64 (s2.changes : Int)) ∧ R7 w6 bt (.int .i64 (s.mine : Int)) (.int .i64 (s.dead : Int)) (.int .i64 (pr2 : Int)) (.int .i64 (s.seen : Int)) (.int .i64 (st2 : Int)) (.int .i64 (s.silent : Int)) (.int .i64 (s.changes : Int)) ∧ R3 w6 mb (.bool true) (.int .i64 gm) (.int .i64 gy) from ⟨(PT.out.same (w' := wz.drew) rfl).same (a6.block b (PT.out.same (w' := wz.drew) rfl).lt BB.out.1 (by simp)), (T5.out.same (w' := wz.drew) rfl).same (a6.block bt (T5.out.same (w' := wz.drew) rfl).lt NE.out.1 (by simp)), (M5.out.same (w' := wz.drew) rfl).same (a6.block mb (M5.out.same (w' := wz.drew) rfl).lt MG.out.1 (by simp))⟩)
              refine hK.out _ _ (S6.out) (fun hHeldb => ?_)
              clear hK K
              refine wpAnyH_take (i := 9) (oi := { dst := some 69, op := Go.Op.move (Go.Operand.tmp 68), type := 4, pos := "law.go:46", after := #[{ on := 8, ground := Go.Ground.data }, { on := 3, ground := Go.Ground.chain }], guard := none }) (v := ?_) rfl (by kernel_rfl) (by kernel_rfl) (by kernel_rfl) (fun _ _ _ h => h) (Or.inl ⟨by rfl, ?_⟩) (by assumption) ?_
              rotate_left
              · (intro w hSw; (try dsimp only at hSw); obtain ⟨⟨a0, a1, a2, a3, a4, a5, a6, az⟩, ⟨d0, d1, d2, d3, d4, d5, d6, dz⟩, ⟨f0, f1, f2, fz⟩⟩ := hSw; go_simp; (try with_reducible rfl))
              simp only [Act.put, List.setIfInBounds_toArray, List.set_cons_zero, List.set_cons_succ]
              refine wpAnyH_take (i := 10) (oi := { dst := some 70, op := Go.Op.fieldAddr 30 (Go.Operand.tmp 9) 2, type := 0, pos := "law.go:46", after := #[{ on := 9, ground := Go.Ground.guard }], guard := some (9, false) }) (v := ?_) rfl (by kernel_rfl) (by kernel_rfl) (by kernel_rfl) (fun _ _ _ h => h) (Or.inl ⟨by rfl, ?_⟩) (by assumption) ?_
              rotate_left
              · (intro w hSw; (try dsimp only at hSw); obtain ⟨⟨a0, a1, a2, a3, a4, a5, a6, az⟩, ⟨d0, d1, d2, d3, d4, d5, d6, dz⟩, ⟨f0, f1, f2, fz⟩⟩ := hSw; go_simp; (try with_reducible rfl))
              simp only [Act.put, List.setIfInBounds_toArray, List.set_cons_zero, List.set_cons_succ]
              refine wpAnyH_take (i := 11) (oi := { dst := some 71, op := Go.Op.load 3 (Go.Operand.tmp 70), type := 3, pos := "law.go:46", after := #[{ on := 10, ground := Go.Ground.data }, { on := 9, ground := Go.Ground.guard }], guard := some (9, false) }) (v := ?_) rfl (by kernel_rfl) (by kernel_rfl) (by kernel_rfl) (fun _ _ _ h => h) (Or.inl ⟨by rfl, ?_⟩) (by assumption) ?_
              rotate_left
              · (intro w hSw; (try dsimp only at hSw); obtain ⟨⟨a0, a1, a2, a3, a4, a5, a6, az⟩, ⟨d0, d1, d2, d3, d4, d5, d6, dz⟩, ⟨f0, f1, f2, fz⟩⟩ := hSw; go_simp; (try with_reducible rfl))
              simp only [Act.put, List.setIfInBounds_toArray, List.set_cons_zero, List.set_cons_succ]
              refine wpAnyH_take (i := 12) (oi := { dst := some 72, op := Go.Op.fieldAddr 30 (Go.Operand.tmp 12) 2, type := 0, pos := "law.go:46", after := #[{ on := 9, ground := Go.Ground.guard }], guard := some (9, false) }) (v := ?_) rfl (by kernel_rfl) (by kernel_rfl) (by kernel_rfl) (fun _ _ _ h => h) (Or.inl ⟨by rfl, ?_⟩) (by assumption) ?_
              rotate_left
              · (intro w hSw; (try dsimp only at hSw); obtain ⟨⟨a0, a1, a2, a3, a4, a5, a6, az⟩, ⟨d0, d1, d2, d3, d4, d5, d6, dz⟩, ⟨f0, f1, f2, fz⟩⟩ := hSw; go_simp; (try with_reducible rfl))
              simp only [Act.put, List.setIfInBounds_toArray, List.set_cons_zero, List.set_cons_succ]
              refine wpAnyH_take (i := 13) (oi := { dst := some 73, op := Go.Op.load 3 (Go.Operand.tmp 72), type := 3, pos := "law.go:46", after := #[{ on := 12, ground := Go.Ground.data }, { on := 9, ground := Go.Ground.guard }], guard := some (9, false) }) (v := ?_) rfl (by kernel_rfl) (by kernel_rfl) (by kernel_rfl) (fun _ _ _ h => h) (Or.inl ⟨by rfl, ?_⟩) (by assumption) ?_
              rotate_left
              · (intro w hSw; (try dsimp only at hSw); obtain ⟨⟨a0, a1, a2, a3, a4, a5, a6, az⟩, ⟨d0, d1, d2, d3, d4, d5, d6, dz⟩, ⟨f0, f1, f2, fz⟩⟩ := hSw; go_simp; (try with_reducible rfl))
              simp only [Act.put, List.setIfInBounds_toArray, List.set_cons_zero, List.set_cons_succ]
              refine wpAnyH_take (i := 14) (oi := { dst := some 74, op := Go.Op.binOp Go.BinOp.neq 3 (Go.Operand.tmp 71) (Go.Operand.tmp 73) 3, type := 4, pos := "law.go:46", after := #[{ on := 11, ground := Go.Ground.data }, { on := 13, ground := Go.Ground.data }, { on := 9, ground := Go.Ground.guard }], guard := some (9, false) }) (v := ?_) rfl (by kernel_rfl) (by kernel_rfl) (by kernel_rfl) (fun _ _ _ h => h) (Or.inl ⟨by rfl, ?_⟩) (by assumption) ?_
              rotate_left
              · (intro w hSw; (try dsimp only at hSw); obtain ⟨⟨a0, a1, a2, a3, a4, a5, a6, az⟩, ⟨d0, d1, d2, d3, d4, d5, d6, dz⟩, ⟨f0, f1, f2, fz⟩⟩ := hSw; go_simp; (try with_reducible rfl))
              simp only [Act.put, List.setIfInBounds_toArray, List.set_cons_zero, List.set_cons_succ]
              refine wpAnyH_take (i := 15) (oi := { dst := some 75, op := Go.Op.pick (Go.Operand.tmp 69) (Go.Operand.const (Go.Value.bool true)) (Go.Operand.tmp 74), type := 4, pos := "law.go:46", after := #[{ on := 9, ground := Go.Ground.data }, { on := 14, ground := Go.Ground.data }], guard := none }) (v := ?_) rfl (by kernel_rfl) (by kernel_rfl) (by kernel_rfl) (fun _ _ _ h => h) (Or.inl ⟨by rfl, ?_⟩) (by assumption) ?_
              rotate_left
              · (intro w hSw; (try dsimp only at hSw); obtain ⟨⟨a0, a1, a2, a3, a4, a5, a6, az⟩, ⟨d0, d1, d2, d3, d4, d5, d6, dz⟩, ⟨f0, f1, f2, fz⟩⟩ := hSw; go_simp; (try with_reducible rfl))
              simp only [Act.put, List.setIfInBounds_toArray, List.set_cons_zero, List.set_cons_succ]
              refine wpAnyH_take (i := 16) (oi := { dst := some 76, op := Go.Op.binOp Go.BinOp.neq 4 (Go.Operand.tmp 63) (Go.Operand.tmp 75) 4, type := 4, pos := "law.go:46", after := #[{ on := 3, ground := Go.Ground.data }, { on := 15, ground := Go.Ground.data }], guard := none }) (v := ?_) rfl (by kernel_rfl) (by kernel_rfl) (by kernel_rfl) (fun _ _ _ h => h) (Or.inl ⟨by rfl, ?_⟩) (by assumption) ?_
              rotate_left
              · (intro w hSw; (try dsimp only at hSw); obtain ⟨⟨a0, a1, a2, a3, a4, a5, a6, az⟩, ⟨d0, d1, d2, d3, d4, d5, d6, dz⟩, ⟨f0, f1, f2, fz⟩⟩ := hSw; go_simp; (try with_reducible rfl))
              simp only [Act.put, List.setIfInBounds_toArray, List.set_cons_zero, List.set_cons_succ]
              refine wpAnyH_done (by kernel_rfl) ?_ _
              clear PT X5 M5 T5 SD
              (try go_wp2_with fail)
              go_meet
              exact ⟨s2, hch, HO2, box FIN.out.1, box FIN.out.2⟩
            · have hp1 : ¬ ((pr2 : Int) = (pr : Int)) := by omega
              have hp2 : ((pr2 : Int) == (pr : Int)) = false := by simp; omega
              have hp3 : ((pr2 : Int) != (pr : Int)) = true := by simp; omega
              have CR := box (recv_l X5.out.drew (by omega) gm gy s2 true hs2 (by unfold Sv.recvB; rw [hs2, e1, e2, e3, e4]; exact decide_eq_true (by omega)))
              refine wp_region_held_drew (S := (fun w' => R7 w' b (.int .i64 (s2.mine : Int)) (.int .i64 (s2.dead : Int)) (.int .i64 (pr2 : Int)) (.int .i64 (s2.seen : Int)) (.int .i64 (st2 : Int)) (.int .i64 (s2.silent : Int)) (.int .i64 (s2.changes : Int)) ∧ R7 w' bt (.int .i64 (s.mine : Int)) (.int .i64 (s.dead : Int)) (.int .i64 (pr : Int)) (.int .i64 (s.seen : Int)) (.int .i64 (st2 : Int)) (.int .i64 (s.silent : Int)) (.int .i64 (s.changes : Int)) ∧ R3 w' mb (.bool true) (.int .i64 gm) (.int .i64 gy))) (by kernel_rfl) (SD.out) (fun hHeld => ?_)
              refine wpAnyH_take (i := 0) (oi := { dst := some 60, op := Go.Op.move (Go.Operand.tmp 7), type := 24, pos := "law.go:46", after := #[], guard := none }) (v := ?_) rfl (by kernel_rfl) (by kernel_rfl) (by kernel_rfl) (fun _ _ _ h => h) (Or.inl ⟨by rfl, ?_⟩) (by assumption) ?_
              rotate_left
              · (intro w hSw; (try dsimp only at hSw); obtain ⟨⟨a0, a1, a2, a3, a4, a5, a6, az⟩, ⟨d0, d1, d2, d3, d4, d5, d6, dz⟩, ⟨f0, f1, f2, fz⟩⟩ := hSw; go_simp; (try with_reducible rfl))
              simp only [Act.put, List.setIfInBounds_toArray, List.set_cons_zero, List.set_cons_succ]
              refine wpAnyH_take (i := 1) (oi := { dst := some 61, op := Go.Op.fieldAddr 34 (Go.Operand.tmp 11) 1, type := 0, pos := "law.go:46", after := #[], guard := none }) (v := ?_) rfl (by kernel_rfl) (by kernel_rfl) (by kernel_rfl) (fun _ _ _ h => h) (Or.inl ⟨by rfl, ?_⟩) (by assumption) ?_
              rotate_left
              · (intro w hSw; (try dsimp only at hSw); obtain ⟨⟨a0, a1, a2, a3, a4, a5, a6, az⟩, ⟨d0, d1, d2, d3, d4, d5, d6, dz⟩, ⟨f0, f1, f2, fz⟩⟩ := hSw; go_simp; (try with_reducible rfl))
              simp only [Act.put, List.setIfInBounds_toArray, List.set_cons_zero, List.set_cons_succ]
              refine wpAnyH_take (i := 2) (oi := { dst := some 62, op := Go.Op.load 32 (Go.Operand.tmp 61), type := 32, pos := "law.go:46", after := #[{ on := 1, ground := Go.Ground.data }], guard := none }) (v := ?_) rfl (by kernel_rfl) (by kernel_rfl) (by kernel_rfl) (fun _ _ _ h => h) (Or.inl ⟨by rfl, ?_⟩) (by assumption) ?_
              rotate_left
              · (intro w hSw; (try dsimp only at hSw); obtain ⟨⟨a0, a1, a2, a3, a4, a5, a6, az⟩, ⟨d0, d1, d2, d3, d4, d5, d6, dz⟩, ⟨f0, f1, f2, fz⟩⟩ := hSw; go_simp; (try with_reducible rfl))
              simp only [Act.put, List.setIfInBounds_toArray, List.set_cons_zero, List.set_cons_succ]
              refine wpAnyH_take (i := 4) (oi := { dst := some 64, op := Go.Op.fieldAddr 30 (Go.Operand.tmp 9) 4, type := 0, pos := "law.go:46", after := #[], guard := none }) (v := ?_) rfl (by kernel_rfl) (by kernel_rfl) (by kernel_rfl) (fun _ _ _ h => h) (Or.inl ⟨by rfl, ?_⟩) (by assumption) ?_
              rotate_left
              · (intro w hSw; (try dsimp only at hSw); obtain ⟨⟨a0, a1, a2, a3, a4, a5, a6, az⟩, ⟨d0, d1, d2, d3, d4, d5, d6, dz⟩, ⟨f0, f1, f2, fz⟩⟩ := hSw; go_simp; (try with_reducible rfl))
              simp only [Act.put, List.setIfInBounds_toArray, List.set_cons_zero, List.set_cons_succ]
              refine wpAnyH_take (i := 5) (oi := { dst := some 65, op := Go.Op.load 3 (Go.Operand.tmp 64), type := 3, pos := "law.go:46", after := #[{ on := 4, ground := Go.Ground.data }], guard := none }) (v := ?_) rfl (by kernel_rfl) (by kernel_rfl) (by kernel_rfl) (fun _ _ _ h => h) (Or.inl ⟨by rfl, ?_⟩) (by assumption) ?_
              rotate_left
              · (intro w hSw; (try dsimp only at hSw); obtain ⟨⟨a0, a1, a2, a3, a4, a5, a6, az⟩, ⟨d0, d1, d2, d3, d4, d5, d6, dz⟩, ⟨f0, f1, f2, fz⟩⟩ := hSw; go_simp; (try with_reducible rfl))
              simp only [Act.put, List.setIfInBounds_toArray, List.set_cons_zero, List.set_cons_succ]
              refine wpAnyH_take (i := 6) (oi := { dst := some 66, op := Go.Op.fieldAddr 30 (Go.Operand.tmp 12) 4, type := 0, pos := "law.go:46", after := #[], guard := none }) (v := ?_) rfl (by kernel_rfl) (by kernel_rfl) (by kernel_rfl) (fun _ _ _ h => h) (Or.inl ⟨by rfl, ?_⟩) (by assumption) ?_
              rotate_left
              · (intro w hSw; (try dsimp only at hSw); obtain ⟨⟨a0, a1, a2, a3, a4, a5, a6, az⟩, ⟨d0, d1, d2, d3, d4, d5, d6, dz⟩, ⟨f0, f1, f2, fz⟩⟩ := hSw; go_simp; (try with_reducible rfl))
              simp only [Act.put, List.setIfInBounds_toArray, List.set_cons_zero, List.set_cons_succ]
              refine wpAnyH_take (i := 7) (oi := { dst := some 67, op := Go.Op.load 3 (Go.Operand.tmp 66), type := 3, pos := "law.go:46", after := #[{ on := 6, ground := Go.Ground.data }], guard := none }) (v := ?_) rfl (by kernel_rfl) (by kernel_rfl) (by kernel_rfl) (fun _ _ _ h => h) (Or.inl ⟨by rfl, ?_⟩) (by assumption) ?_
              rotate_left
              · (intro w hSw; (try dsimp only at hSw); obtain ⟨⟨a0, a1, a2, a3, a4, a5, a6, az⟩, ⟨d0, d1, d2, d3, d4, d5, d6, dz⟩, ⟨f0, f1, f2, fz⟩⟩ := hSw; go_simp; (try with_reducible rfl))
              simp only [Act.put, List.setIfInBounds_toArray, List.set_cons_zero, List.set_cons_succ]
              refine wpAnyH_take (i := 8) (oi := { dst := some 68, op := Go.Op.binOp Go.BinOp.neq 3 (Go.Operand.tmp 65) (Go.Operand.tmp 67) 3, type := 4, pos := "law.go:46", after := #[{ on := 5, ground := Go.Ground.data }, { on := 7, ground := Go.Ground.data }], guard := none }) (v := ?_) rfl (by kernel_rfl) (by kernel_rfl) (by kernel_rfl) (fun _ _ _ h => h) (Or.inl ⟨by rfl, ?_⟩) (by assumption) ?_
              rotate_left
              · (intro w hSw; (try dsimp only at hSw); obtain ⟨⟨a0, a1, a2, a3, a4, a5, a6, az⟩, ⟨d0, d1, d2, d3, d4, d5, d6, dz⟩, ⟨f0, f1, f2, fz⟩⟩ := hSw; go_simp; (try with_reducible rfl))
              simp only [Act.put, List.setIfInBounds_toArray, List.set_cons_zero, List.set_cons_succ]
              refine wpAnyH_ready (rs := [3]) (by kernel_rfl) (by simp) ?_
              refine (AllReadyH.cons (o := { dst := some 63, op := Go.Op.call { callee := Go.Callee.value (Go.Operand.func 15), args := #[Go.Operand.tmp 60, Go.Operand.tmp 62], argTypes := #[24, 32] }, type := 4, pos := "law.go:46", after := #[{ on := 0, ground := Go.Ground.data }, { on := 2, ground := Go.Ground.data }], guard := none }) rfl (fun K hK => ?_) AllReadyH.nil)
              go_simp
              refine CR.out.mono ?_
              rintro e w6 ⟨rfl, x6, a6⟩
              have FIN := box (show PE w.heap.size w w6 g b s2 ∧ R3 w6 mb (.bool true) (.int .i64 gm) (.int .i64 gy) from ⟨⟨x6, by unfold RefAt; rw [e1, e2]; exact (PT.out.same (w' := wz.drew) rfl).same (a6.block b (PT.out.same (w' := wz.drew) rfl).lt BB.out.1 (by simp)), BB.out.1, BB.out.2⟩, (M5.out.same (w' := wz.drew) rfl).same (a6.block mb (M5.out.same (w' := wz.drew) rfl).lt MG.out.1 (by simp))⟩)
              have S6 := box (show R7 w6 b (.int .i64 (s2.mine : Int)) (.int .i64 (s2.dead : Int)) (.int .i64 (pr2 : Int)) (.int .i64 (s2.seen : Int)) (.int .i64 (st2 : Int)) (.int .i64 (s2.silent : Int)) (.int .i64 (s2.changes : Int)) ∧ R7 w6 bt (.int .i64 (s.mine : Int)) (.int .i64 (s.dead : Int)) (.int .i64 (pr : Int)) (.int .i64 (s.seen : Int)) (.int .i64 (st2 : Int)) (.int .i64 (s.silent : Int)) (.int .i64 (s.changes : Int)) ∧ R3 w6 mb (.bool true) (.int .i64 gm) (.int .i64 gy) from ⟨(PT.out.same (w' := wz.drew) rfl).same (a6.block b (PT.out.same (w' := wz.drew) rfl).lt BB.out.1 (by simp)), (T5.out.same (w' := wz.drew) rfl).same (a6.block bt (T5.out.same (w' := wz.drew) rfl).lt NE.out.1 (by simp)), (M5.out.same (w' := wz.drew) rfl).same (a6.block mb (M5.out.same (w' := wz.drew) rfl).lt MG.out.1 (by simp))⟩)
              refine hK.out _ _ (S6.out) (fun hHeldb => ?_)
              clear hK K
              refine wpAnyH_take (i := 9) (oi := { dst := some 69, op := Go.Op.move (Go.Operand.tmp 68), type := 4, pos := "law.go:46", after := #[{ on := 8, ground := Go.Ground.data }, { on := 3, ground := Go.Ground.chain }], guard := none }) (v := ?_) rfl (by kernel_rfl) (by kernel_rfl) (by kernel_rfl) (fun _ _ _ h => h) (Or.inl ⟨by rfl, ?_⟩) (by assumption) ?_
              rotate_left
              · (intro w hSw; (try dsimp only at hSw); obtain ⟨⟨a0, a1, a2, a3, a4, a5, a6, az⟩, ⟨d0, d1, d2, d3, d4, d5, d6, dz⟩, ⟨f0, f1, f2, fz⟩⟩ := hSw; go_simp; (try with_reducible rfl))
              simp only [Act.put, List.setIfInBounds_toArray, List.set_cons_zero, List.set_cons_succ]
              refine wpAnyH_take (i := 10) (oi := { dst := some 70, op := Go.Op.fieldAddr 30 (Go.Operand.tmp 9) 2, type := 0, pos := "law.go:46", after := #[{ on := 9, ground := Go.Ground.guard }], guard := some (9, false) }) (v := ?_) rfl (by kernel_rfl) (by kernel_rfl) (by kernel_rfl) (fun _ _ _ h => h) (Or.inl ⟨by rfl, ?_⟩) (by assumption) ?_
              rotate_left
              · (intro w hSw; (try dsimp only at hSw); obtain ⟨⟨a0, a1, a2, a3, a4, a5, a6, az⟩, ⟨d0, d1, d2, d3, d4, d5, d6, dz⟩, ⟨f0, f1, f2, fz⟩⟩ := hSw; go_simp; (try with_reducible rfl))
              simp only [Act.put, List.setIfInBounds_toArray, List.set_cons_zero, List.set_cons_succ]
              refine wpAnyH_take (i := 11) (oi := { dst := some 71, op := Go.Op.load 3 (Go.Operand.tmp 70), type := 3, pos := "law.go:46", after := #[{ on := 10, ground := Go.Ground.data }, { on := 9, ground := Go.Ground.guard }], guard := some (9, false) }) (v := ?_) rfl (by kernel_rfl) (by kernel_rfl) (by kernel_rfl) (fun _ _ _ h => h) (Or.inl ⟨by rfl, ?_⟩) (by assumption) ?_
              rotate_left
              · (intro w hSw; (try dsimp only at hSw); obtain ⟨⟨a0, a1, a2, a3, a4, a5, a6, az⟩, ⟨d0, d1, d2, d3, d4, d5, d6, dz⟩, ⟨f0, f1, f2, fz⟩⟩ := hSw; go_simp; (try with_reducible rfl))
              simp only [Act.put, List.setIfInBounds_toArray, List.set_cons_zero, List.set_cons_succ]
              refine wpAnyH_take (i := 12) (oi := { dst := some 72, op := Go.Op.fieldAddr 30 (Go.Operand.tmp 12) 2, type := 0, pos := "law.go:46", after := #[{ on := 9, ground := Go.Ground.guard }], guard := some (9, false) }) (v := ?_) rfl (by kernel_rfl) (by kernel_rfl) (by kernel_rfl) (fun _ _ _ h => h) (Or.inl ⟨by rfl, ?_⟩) (by assumption) ?_
              rotate_left
              · (intro w hSw; (try dsimp only at hSw); obtain ⟨⟨a0, a1, a2, a3, a4, a5, a6, az⟩, ⟨d0, d1, d2, d3, d4, d5, d6, dz⟩, ⟨f0, f1, f2, fz⟩⟩ := hSw; go_simp; (try with_reducible rfl))
              simp only [Act.put, List.setIfInBounds_toArray, List.set_cons_zero, List.set_cons_succ]
              refine wpAnyH_take (i := 13) (oi := { dst := some 73, op := Go.Op.load 3 (Go.Operand.tmp 72), type := 3, pos := "law.go:46", after := #[{ on := 12, ground := Go.Ground.data }, { on := 9, ground := Go.Ground.guard }], guard := some (9, false) }) (v := ?_) rfl (by kernel_rfl) (by kernel_rfl) (by kernel_rfl) (fun _ _ _ h => h) (Or.inl ⟨by rfl, ?_⟩) (by assumption) ?_
              rotate_left
              · (intro w hSw; (try dsimp only at hSw); obtain ⟨⟨a0, a1, a2, a3, a4, a5, a6, az⟩, ⟨d0, d1, d2, d3, d4, d5, d6, dz⟩, ⟨f0, f1, f2, fz⟩⟩ := hSw; go_simp; (try with_reducible rfl))
              simp only [Act.put, List.setIfInBounds_toArray, List.set_cons_zero, List.set_cons_succ]
              refine wpAnyH_take (i := 14) (oi := { dst := some 74, op := Go.Op.binOp Go.BinOp.neq 3 (Go.Operand.tmp 71) (Go.Operand.tmp 73) 3, type := 4, pos := "law.go:46", after := #[{ on := 11, ground := Go.Ground.data }, { on := 13, ground := Go.Ground.data }, { on := 9, ground := Go.Ground.guard }], guard := some (9, false) }) (v := ?_) rfl (by kernel_rfl) (by kernel_rfl) (by kernel_rfl) (fun _ _ _ h => h) (Or.inl ⟨by rfl, ?_⟩) (by assumption) ?_
              rotate_left
              · (intro w hSw; (try dsimp only at hSw); obtain ⟨⟨a0, a1, a2, a3, a4, a5, a6, az⟩, ⟨d0, d1, d2, d3, d4, d5, d6, dz⟩, ⟨f0, f1, f2, fz⟩⟩ := hSw; go_simp; (try with_reducible rfl))
              simp only [Act.put, List.setIfInBounds_toArray, List.set_cons_zero, List.set_cons_succ]
              refine wpAnyH_take (i := 15) (oi := { dst := some 75, op := Go.Op.pick (Go.Operand.tmp 69) (Go.Operand.const (Go.Value.bool true)) (Go.Operand.tmp 74), type := 4, pos := "law.go:46", after := #[{ on := 9, ground := Go.Ground.data }, { on := 14, ground := Go.Ground.data }], guard := none }) (v := ?_) rfl (by kernel_rfl) (by kernel_rfl) (by kernel_rfl) (fun _ _ _ h => h) (Or.inl ⟨by rfl, ?_⟩) (by assumption) ?_
              rotate_left
              · (intro w hSw; (try dsimp only at hSw); obtain ⟨⟨a0, a1, a2, a3, a4, a5, a6, az⟩, ⟨d0, d1, d2, d3, d4, d5, d6, dz⟩, ⟨f0, f1, f2, fz⟩⟩ := hSw; go_simp; (try with_reducible rfl))
              simp only [Act.put, List.setIfInBounds_toArray, List.set_cons_zero, List.set_cons_succ]
              refine wpAnyH_take (i := 16) (oi := { dst := some 76, op := Go.Op.binOp Go.BinOp.neq 4 (Go.Operand.tmp 63) (Go.Operand.tmp 75) 4, type := 4, pos := "law.go:46", after := #[{ on := 3, ground := Go.Ground.data }, { on := 15, ground := Go.Ground.data }], guard := none }) (v := ?_) rfl (by kernel_rfl) (by kernel_rfl) (by kernel_rfl) (fun _ _ _ h => h) (Or.inl ⟨by rfl, ?_⟩) (by assumption) ?_
              rotate_left
              · (intro w hSw; (try dsimp only at hSw); obtain ⟨⟨a0, a1, a2, a3, a4, a5, a6, az⟩, ⟨d0, d1, d2, d3, d4, d5, d6, dz⟩, ⟨f0, f1, f2, fz⟩⟩ := hSw; go_simp; (try with_reducible rfl))
              simp only [Act.put, List.setIfInBounds_toArray, List.set_cons_zero, List.set_cons_succ]
              refine wpAnyH_done (by kernel_rfl) ?_ _
              clear PT X5 M5 T5 SD
              (try go_wp2_with fail)
              go_meet
              exact ⟨s2, hch, HO2, box FIN.out.1, box FIN.out.2⟩
          · have hd1 : ¬ ((st2 : Int) = (st : Int)) := by omega
            have hd2 : ((st2 : Int) == (st : Int)) = false := by simp; omega
            have hd3 : ((st2 : Int) != (st : Int)) = true := by simp; omega
            have CR := box (recv_l X5.out.drew (by omega) gm gy s2 true hs2 (by unfold Sv.recvB; rw [hs2, e1, e2, e3, e4]; exact decide_eq_true (by omega)))
            refine wp_region_held_drew (S := (fun w' => R7 w' b (.int .i64 (s2.mine : Int)) (.int .i64 (s2.dead : Int)) (.int .i64 (pr2 : Int)) (.int .i64 (s2.seen : Int)) (.int .i64 (st2 : Int)) (.int .i64 (s2.silent : Int)) (.int .i64 (s2.changes : Int)) ∧ R7 w' bt (.int .i64 (s.mine : Int)) (.int .i64 (s.dead : Int)) (.int .i64 (pr : Int)) (.int .i64 (s.seen : Int)) (.int .i64 (st : Int)) (.int .i64 (s.silent : Int)) (.int .i64 (s.changes : Int)) ∧ R3 w' mb (.bool true) (.int .i64 gm) (.int .i64 gy))) (by kernel_rfl) (SD.out) (fun hHeld => ?_)
            refine wpAnyH_take (i := 0) (oi := { dst := some 60, op := Go.Op.move (Go.Operand.tmp 7), type := 24, pos := "law.go:46", after := #[], guard := none }) (v := ?_) rfl (by kernel_rfl) (by kernel_rfl) (by kernel_rfl) (fun _ _ _ h => h) (Or.inl ⟨by rfl, ?_⟩) (by assumption) ?_
            rotate_left
            · (intro w hSw; (try dsimp only at hSw); obtain ⟨⟨a0, a1, a2, a3, a4, a5, a6, az⟩, ⟨d0, d1, d2, d3, d4, d5, d6, dz⟩, ⟨f0, f1, f2, fz⟩⟩ := hSw; go_simp; (try with_reducible rfl))
            simp only [Act.put, List.setIfInBounds_toArray, List.set_cons_zero, List.set_cons_succ]
            refine wpAnyH_take (i := 1) (oi := { dst := some 61, op := Go.Op.fieldAddr 34 (Go.Operand.tmp 11) 1, type := 0, pos := "law.go:46", after := #[], guard := none }) (v := ?_) rfl (by kernel_rfl) (by kernel_rfl) (by kernel_rfl) (fun _ _ _ h => h) (Or.inl ⟨by rfl, ?_⟩) (by assumption) ?_
            rotate_left
            · (intro w hSw; (try dsimp only at hSw); obtain ⟨⟨a0, a1, a2, a3, a4, a5, a6, az⟩, ⟨d0, d1, d2, d3, d4, d5, d6, dz⟩, ⟨f0, f1, f2, fz⟩⟩ := hSw; go_simp; (try with_reducible rfl))
            simp only [Act.put, List.setIfInBounds_toArray, List.set_cons_zero, List.set_cons_succ]
            refine wpAnyH_take (i := 2) (oi := { dst := some 62, op := Go.Op.load 32 (Go.Operand.tmp 61), type := 32, pos := "law.go:46", after := #[{ on := 1, ground := Go.Ground.data }], guard := none }) (v := ?_) rfl (by kernel_rfl) (by kernel_rfl) (by kernel_rfl) (fun _ _ _ h => h) (Or.inl ⟨by rfl, ?_⟩) (by assumption) ?_
            rotate_left
            · (intro w hSw; (try dsimp only at hSw); obtain ⟨⟨a0, a1, a2, a3, a4, a5, a6, az⟩, ⟨d0, d1, d2, d3, d4, d5, d6, dz⟩, ⟨f0, f1, f2, fz⟩⟩ := hSw; go_simp; (try with_reducible rfl))
            simp only [Act.put, List.setIfInBounds_toArray, List.set_cons_zero, List.set_cons_succ]
            refine wpAnyH_take (i := 4) (oi := { dst := some 64, op := Go.Op.fieldAddr 30 (Go.Operand.tmp 9) 4, type := 0, pos := "law.go:46", after := #[], guard := none }) (v := ?_) rfl (by kernel_rfl) (by kernel_rfl) (by kernel_rfl) (fun _ _ _ h => h) (Or.inl ⟨by rfl, ?_⟩) (by assumption) ?_
            rotate_left
            · (intro w hSw; (try dsimp only at hSw); obtain ⟨⟨a0, a1, a2, a3, a4, a5, a6, az⟩, ⟨d0, d1, d2, d3, d4, d5, d6, dz⟩, ⟨f0, f1, f2, fz⟩⟩ := hSw; go_simp; (try with_reducible rfl))
            simp only [Act.put, List.setIfInBounds_toArray, List.set_cons_zero, List.set_cons_succ]
            refine wpAnyH_take (i := 5) (oi := { dst := some 65, op := Go.Op.load 3 (Go.Operand.tmp 64), type := 3, pos := "law.go:46", after := #[{ on := 4, ground := Go.Ground.data }], guard := none }) (v := ?_) rfl (by kernel_rfl) (by kernel_rfl) (by kernel_rfl) (fun _ _ _ h => h) (Or.inl ⟨by rfl, ?_⟩) (by assumption) ?_
            rotate_left
            · (intro w hSw; (try dsimp only at hSw); obtain ⟨⟨a0, a1, a2, a3, a4, a5, a6, az⟩, ⟨d0, d1, d2, d3, d4, d5, d6, dz⟩, ⟨f0, f1, f2, fz⟩⟩ := hSw; go_simp; (try with_reducible rfl))
            simp only [Act.put, List.setIfInBounds_toArray, List.set_cons_zero, List.set_cons_succ]
            refine wpAnyH_take (i := 6) (oi := { dst := some 66, op := Go.Op.fieldAddr 30 (Go.Operand.tmp 12) 4, type := 0, pos := "law.go:46", after := #[], guard := none }) (v := ?_) rfl (by kernel_rfl) (by kernel_rfl) (by kernel_rfl) (fun _ _ _ h => h) (Or.inl ⟨by rfl, ?_⟩) (by assumption) ?_
            rotate_left
            · (intro w hSw; (try dsimp only at hSw); obtain ⟨⟨a0, a1, a2, a3, a4, a5, a6, az⟩, ⟨d0, d1, d2, d3, d4, d5, d6, dz⟩, ⟨f0, f1, f2, fz⟩⟩ := hSw; go_simp; (try with_reducible rfl))
            simp only [Act.put, List.setIfInBounds_toArray, List.set_cons_zero, List.set_cons_succ]
            refine wpAnyH_take (i := 7) (oi := { dst := some 67, op := Go.Op.load 3 (Go.Operand.tmp 66), type := 3, pos := "law.go:46", after := #[{ on := 6, ground := Go.Ground.data }], guard := none }) (v := ?_) rfl (by kernel_rfl) (by kernel_rfl) (by kernel_rfl) (fun _ _ _ h => h) (Or.inl ⟨by rfl, ?_⟩) (by assumption) ?_
            rotate_left
            · (intro w hSw; (try dsimp only at hSw); obtain ⟨⟨a0, a1, a2, a3, a4, a5, a6, az⟩, ⟨d0, d1, d2, d3, d4, d5, d6, dz⟩, ⟨f0, f1, f2, fz⟩⟩ := hSw; go_simp; (try with_reducible rfl))
            simp only [Act.put, List.setIfInBounds_toArray, List.set_cons_zero, List.set_cons_succ]
            refine wpAnyH_take (i := 8) (oi := { dst := some 68, op := Go.Op.binOp Go.BinOp.neq 3 (Go.Operand.tmp 65) (Go.Operand.tmp 67) 3, type := 4, pos := "law.go:46", after := #[{ on := 5, ground := Go.Ground.data }, { on := 7, ground := Go.Ground.data }], guard := none }) (v := ?_) rfl (by kernel_rfl) (by kernel_rfl) (by kernel_rfl) (fun _ _ _ h => h) (Or.inl ⟨by rfl, ?_⟩) (by assumption) ?_
            rotate_left
            · (intro w hSw; (try dsimp only at hSw); obtain ⟨⟨a0, a1, a2, a3, a4, a5, a6, az⟩, ⟨d0, d1, d2, d3, d4, d5, d6, dz⟩, ⟨f0, f1, f2, fz⟩⟩ := hSw; go_simp; (try with_reducible rfl))
            simp only [Act.put, List.setIfInBounds_toArray, List.set_cons_zero, List.set_cons_succ]
            refine wpAnyH_ready (rs := [3]) (by kernel_rfl) (by simp) ?_
            refine (AllReadyH.cons (o := { dst := some 63, op := Go.Op.call { callee := Go.Callee.value (Go.Operand.func 15), args := #[Go.Operand.tmp 60, Go.Operand.tmp 62], argTypes := #[24, 32] }, type := 4, pos := "law.go:46", after := #[{ on := 0, ground := Go.Ground.data }, { on := 2, ground := Go.Ground.data }], guard := none }) rfl (fun K hK => ?_) AllReadyH.nil)
            go_simp
            refine CR.out.mono ?_
            rintro e w6 ⟨rfl, x6, a6⟩
            have FIN := box (show PE w.heap.size w w6 g b s2 ∧ R3 w6 mb (.bool true) (.int .i64 gm) (.int .i64 gy) from ⟨⟨x6, by unfold RefAt; rw [e1, e2]; exact (PT.out.same (w' := wz.drew) rfl).same (a6.block b (PT.out.same (w' := wz.drew) rfl).lt BB.out.1 (by simp)), BB.out.1, BB.out.2⟩, (M5.out.same (w' := wz.drew) rfl).same (a6.block mb (M5.out.same (w' := wz.drew) rfl).lt MG.out.1 (by simp))⟩)
            have S6 := box (show R7 w6 b (.int .i64 (s2.mine : Int)) (.int .i64 (s2.dead : Int)) (.int .i64 (pr2 : Int)) (.int .i64 (s2.seen : Int)) (.int .i64 (st2 : Int)) (.int .i64 (s2.silent : Int)) (.int .i64 (s2.changes : Int)) ∧ R7 w6 bt (.int .i64 (s.mine : Int)) (.int .i64 (s.dead : Int)) (.int .i64 (pr : Int)) (.int .i64 (s.seen : Int)) (.int .i64 (st : Int)) (.int .i64 (s.silent : Int)) (.int .i64 (s.changes : Int)) ∧ R3 w6 mb (.bool true) (.int .i64 gm) (.int .i64 gy) from ⟨(PT.out.same (w' := wz.drew) rfl).same (a6.block b (PT.out.same (w' := wz.drew) rfl).lt BB.out.1 (by simp)), (T5.out.same (w' := wz.drew) rfl).same (a6.block bt (T5.out.same (w' := wz.drew) rfl).lt NE.out.1 (by simp)), (M5.out.same (w' := wz.drew) rfl).same (a6.block mb (M5.out.same (w' := wz.drew) rfl).lt MG.out.1 (by simp))⟩)
            refine hK.out _ _ (S6.out) (fun hHeldb => ?_)
            clear hK K
            refine wpAnyH_take (i := 9) (oi := { dst := some 69, op := Go.Op.move (Go.Operand.tmp 68), type := 4, pos := "law.go:46", after := #[{ on := 8, ground := Go.Ground.data }, { on := 3, ground := Go.Ground.chain }], guard := none }) (v := ?_) rfl (by kernel_rfl) (by kernel_rfl) (by kernel_rfl) (fun _ _ _ h => h) (Or.inl ⟨by rfl, ?_⟩) (by assumption) ?_
            rotate_left
            · (intro w hSw; (try dsimp only at hSw); obtain ⟨⟨a0, a1, a2, a3, a4, a5, a6, az⟩, ⟨d0, d1, d2, d3, d4, d5, d6, dz⟩, ⟨f0, f1, f2, fz⟩⟩ := hSw; go_simp; (try with_reducible rfl))
            simp only [Act.put, List.setIfInBounds_toArray, List.set_cons_zero, List.set_cons_succ]
            refine wpAnyH_take (i := 10) (oi := { dst := some 70, op := Go.Op.fieldAddr 30 (Go.Operand.tmp 9) 2, type := 0, pos := "law.go:46", after := #[{ on := 9, ground := Go.Ground.guard }], guard := some (9, false) }) (v := undef) rfl (by kernel_rfl) (by kernel_rfl) (by kernel_rfl) (fun _ _ _ h => h) (Or.inr ⟨by rfl, rfl⟩) (by assumption) ?_
            simp only [Act.put, List.setIfInBounds_toArray, List.set_cons_zero, List.set_cons_succ]
            refine wpAnyH_take (i := 11) (oi := { dst := some 71, op := Go.Op.load 3 (Go.Operand.tmp 70), type := 3, pos := "law.go:46", after := #[{ on := 10, ground := Go.Ground.data }, { on := 9, ground := Go.Ground.guard }], guard := some (9, false) }) (v := undef) rfl (by kernel_rfl) (by kernel_rfl) (by kernel_rfl) (fun _ _ _ h => h) (Or.inr ⟨by rfl, rfl⟩) (by assumption) ?_
            simp only [Act.put, List.setIfInBounds_toArray, List.set_cons_zero, List.set_cons_succ]
            refine wpAnyH_take (i := 12) (oi := { dst := some 72, op := Go.Op.fieldAddr 30 (Go.Operand.tmp 12) 2, type := 0, pos := "law.go:46", after := #[{ on := 9, ground := Go.Ground.guard }], guard := some (9, false) }) (v := undef) rfl (by kernel_rfl) (by kernel_rfl) (by kernel_rfl) (fun _ _ _ h => h) (Or.inr ⟨by rfl, rfl⟩) (by assumption) ?_
            simp only [Act.put, List.setIfInBounds_toArray, List.set_cons_zero, List.set_cons_succ]
            refine wpAnyH_take (i := 13) (oi := { dst := some 73, op := Go.Op.load 3 (Go.Operand.tmp 72), type := 3, pos := "law.go:46", after := #[{ on := 12, ground := Go.Ground.data }, { on := 9, ground := Go.Ground.guard }], guard := some (9, false) }) (v := undef) rfl (by kernel_rfl) (by kernel_rfl) (by kernel_rfl) (fun _ _ _ h => h) (Or.inr ⟨by rfl, rfl⟩) (by assumption) ?_
            simp only [Act.put, List.setIfInBounds_toArray, List.set_cons_zero, List.set_cons_succ]
            refine wpAnyH_take (i := 14) (oi := { dst := some 74, op := Go.Op.binOp Go.BinOp.neq 3 (Go.Operand.tmp 71) (Go.Operand.tmp 73) 3, type := 4, pos := "law.go:46", after := #[{ on := 11, ground := Go.Ground.data }, { on := 13, ground := Go.Ground.data }, { on := 9, ground := Go.Ground.guard }], guard := some (9, false) }) (v := undef) rfl (by kernel_rfl) (by kernel_rfl) (by kernel_rfl) (fun _ _ _ h => h) (Or.inr ⟨by rfl, rfl⟩) (by assumption) ?_
            simp only [Act.put, List.setIfInBounds_toArray, List.set_cons_zero, List.set_cons_succ]
            refine wpAnyH_take (i := 15) (oi := { dst := some 75, op := Go.Op.pick (Go.Operand.tmp 69) (Go.Operand.const (Go.Value.bool true)) (Go.Operand.tmp 74), type := 4, pos := "law.go:46", after := #[{ on := 9, ground := Go.Ground.data }, { on := 14, ground := Go.Ground.data }], guard := none }) (v := ?_) rfl (by kernel_rfl) (by kernel_rfl) (by kernel_rfl) (fun _ _ _ h => h) (Or.inl ⟨by rfl, ?_⟩) (by assumption) ?_
            rotate_left
            · (intro w hSw; (try dsimp only at hSw); obtain ⟨⟨a0, a1, a2, a3, a4, a5, a6, az⟩, ⟨d0, d1, d2, d3, d4, d5, d6, dz⟩, ⟨f0, f1, f2, fz⟩⟩ := hSw; go_simp; (try with_reducible rfl))
            simp only [Act.put, List.setIfInBounds_toArray, List.set_cons_zero, List.set_cons_succ]
            refine wpAnyH_take (i := 16) (oi := { dst := some 76, op := Go.Op.binOp Go.BinOp.neq 4 (Go.Operand.tmp 63) (Go.Operand.tmp 75) 4, type := 4, pos := "law.go:46", after := #[{ on := 3, ground := Go.Ground.data }, { on := 15, ground := Go.Ground.data }], guard := none }) (v := ?_) rfl (by kernel_rfl) (by kernel_rfl) (by kernel_rfl) (fun _ _ _ h => h) (Or.inl ⟨by rfl, ?_⟩) (by assumption) ?_
            rotate_left
            · (intro w hSw; (try dsimp only at hSw); obtain ⟨⟨a0, a1, a2, a3, a4, a5, a6, az⟩, ⟨d0, d1, d2, d3, d4, d5, d6, dz⟩, ⟨f0, f1, f2, fz⟩⟩ := hSw; go_simp; (try with_reducible rfl))
            simp only [Act.put, List.setIfInBounds_toArray, List.set_cons_zero, List.set_cons_succ]
            refine wpAnyH_done (by kernel_rfl) ?_ _
            clear PT X5 M5 T5 SD
            (try go_wp2_with fail)
            go_meet
            exact ⟨s2, hch, HO2, box FIN.out.1, box FIN.out.2⟩
        | false =>
          obtain ⟨s2, hs2⟩ : ∃ s2, s.tickS = s2 := ⟨_, rfl⟩
          have hch : s2.changes ≤ j + 1 := by have := tick_changes s; rw [hs2] at this; omega
          have HO2 := box (show s2.Ok from by rw [← hs2]; exact hO.out.tick)
          obtain ⟨p0, p1, p2, pz⟩ := M.out
          obtain ⟨r0, r1, r2, r3, r4, r5, r6, rz⟩ := E2.out.r
          have RA := rtick_any s hO.out (by omega) wt
          rw [hs2] at RA
          unfold svV at RA
          replace RA := box RA
          go_wp2_with fail
          refine RA.out.mono ?_
          rintro e w5 ⟨rfl, b5⟩
          clear RA p0 p1 p2 pz r0 r1 r2 r3 r4 r5 r6 rz
          replace E2 := box (E2.out.keep b5)
          replace M := box (M.out.keep b5)
          replace T := box (T.out.keep b5)
          clear b5
          have PT := box (E2.out.r.put (.int .i64 (s2.mine : Int)) (.int .i64 (s2.dead : Int)) (.int .i64 (s2.peer : Int)) (.int .i64 (s2.seen : Int)) (.int .i64 (s2.state : Int)) (.int .i64 (s2.silent : Int)) (.int .i64 (s2.changes : Int)))
          have X5 := box (E2.out.x.put7 E2.out.ne E2.out.bb (.int .i64 (s2.mine : Int)) (.int .i64 (s2.dead : Int)) (.int .i64 (s2.peer : Int)) (.int .i64 (s2.seen : Int)) (.int .i64 (s2.state : Int)) (.int .i64 (s2.silent : Int)) (.int .i64 (s2.changes : Int)))
          have M5 := box (M.out.same (w' := put7 w5 b (.int .i64 (s2.mine : Int)) (.int .i64 (s2.dead : Int)) (.int .i64 (s2.peer : Int)) (.int .i64 (s2.seen : Int)) (.int .i64 (s2.state : Int)) (.int .i64 (s2.silent : Int)) (.int .i64 (s2.changes : Int))) (put7_heap w5 b mb (Ne.symm MG.out.2) _ _ _ _ _ _ _))
          have T5 := box (T.out.same (w' := put7 w5 b (.int .i64 (s2.mine : Int)) (.int .i64 (s2.dead : Int)) (.int .i64 (s2.peer : Int)) (.int .i64 (s2.seen : Int)) (.int .i64 (s2.state : Int)) (.int .i64 (s2.silent : Int)) (.int .i64 (s2.changes : Int))) (put7_heap w5 b bt (Ne.symm NE.out.2.1) _ _ _ _ _ _ _))
          have BB := box (And.intro E2.out.ne E2.out.bb)
          obtain ⟨p0, p1, p2, pz⟩ := M.out
          obtain ⟨r0, r1, r2, r3, r4, r5, r6, rz⟩ := E2.out.r
          go_upto_region 20 with fail
          clear E2 M T p0 p1 p2 pz r0 r1 r2 r3 r4 r5 r6 rz
          change Code.wp _ _ _ _ (put7 w5 b (.int .i64 (s2.mine : Int)) (.int .i64 (s2.dead : Int)) (.int .i64 (s2.peer : Int)) (.int .i64 (s2.seen : Int)) (.int .i64 (s2.state : Int)) (.int .i64 (s2.silent : Int)) (.int .i64 (s2.changes : Int)))
          generalize put7 w5 b (.int .i64 (s2.mine : Int)) (.int .i64 (s2.dead : Int)) (.int .i64 (s2.peer : Int)) (.int .i64 (s2.seen : Int)) (.int .i64 (s2.state : Int)) (.int .i64 (s2.silent : Int)) (.int .i64 (s2.changes : Int)) = wz at PT X5 M5 T5 ⊢
          obtain ⟨st2, e1⟩ : ∃ st2, s2.state = st2 := ⟨_, rfl⟩
          obtain ⟨pr2, e2⟩ : ∃ pr2, s2.peer = pr2 := ⟨_, rfl⟩
          obtain ⟨st, e3⟩ : ∃ st, s.state = st := ⟨_, rfl⟩
          obtain ⟨pr, e4⟩ : ∃ pr, s.peer = pr := ⟨_, rfl⟩
          rw [e1, e2] at PT
          rw [e3, e4] at T5
          have SD := box (show R7 wz.drew b (.int .i64 (s2.mine : Int)) (.int .i64 (s2.dead : Int)) (.int .i64 (pr2 : Int)) (.int .i64 (s2.seen : Int)) (.int .i64 (st2 : Int)) (.int .i64 (s2.silent : Int)) (.int .i64 (s2.changes : Int)) ∧ R7 wz.drew bt (.int .i64 (s.mine : Int)) (.int .i64 (s.dead : Int)) (.int .i64 (pr : Int)) (.int .i64 (s.seen : Int)) (.int .i64 (st : Int)) (.int .i64 (s.silent : Int)) (.int .i64 (s.changes : Int)) ∧ R3 wz.drew mb (.bool false) (.int .i64 gm) (.int .i64 gy) from ⟨PT.out.same rfl, T5.out.same rfl, M5.out.same rfl⟩)
          have CT := box (tick_l X5.out.drew hO.out.si (by omega) s2 (s2.mine : Int) (pr2 : Int) hs2 (by rw [← hs2, tick_mine' s]) (by rw [e2]))
          refine wp_region_held_drew (S := (fun w' => R7 w' b (.int .i64 (s2.mine : Int)) (.int .i64 (s2.dead : Int)) (.int .i64 (pr2 : Int)) (.int .i64 (s2.seen : Int)) (.int .i64 (st2 : Int)) (.int .i64 (s2.silent : Int)) (.int .i64 (s2.changes : Int)) ∧ R7 w' bt (.int .i64 (s.mine : Int)) (.int .i64 (s.dead : Int)) (.int .i64 (pr : Int)) (.int .i64 (s.seen : Int)) (.int .i64 (st : Int)) (.int .i64 (s.silent : Int)) (.int .i64 (s.changes : Int)) ∧ R3 w' mb (.bool false) (.int .i64 gm) (.int .i64 gy))) (by kernel_rfl) (SD.out) (fun hHeld => ?_)
          refine wpAnyH_take (i := 0) (oi := { dst := some 79, op := Go.Op.move (Go.Operand.tmp 7), type := 24, pos := "law.go:51", after := #[], guard := none }) (v := ?_) rfl (by kernel_rfl) (by kernel_rfl) (by kernel_rfl) (fun _ _ _ h => h) (Or.inl ⟨by rfl, ?_⟩) (by assumption) ?_
          rotate_left
          · (intro w hSw; (try dsimp only at hSw); obtain ⟨⟨a0, a1, a2, a3, a4, a5, a6, az⟩, ⟨d0, d1, d2, d3, d4, d5, d6, dz⟩, ⟨f0, f1, f2, fz⟩⟩ := hSw; go_simp; (try with_reducible rfl))
          simp only [Act.put, List.setIfInBounds_toArray, List.set_cons_zero, List.set_cons_succ]
          refine wpAnyH_take (i := 2) (oi := { dst := some 81, op := Go.Op.fieldAddr 30 (Go.Operand.tmp 9) 0, type := 0, pos := "law.go:51", after := #[], guard := none }) (v := ?_) rfl (by kernel_rfl) (by kernel_rfl) (by kernel_rfl) (fun _ _ _ h => h) (Or.inl ⟨by rfl, ?_⟩) (by assumption) ?_
          rotate_left
          · (intro w hSw; (try dsimp only at hSw); obtain ⟨⟨a0, a1, a2, a3, a4, a5, a6, az⟩, ⟨d0, d1, d2, d3, d4, d5, d6, dz⟩, ⟨f0, f1, f2, fz⟩⟩ := hSw; go_simp; (try with_reducible rfl))
          simp only [Act.put, List.setIfInBounds_toArray, List.set_cons_zero, List.set_cons_succ]
          refine wpAnyH_take (i := 3) (oi := { dst := some 82, op := Go.Op.load 3 (Go.Operand.tmp 81), type := 3, pos := "law.go:51", after := #[{ on := 2, ground := Go.Ground.data }], guard := none }) (v := ?_) rfl (by kernel_rfl) (by kernel_rfl) (by kernel_rfl) (fun _ _ _ h => h) (Or.inl ⟨by rfl, ?_⟩) (by assumption) ?_
          rotate_left
          · (intro w hSw; (try dsimp only at hSw); obtain ⟨⟨a0, a1, a2, a3, a4, a5, a6, az⟩, ⟨d0, d1, d2, d3, d4, d5, d6, dz⟩, ⟨f0, f1, f2, fz⟩⟩ := hSw; go_simp; (try with_reducible rfl))
          simp only [Act.put, List.setIfInBounds_toArray, List.set_cons_zero, List.set_cons_succ]
          refine wpAnyH_take (i := 4) (oi := { dst := some 83, op := Go.Op.fieldAddr 30 (Go.Operand.tmp 9) 2, type := 0, pos := "law.go:51", after := #[], guard := none }) (v := ?_) rfl (by kernel_rfl) (by kernel_rfl) (by kernel_rfl) (fun _ _ _ h => h) (Or.inl ⟨by rfl, ?_⟩) (by assumption) ?_
          rotate_left
          · (intro w hSw; (try dsimp only at hSw); obtain ⟨⟨a0, a1, a2, a3, a4, a5, a6, az⟩, ⟨d0, d1, d2, d3, d4, d5, d6, dz⟩, ⟨f0, f1, f2, fz⟩⟩ := hSw; go_simp; (try with_reducible rfl))
          simp only [Act.put, List.setIfInBounds_toArray, List.set_cons_zero, List.set_cons_succ]
          refine wpAnyH_take (i := 5) (oi := { dst := some 84, op := Go.Op.load 3 (Go.Operand.tmp 83), type := 3, pos := "law.go:51", after := #[{ on := 4, ground := Go.Ground.data }], guard := none }) (v := ?_) rfl (by kernel_rfl) (by kernel_rfl) (by kernel_rfl) (fun _ _ _ h => h) (Or.inl ⟨by rfl, ?_⟩) (by assumption) ?_
          rotate_left
          · (intro w hSw; (try dsimp only at hSw); obtain ⟨⟨a0, a1, a2, a3, a4, a5, a6, az⟩, ⟨d0, d1, d2, d3, d4, d5, d6, dz⟩, ⟨f0, f1, f2, fz⟩⟩ := hSw; go_simp; (try with_reducible rfl))
          simp only [Act.put, List.setIfInBounds_toArray, List.set_cons_zero, List.set_cons_succ]
          refine wpAnyH_take (i := 6) (oi := { dst := some 85, op := Go.Op.build 32 #[(0, Go.Operand.tmp 82), (1, Go.Operand.tmp 84)], type := 32, pos := "law.go:51", after := #[{ on := 3, ground := Go.Ground.data }, { on := 5, ground := Go.Ground.data }], guard := none }) (v := ?_) rfl (by kernel_rfl) (by kernel_rfl) (by kernel_rfl) (fun _ _ _ h => h) (Or.inl ⟨by rfl, ?_⟩) (by assumption) ?_
          rotate_left
          · (intro w hSw; (try dsimp only at hSw); obtain ⟨⟨a0, a1, a2, a3, a4, a5, a6, az⟩, ⟨d0, d1, d2, d3, d4, d5, d6, dz⟩, ⟨f0, f1, f2, fz⟩⟩ := hSw; go_simp; (try with_reducible rfl))
          simp only [Act.put, List.setIfInBounds_toArray, List.set_cons_zero, List.set_cons_succ]
          refine wpAnyH_ready (rs := [1]) (by kernel_rfl) (by simp) ?_
          refine (AllReadyH.cons (o := { dst := some 80, op := Go.Op.call { callee := Go.Callee.value (Go.Operand.func 17), args := #[Go.Operand.tmp 79], argTypes := #[24] }, type := 32, pos := "law.go:51", after := #[{ on := 0, ground := Go.Ground.data }], guard := none }) rfl (fun K hK => ?_) AllReadyH.nil)
          go_simp
          refine CT.out.mono ?_
          rintro e w6 ⟨rfl, x6, a6⟩
          have FIN := box (show PE w.heap.size w w6 g b s2 ∧ R3 w6 mb (.bool false) (.int .i64 gm) (.int .i64 gy) from ⟨⟨x6, by unfold RefAt; rw [e1, e2]; exact (PT.out.same (w' := wz.drew) rfl).same (a6.block b (PT.out.same (w' := wz.drew) rfl).lt BB.out.1 (by simp)), BB.out.1, BB.out.2⟩, (M5.out.same (w' := wz.drew) rfl).same (a6.block mb (M5.out.same (w' := wz.drew) rfl).lt MG.out.1 (by simp))⟩)
          have S6 := box (show R7 w6 b (.int .i64 (s2.mine : Int)) (.int .i64 (s2.dead : Int)) (.int .i64 (pr2 : Int)) (.int .i64 (s2.seen : Int)) (.int .i64 (st2 : Int)) (.int .i64 (s2.silent : Int)) (.int .i64 (s2.changes : Int)) ∧ R7 w6 bt (.int .i64 (s.mine : Int)) (.int .i64 (s.dead : Int)) (.int .i64 (pr : Int)) (.int .i64 (s.seen : Int)) (.int .i64 (st : Int)) (.int .i64 (s.silent : Int)) (.int .i64 (s.changes : Int)) ∧ R3 w6 mb (.bool false) (.int .i64 gm) (.int .i64 gy) from ⟨(PT.out.same (w' := wz.drew) rfl).same (a6.block b (PT.out.same (w' := wz.drew) rfl).lt BB.out.1 (by simp)), (T5.out.same (w' := wz.drew) rfl).same (a6.block bt (T5.out.same (w' := wz.drew) rfl).lt NE.out.1 (by simp)), (M5.out.same (w' := wz.drew) rfl).same (a6.block mb (M5.out.same (w' := wz.drew) rfl).lt MG.out.1 (by simp))⟩)
          refine hK.out _ _ (S6.out) (fun hHeldb => ?_)
          clear hK K
          refine wpAnyH_take (i := 7) (oi := { dst := some 86, op := Go.Op.binOp Go.BinOp.neq 32 (Go.Operand.tmp 80) (Go.Operand.tmp 85) 32, type := 4, pos := "law.go:51", after := #[{ on := 1, ground := Go.Ground.data }, { on := 6, ground := Go.Ground.data }], guard := none }) (v := ?_) rfl (by kernel_rfl) (by kernel_rfl) (by kernel_rfl) (fun _ _ _ h => h) (Or.inl ⟨by rfl, ?_⟩) (by assumption) ?_
          rotate_left
          · (intro w hSw; (try dsimp only at hSw); obtain ⟨⟨a0, a1, a2, a3, a4, a5, a6, az⟩, ⟨d0, d1, d2, d3, d4, d5, d6, dz⟩, ⟨f0, f1, f2, fz⟩⟩ := hSw; go_simp; (try with_reducible rfl))
          simp only [Act.put, List.setIfInBounds_toArray, List.set_cons_zero, List.set_cons_succ]
          refine wpAnyH_done (by kernel_rfl) ?_ _
          clear PT X5 M5 T5 SD
          (try go_wp2_with fail)
          go_meet
          exact ⟨s2, hch, HO2, box FIN.out.1, box FIN.out.2⟩
      case rest =>
        clear E2 M T
        obtain ⟨s2, hch, hO2, E, M⟩ := hcut
        obtain ⟨st2, e1⟩ : ∃ st2, s2.state = st2 := ⟨_, rfl⟩
        obtain ⟨pr2, e2⟩ : ∃ pr2, s2.peer = pr2 := ⟨_, rfl⟩
        obtain ⟨ch2, e3⟩ : ∃ ch2, s2.changes = ch2 := ⟨_, rfl⟩
        have CS := box (fun n => (state_l (E.out.x.drewN n) (st2 : Int) (by omega)).mono (R' := fun e w' => e = .returned (.int .i64 (st2 : Int)) ∧ w' = wc.drewN n) fun e w' h => ⟨h.1, h.2.symm⟩)
        have CP := box (fun n => (peer_l (E.out.x.drewN n) (pr2 : Int) (by omega)).mono (R' := fun e w' => e = .returned (.int .i64 (pr2 : Int)) ∧ w' = wc.drewN n) fun e w' h => ⟨h.1, h.2.symm⟩)
        have CC := box (fun n => (changes_l (E.out.x.drewN n) (ch2 : Int) (by omega)).mono (R' := fun e w' => e = .returned (.int .i64 (ch2 : Int)) ∧ w' = wc.drewN n) fun e w' h => ⟨h.1, h.2.symm⟩)
        have CZ := box (fun n => (accepts_l (E.out.x.drewN n) 0 false (decide_eq_false (by omega))).mono (R' := fun e w' => e = .returned (.bool false) ∧ w' = wc.drewN n) fun e w' h => ⟨h.1, h.2.symm⟩)
        obtain ⟨p0, p1, p2, pz⟩ := M.out
        have RR := E.out.r
        unfold RefAt at RR
        rw [e1, e2, e3] at RR
        obtain ⟨r0, r1, r2, r3, r4, r5, r6, rz⟩ := RR
        have EQ := box (fun n => show PE w.heap.size w (wc.drewN n) g b s2 from ⟨E.out.x.drewN n, E.out.r.same rfl, E.out.ne, E.out.bb⟩)
        by_cases hp : pr2 = 0
        · have CA := box (fun n => (accepts_l (E.out.x.drewN n) gm false (decide_eq_false (by omega))).mono (R' := fun e w' => e = .returned (.bool false) ∧ w' = wc.drewN n) fun e w' h => ⟨h.1, h.2.symm⟩)
          have hp1 : ((0 : Int) < (pr2 : Int)) = False := by simp; omega
          have hp2 : (0 < pr2) = False := by simp; omega
          clear hp
          clear E e1 e2 e3
          go_upto_region 22 with fail
          go_quiet ((first | (go_at_call 18; exact Calls.quiet_of_same (CS.out _)) | (go_at_call 19; exact Calls.quiet_of_same (CP.out _)) | (go_at_call 20; exact Calls.quiet_of_same (CC.out _)) | (go_at_call_of 21 gm; exact Calls.quiet_of_same (CA.out _)) | (go_at_call 21; exact Calls.quiet_of_same (CZ.out _))))
          replace EQ := box (EQ.out nq)
          generalize wc.drewN nq = wq at EQ ⊢
          clear CS CP CC CZ CA p0 p1 p2 pz r0 r1 r2 r3 r4 r5 r6 rz
          go_wp2_with fail
          go_roundw
          case rel => exact ⟨j + 1, s2, by omega, by go_num, hch, hO2, EQ⟩
          case measure => simp [intOf]; omega
        · have hp1 : ((0 : Int) < (pr2 : Int)) := by omega
          have hp2 : (0 < pr2) := by omega
          by_cases hg : gm = (pr2 : Int)
          · have CA := box (fun n => (accepts_l (E.out.x.drewN n) gm true (decide_eq_true (by omega))).mono (R' := fun e w' => e = .returned (.bool true) ∧ w' = wc.drewN n) fun e w' h => ⟨h.1, h.2.symm⟩)
            have hg2 : (gm == (pr2 : Int)) = true := by simp; omega
            clear hp hg
            clear E e1 e2 e3
            go_upto_region 22 with fail
            go_quiet ((first | (go_at_call 18; exact Calls.quiet_of_same (CS.out _)) | (go_at_call 19; exact Calls.quiet_of_same (CP.out _)) | (go_at_call 20; exact Calls.quiet_of_same (CC.out _)) | (go_at_call_of 21 gm; exact Calls.quiet_of_same (CA.out _)) | (go_at_call 21; exact Calls.quiet_of_same (CZ.out _))))
            replace EQ := box (EQ.out nq)
            generalize wc.drewN nq = wq at EQ ⊢
            clear CS CP CC CZ CA p0 p1 p2 pz r0 r1 r2 r3 r4 r5 r6 rz
            go_wp2_with fail
            go_roundw
            case rel => exact ⟨j + 1, s2, by omega, by go_num, hch, hO2, EQ⟩
            case measure => simp [intOf]; omega
          · have CA := box (fun n => (accepts_l (E.out.x.drewN n) gm false (decide_eq_false (by omega))).mono (R' := fun e w' => e = .returned (.bool false) ∧ w' = wc.drewN n) fun e w' h => ⟨h.1, h.2.symm⟩)
            have hg2 : (gm == (pr2 : Int)) = false := by simp; omega
            clear hp
            clear E e1 e2 e3
            go_upto_region 22 with fail
            go_quiet ((first | (go_at_call 18; exact Calls.quiet_of_same (CS.out _)) | (go_at_call 19; exact Calls.quiet_of_same (CP.out _)) | (go_at_call 20; exact Calls.quiet_of_same (CC.out _)) | (go_at_call_of 21 gm; exact Calls.quiet_of_same (CA.out _)) | (go_at_call 21; exact Calls.quiet_of_same (CZ.out _))))
            replace EQ := box (EQ.out nq)
            generalize wc.drewN nq = wq at EQ ⊢
            clear CS CP CC CZ CA p0 p1 p2 pz r0 r1 r2 r3 r4 r5 r6 rz
            go_wp2_with fail
            go_roundw
            case rel => exact ⟨j + 1, s2, by omega, by go_num, hch, hO2, EQ⟩
            case measure => simp [intOf]; omega
    · obtain rfl : j = m := by omega
      go_wp2_with fail
      go_ret
      exact ⟨rfl, hX.out.x.bel⟩
end Go.Proofs.Ytflaclocakbkgaa
