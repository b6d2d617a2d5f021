/- CreditClasses: its walk. -/
import Derived.Test.YtoolphpideicoaaCreO
import Derived.LoopN
namespace Go.Proofs.Ytoolphpideicoaa
open Go.RowKit

theorem and1 (cl : Int) : bits .and .i64 cl 1 = 0 ∨ bits .and .i64 cl 1 = 1 := by
  have hb : bits .and .i64 cl 1 = IntKind.i64.wrap ((BitVec.ofInt 64 cl &&& BitVec.ofInt 64 1).toNat : Int) := rfl
  have e : (BitVec.ofInt 64 cl &&& BitVec.ofInt 64 1).toNat = (BitVec.ofInt 64 cl).toNat % 2 := by rw [BitVec.toNat_and]; exact Nat.and_one_is_mod _
  rw [hb, e, IntKind.wrap_i64]
  omega
/-- A giver of two classes and two of one. -/
structure CE (B : Nat) (w0 w : World) (g h : Nat) (c0 c1 : Gc) (ob g0 h0 g1 h1 : Nat) : Prop where
  xb : GvAt w g h [c0, c1]
  x0 : GvAt w g0 h0 [c0]
  x1 : GvAt w g1 h1 [c1]
  o0 : w.cell? ⟨ob, 0, none⟩ = some (.pointer (some ⟨g0, 0, none⟩))
  o1 : w.cell? ⟨ob, 1, none⟩ = some (.pointer (some ⟨g1, 0, none⟩))
  bel : Below B w0 w
  sz : B ≤ w.heap.size
  bh : B ≤ h
  b0 : B ≤ h0
  b1 : B ≤ h1
  d : g < ob ∧ h < ob ∧ ob < g0 ∧ ob < h0 ∧ g0 < g1 ∧ g0 < h1 ∧ h0 < g1 ∧ h0 < h1
section
variable {B : Nat} {w0 w w' : World} {g h ob g0 h0 g1 h1 : Nat} {c0 c1 c' : Gc}
theorem CE.ol (x : CE B w0 w g h c0 c1 ob g0 h0 g1 h1) : ob < w.heap.size := World.block_lt_of_cell? w ⟨ob, 0, none⟩ x.o0
theorem CE.keep (x : CE B w0 w g h c0 c1 ob g0 h0 g1 h1) (hb : Below w.heap.size w w') : CE B w0 w' g h c0 c1 ob g0 h0 g1 h1 :=
  ⟨x.xb.keep hb, x.x0.keep hb, x.x1.keep hb, keepc hb x.o0, keepc hb x.o1, x.bel.trans (hb.mono x.sz), Nat.le_trans x.sz hb.size, x.bh, x.b0, x.b1, x.d⟩
theorem CE.step0 {w1 : World} (x : CE B w0 w g h c0 c1 ob g0 h0 g1 h1) (xb : GvAt w1 g h ([c0, c1].set 0 c')) (a : Apart h none w w1) (y : GvAt w' g0 h0 ([c0].set 0 c')) (a2 : Apart h0 none w1 w') : CE B w0 w' g h c' c1 ob g0 h0 g1 h1 := by
  obtain ⟨d1, d2, d3, d4, d5, d6, d7, d8⟩ := x.d
  have k1 := a.below x.bel x.sz x.bh (fun k hk => by cases hk)
  have e1 := a.block ob x.ol (by omega) (by simp)
  have e2 := a2.block ob (Nat.lt_of_lt_of_le x.ol a.size) (by omega) (by simp)
  exact ⟨GvAt.apart (l := [c', c1]) xb a2 (by omega) (by omega), y, (x.x1.apart a (by omega) (by omega)).apart a2 (by omega) (by omega), ((World.cell?_of_block (a := ⟨ob, 0, none⟩) (e2.trans e1))).trans x.o0, ((World.cell?_of_block (a := ⟨ob, 1, none⟩) (e2.trans e1))).trans x.o1, a2.below k1 (Nat.le_trans x.sz a.size) x.b0 (fun k hk => by cases hk), Nat.le_trans x.sz (Nat.le_trans a.size a2.size), x.bh, x.b0, x.b1, x.d⟩
theorem CE.step1 {w1 : World} (x : CE B w0 w g h c0 c1 ob g0 h0 g1 h1) (xb : GvAt w1 g h ([c0, c1].set 1 c')) (a : Apart h none w w1) (y : GvAt w' g1 h1 ([c1].set 0 c')) (a2 : Apart h1 none w1 w') : CE B w0 w' g h c0 c' ob g0 h0 g1 h1 := by
  obtain ⟨d1, d2, d3, d4, d5, d6, d7, d8⟩ := x.d
  have k1 := a.below x.bel x.sz x.bh (fun k hk => by cases hk)
  have e1 := a.block ob x.ol (by omega) (by simp)
  have e2 := a2.block ob (Nat.lt_of_lt_of_le x.ol a.size) (by omega) (by simp)
  exact ⟨GvAt.apart (l := [c0, c']) xb a2 (by omega) (by omega), (x.x0.apart a (by omega) (by omega)).apart a2 (by omega) (by omega), y, ((World.cell?_of_block (a := ⟨ob, 0, none⟩) (e2.trans e1))).trans x.o0, ((World.cell?_of_block (a := ⟨ob, 1, none⟩) (e2.trans e1))).trans x.o1, a2.below k1 (Nat.le_trans x.sz a.size) x.b1 (fun k hk => by cases hk), Nat.le_trans x.sz (Nat.le_trans a.size a2.size), x.bh, x.b0, x.b1, x.d⟩
theorem CE.one0 (x : CE B w0 w g h c0 c1 ob g0 h0 g1 h1) {w1 : World} (a : Apart h none w w1) : GvAt w1 g0 h0 [c0] := by
  obtain ⟨d1, d2, d3, d4, d5, d6, d7, d8⟩ := x.d
  exact x.x0.apart a (by omega) (by omega)
theorem CE.one1 (x : CE B w0 w g h c0 c1 ob g0 h0 g1 h1) {w1 : World} (a : Apart h none w w1) : GvAt w1 g1 h1 [c1] := by
  obtain ⟨d1, d2, d3, d4, d5, d6, d7, d8⟩ := x.d
  exact x.x1.apart a (by omega) (by omega)
end
theorem newg_ok (a : Option Addr) (n c : Nat) (zs : List Int) (hn : zs.length = n) (w : World) (hi : Ints w a zs) (hbig : n ≤ 1000000) (hok : okRooms zs = true) :
    Calls Try.prog 12 #[.slice a n c] w fun e w' => ∃ g h, e = .returned (.tuple #[.pointer (some ⟨g, 0, none⟩), .int .i64 0]) ∧ GvAt w' g h (zs.map gc0) ∧ w.heap.size ≤ g ∧ w.heap.size ≤ h ∧ Below w.heap.size w w' := by
  refine (newg_any a n c zs hn w hi hbig).mono ?_
  rintro e w' (⟨-, h⟩ | ⟨hb, -⟩)
  · exact h
  · rw [hok] at hb; cases hb

set_option maxRecDepth 100000 in
set_option maxHeartbeats 4000000 in
theorem classes_any (y0 y1 : Nat) (hy0 : y0 < 256) (hy1 : y1 < 256) (a : Option Addr) (m cp : Nat) (xs : List Act') (hm : xs.length = m) (w : World) (hin : Acts w a xs) :
    Calls Try.prog 10 #[nU8 y0, nU8 y1, .slice a m cp] w fun e w' => e = .returned (.bool true) ∧ Below w.heap.size w w' := by
  obtain ⟨n0, hn0⟩ : ∃ n0, 1 + y0 % 8 = n0 := ⟨_, rfl⟩
  have hn2 : 1 + (y0 : Int) % 8 = (n0 : Int) := by omega
  have hn3 : 1 ≤ n0 ∧ n0 ≤ 8 := by omega
  obtain ⟨n1, hn1⟩ : ∃ n1, 1 + y1 % 8 = n1 := ⟨_, rfl⟩
  have hm2 : 1 + (y1 : Int) % 8 = (n1 : Int) := by omega
  have hm3 : 1 ≤ n1 ∧ n1 ≤ 8 := by omega
  clear hn0 hn1
  have AW := box (awake_any w)
  have HI := box hin
  have HM := box hm
  clear hin hm
  go_enter Try.func10, Try.ntmps10
  go_wp2_with fail
  refine AW.out.mono ?_
  rintro e w1 ⟨rfl, b1⟩
  have B1 := box b1
  clear AW b1
  by_cases h40 : 40 < m
  · go_wp2_with fail
    go_ret
    exact ⟨rfl, B1.out⟩
  · have kA : Below w1.heap.size w1 (w1.alloc (.cells #[.int .i64 (n0 : Int), .int .i64 (n1 : Int)] 3)) := (Below.refl _ _).alloc (Nat.le_refl _) _
    have RR := box (R2.new w1 (.int .i64 (n0 : Int)) (.int .i64 (n1 : Int)) 3 w1.heap.size rfl)
    have BA := box (B1.out.trans (kA.mono B1.out.size))
    obtain ⟨rb, hrb⟩ : ∃ rb, w1.heap.size = rb := ⟨_, rfl⟩
    have HRB := box hrb
    rw [hrb] at RR
    clear hrb kA
    go_upto_region 6 with fail
    (try simp only [hn2, hm2])
    (try simp only [HRB.out])
    generalize w1.alloc (.cells #[.int .i64 (n0 : Int), .int .i64 (n1 : Int)] 3) = wa at RR BA ⊢
    have NG := box (newg_ok (some ⟨rb, 0, none⟩) 2 2 [(n0 : Int), (n1 : Int)] rfl wa (.inr ⟨rb, 0, rfl, fun j hj => by
      match j, hj with
      | 0, _ => exact RR.out.q0
      | 1, _ => exact RR.out.q1⟩) (by omega) (okRooms_iff.2 ⟨by simp, by simp, fun z hz => by simp at hz; omega⟩))
    go_wp2_with fail
    refine NG.out.mono ?_
    rintro e w2 ⟨g, h, rfl, xb, hg, hh, b2⟩
    have XB0 := box (show GvAt w2 g h [⟨n0, 0, 0⟩, ⟨n1, 0, 0⟩] from xb)
    have B2 := box (BA.out.trans (b2.mono BA.out.size))
    have R2' := box (RR.out.keep b2)
    have H2 := box (show w.heap.size ≤ h from Nat.le_trans BA.out.size hh)
    clear NG xb hg hh b2 RR BA
    have kO : Below w2.heap.size w2 (w2.alloc (.cells #[.pointer none, .pointer none] 62)) := (Below.refl _ _).alloc (Nat.le_refl _) _
    have OO := box (R2.new w2 (.pointer none) (.pointer none) 62 w2.heap.size rfl)
    have B3 := box (B2.out.trans (kO.mono B2.out.size))
    have R3' := box (R2'.out.keep kO)
    have XB3 := box (XB0.out.keep kO)
    have DG := box (show g < w2.heap.size ∧ h < w2.heap.size ∧ rb < w2.heap.size ∧ w.heap.size ≤ w2.heap.size from ⟨XB0.out.glt, XB0.out.lt, R2'.out.lt, B2.out.size⟩)
    obtain ⟨ob, hob⟩ : ∃ ob, w2.heap.size = ob := ⟨_, rfl⟩
    have HOB := box hob
    rw [hob] at OO DG
    clear kO XB0 B2 R2' hob
    go_upto_region 8 with fail
    (try simp only [HOB.out])
    generalize w2.alloc (.cells #[.pointer none, .pointer none] 62) = wo at OO B3 R3' XB3 ⊢
    go_wp2_with fail
    obtain ⟨p0, p1, pz⟩ := OO.out
    obtain ⟨q0, q1, qz⟩ := R3'.out
    have N0 := box (newg_ok (some ⟨rb, 0, none⟩) 1 2 [(n0 : Int)] rfl wo (.inr ⟨rb, 0, rfl, fun j hj => by
      obtain rfl : j = 0 := by simpa using hj
      exact R3'.out.q0⟩) (by omega) (okRooms_iff.2 ⟨by simp, by simp, fun z hz => by simp at hz; omega⟩))
    refine wp_loop_rounds 3 ?_
    rw [rounds_succ]
    go_wp2_with fail
    refine N0.out.mono ?_
    rintro e w4 ⟨g0, h0, rfl, xg0, hg0, hh0, b4⟩
    have X0 := box (show GvAt w4 g0 h0 [⟨n0, 0, 0⟩] from xg0)
    have O4 := box (OO.out.keep b4)
    have R4 := box (R3'.out.keep b4)
    have XB4 := box (XB3.out.keep b4)
    have B4 := box (B3.out.trans (b4.mono B3.out.size))
    have D4 := box (show ob < g0 ∧ ob < h0 ∧ w.heap.size ≤ h0 from ⟨by have := OO.out.lt; omega, by have := OO.out.lt; omega, Nat.le_trans B3.out.size hh0⟩)
    clear N0 xg0 hg0 hh0 b4 p0 p1 pz q0 q1 qz OO R3' XB3 B3
    obtain ⟨p0, p1, pz⟩ := O4.out
    obtain ⟨q0, q1, qz⟩ := R4.out
    have O5 := box (O4.out.set0 (.pointer (some ⟨g0, 0, none⟩)))
    have A5 : Apart ob none w4 (w4.setCell ⟨ob, 0, none⟩ (.pointer (some ⟨g0, 0, none⟩))) := (Apart.refl _ _ _).setCell 0 _
    have R5 := box (R4.out.same (w' := w4.setCell ⟨ob, 0, none⟩ (.pointer (some ⟨g0, 0, none⟩))) (A5.block rb R4.out.lt (by have := DG.out.2.2.1; omega) (by simp)))
    have XB5 := box (XB4.out.apart A5 (by have := DG.out.1; omega) (by have := DG.out.2.1; omega))
    have X05 := box (X0.out.apart A5 (by have := D4.out.1; omega) (by have := D4.out.2.1; omega))
    have B5 := box (A5.below B4.out B4.out.size DG.out.2.2.2 (fun k hk => by cases hk))
    have S5 := box (show w4.heap.size ≤ (w4.setCell ⟨ob, 0, none⟩ (.pointer (some ⟨g0, 0, none⟩))).heap.size ∧ g0 < w4.heap.size ∧ h0 < w4.heap.size from ⟨A5.size, X0.out.glt, X0.out.lt⟩)
    clear A5
    go_upto_region 12 with fail
    generalize w4.setCell ⟨ob, 0, none⟩ (.pointer (some ⟨g0, 0, none⟩)) = w5 at O5 R5 XB5 X05 B5 S5 ⊢
    clear p0 p1 pz q0 q1 qz O4 R4 XB4 B4 X0
    obtain ⟨p0, p1, pz⟩ := O5.out
    obtain ⟨q0, q1, qz⟩ := R5.out
    have N1 := box (newg_ok (some ⟨rb, 1, none⟩) 1 1 [(n1 : Int)] rfl w5 (.inr ⟨rb, 1, rfl, fun j hj => by
      obtain rfl : j = 0 := by simpa using hj
      exact R5.out.q1⟩) (by omega) (okRooms_iff.2 ⟨by simp, by simp, fun z hz => by simp at hz; omega⟩))
    go_wp2_with fail
    (try rw [rounds_succ])
    (try go_wp2_with fail)
    refine N1.out.mono ?_
    rintro e w6 ⟨g1, h1, rfl, xg1, hg1, hh1, b6⟩
    have X1 := box (show GvAt w6 g1 h1 [⟨n1, 0, 0⟩] from xg1)
    have O6 := box (O5.out.keep b6)
    have XB6 := box (XB5.out.keep b6)
    have X06 := box (X05.out.keep b6)
    have B6 := box (B5.out.trans (b6.mono B5.out.size))
    have D6 := box (show g0 < g1 ∧ g0 < h1 ∧ h0 < g1 ∧ h0 < h1 ∧ w.heap.size ≤ h1 ∧ ob < g1 ∧ ob < h1 from by
      have := S5.out; have := D4.out; have := B5.out.size
      exact ⟨by omega, by omega, by omega, by omega, by omega, by omega, by omega⟩)
    clear N1 xg1 hg1 hh1 b6 p0 p1 pz q0 q1 qz O5 R5 XB5 B5 X05 S5
    obtain ⟨p0, p1, pz⟩ := O6.out
    have A7 : Apart ob none w6 (w6.setCell ⟨ob, 1, none⟩ (.pointer (some ⟨g1, 0, none⟩))) := (Apart.refl _ _ _).setCell 1 _
    have O7 := O6.out.set1 (.pointer (some ⟨g1, 0, none⟩))
    have E0 := box (show CE w.heap.size w (w6.setCell ⟨ob, 1, none⟩ (.pointer (some ⟨g1, 0, none⟩))) g h ⟨n0, 0, 0⟩ ⟨n1, 0, 0⟩ ob g0 h0 g1 h1 from
      ⟨XB6.out.apart A7 (by have := DG.out.1; omega) (by have := DG.out.2.1; omega), X06.out.apart A7 (by have := D4.out.1; omega) (by have := D4.out.2.1; omega), X1.out.apart A7 (by have := D6.out; omega) (by have := D6.out; omega), O7.q0, O7.q1, A7.below B6.out B6.out.size DG.out.2.2.2 (fun k hk => by cases hk), Nat.le_trans B6.out.size A7.size, H2.out, D4.out.2.2, D6.out.2.2.2.2.1, ⟨DG.out.1, DG.out.2.1, D4.out.1, D4.out.2.1, D6.out.1, D6.out.2.1, D6.out.2.2.1, D6.out.2.2.2.1⟩⟩)
    clear A7 O7
    go_upto_region 12 with fail
    generalize w6.setCell ⟨ob, 1, none⟩ (.pointer (some ⟨g1, 0, none⟩)) = w7 at E0 ⊢
    clear p0 p1 pz O6 XB6 X06 B6 X1 D6 D4 H2
    have P0 := E0.out.o0
    have P1 := E0.out.o1
    go_wp2_with fail
    (try rw [rounds_succ])
    (try go_wp2_with fail)
    have OKS := box (show (⟨n0, 0, 0⟩ : Gc).Ok ∧ (⟨n1, 0, 0⟩ : Gc).Ok from ⟨⟨by show 1 ≤ n0; omega, by show n0 ≤ 64; omega, Nat.le_refl _, Nat.zero_le _, Nat.zero_le _⟩, ⟨by show 1 ≤ n1; omega, by show n1 ≤ 64; omega, Nat.le_refl _, Nat.zero_le _, Nat.zero_le _⟩⟩)
    clear P0 P1 DG B1
    go_loopw [72] (fun t72 wr => ∃ (j : Nat) (c0 c1 : Gc), j ≤ m ∧ t72 = .int .i64 j ∧ Box (c0.Ok ∧ c1.Ok) ∧ Box (CE w.heap.size w wr g h c0 c1 ob g0 h0 g1 h1)) (fun t72 _ => m - (intOf t72).toNat)
    case atStart => exact ⟨0, _, _, by omega, rfl, OKS, E0⟩
    case round =>
      clear E0 OKS
      obtain ⟨j, c0, c1, hj, rfl, hO, hE⟩ := hrel
      by_cases hjm : j < m
      · obtain ⟨ga, oa, rfl, d0, d1, d2⟩ := acts_at HI.out (show j < xs.length by rw [HM.out]; exact hjm)
        replace d0 := keepc hE.out.bel d0
        replace d1 := keepc hE.out.bel d1
        replace d2 := keepc hE.out.bel d2
        obtain ⟨kd, hkd⟩ : ∃ kd, (xs[j]'(by rw [HM.out]; exact hjm)).kind = kd := ⟨_, rfl⟩
        obtain ⟨cl, hcl⟩ : ∃ cl, (xs[j]'(by rw [HM.out]; exact hjm)).cls = cl := ⟨_, rfl⟩
        obtain ⟨nm, hnm⟩ : ∃ nm, (xs[j]'(by rw [HM.out]; exact hjm)).num = nm := ⟨_, rfl⟩
        rw [hkd] at d0
        rw [hcl] at d1
        rw [hnm] at d2
        clear hkd hcl hnm
        have kA : Below wr.heap.size wr (wr.alloc (.cells #[.int .i64 kd, .int .i64 cl, .int .i64 nm] 43)) := (Below.refl _ _).alloc (Nat.le_refl _) _
        have E1 := box (hE.out.keep kA)
        have X1 := box (R3.new wr (.int .i64 kd) (.int .i64 cl) (.int .i64 nm) 43 wr.heap.size rfl)
        have XB := box (show wr.heap.size ≠ h ∧ wr.heap.size ≠ h0 ∧ wr.heap.size ≠ h1 from ⟨by have := hE.out.xb.lt; omega, by have := hE.out.x0.lt; omega, by have := hE.out.x1.lt; omega⟩)
        obtain ⟨mm, hmm⟩ : ∃ mm, wr.heap.size = mm := ⟨_, rfl⟩
        have HMM := box hmm
        rw [hmm] at X1 XB
        clear kA hE
        go_upto_region 18 with fail
        (try simp only [HMM.out])
        generalize wr.alloc (.cells #[.int .i64 kd, .int .i64 cl, .int .i64 nm] 43) = wb at E1 X1 ⊢
        clear d0 d1 d2 hmm
        obtain ⟨p0, p1, p2, pz⟩ := X1.out
        go_upto_block 4 with fail
        have A1 := box (and1 cl)
        generalize bits .and .i64 cl 1 = ck at A1 ⊢
        go_cut [14] (fun _ wx => ∃ (c0 c1 : Gc), Box (c0.Ok ∧ c1.Ok) ∧ Box (CE w.heap.size w wx g h c0 c1 ob g0 h0 g1 h1))
        case first =>
          rcases A1.out with rfl | rfl
          · by_cases k0 : kd = 0
            · subst k0
              obtain ⟨wc, hwc⟩ : ∃ wc, wb = wc := ⟨_, rfl⟩
              rw [hwc] at E1 X1 p0 p1 p2 ⊢
              clear hwc pz
              have C1 := fun (w5 : World) (x : GvAt w5 g h [c0, c1]) => box (receive_any 0 0 rfl g h [c0, c1] w5 x c0 rfl hO.out.1)
              have C2 := fun (w5 : World) (x : GvAt w5 g0 h0 [c0]) => box (receive_any 0 0 rfl g0 h0 [c0] w5 x c0 rfl hO.out.1)
              have NO := box (show (c0.recvC).Ok from hO.out.1.recv)
              obtain ⟨EE, hEE⟩ : ∃ EE, c0.recvE = EE := ⟨_, rfl⟩
              rw [hEE] at C1 C2
              clear hEE
              go_upto_region 21 with fail
              have d0 : Below wc.heap.size wc wc.drew := ⟨rfl, rfl, rfl, Nat.le_refl _, fun _ _ => rfl⟩
              have E2 := box (E1.out.keep d0)
              have od := E2.out.o0
              refine wp_region_held_drew (S := (fun w' => w'.cell? ⟨ob, 0, none⟩ = some (.pointer (some ⟨g0, 0, none⟩)))) (by kernel_rfl) (od) (fun hHeld => ?_)
              refine wpAnyH_take (i := 0) (oi := { dst := some 83, op := Go.Op.move (Go.Operand.tmp 8), type := 24, pos := "law.go:317", after := #[], guard := none }) (v := ?_) rfl (by kernel_rfl) (by kernel_rfl) (by kernel_rfl) (fun _ _ _ h => h) (Or.inl ⟨by rfl, ?_⟩) (by assumption) ?_
              rotate_left
              · (intro w hSw; (try dsimp only at hSw); go_simp; (try with_reducible rfl))
              simp only [Act.put, List.setIfInBounds_toArray, List.set_cons_zero, List.set_cons_succ]
              refine wpAnyH_take (i := 1) (oi := { dst := some 84, op := Go.Op.move (Go.Operand.tmp 14), type := 3, pos := "law.go:317", after := #[], guard := none }) (v := ?_) rfl (by kernel_rfl) (by kernel_rfl) (by kernel_rfl) (fun _ _ _ h => h) (Or.inl ⟨by rfl, ?_⟩) (by assumption) ?_
              rotate_left
              · (intro w hSw; (try dsimp only at hSw); go_simp; (try with_reducible rfl))
              simp only [Act.put, List.setIfInBounds_toArray, List.set_cons_zero, List.set_cons_succ]
              refine wpAnyH_take (i := 3) (oi := { dst := some 86, op := Go.Op.move (Go.Operand.tmp 14), type := 3, pos := "law.go:317", after := #[], guard := none }) (v := ?_) rfl (by kernel_rfl) (by kernel_rfl) (by kernel_rfl) (fun _ _ _ h => h) (Or.inl ⟨by rfl, ?_⟩) (by assumption) ?_
              rotate_left
              · (intro w hSw; (try dsimp only at hSw); go_simp; (try with_reducible rfl))
              simp only [Act.put, List.setIfInBounds_toArray, List.set_cons_zero, List.set_cons_succ]
              refine wpAnyH_take (i := 4) (oi := { dst := some 87, op := Go.Op.indexAddr 62 (Go.Operand.tmp 10) (Go.Operand.tmp 86), type := 0, pos := "law.go:317", after := #[{ on := 3, ground := Go.Ground.data }], guard := none }) (v := ?_) rfl (by kernel_rfl) (by kernel_rfl) (by kernel_rfl) (fun _ _ _ h => h) (Or.inl ⟨by rfl, ?_⟩) (by assumption) ?_
              rotate_left
              · (intro w hSw; (try dsimp only at hSw); go_simp; (try with_reducible rfl))
              simp only [Act.put, List.setIfInBounds_toArray, List.set_cons_zero, List.set_cons_succ]
              refine wpAnyH_take (i := 5) (oi := { dst := some 88, op := Go.Op.load 24 (Go.Operand.tmp 87), type := 24, pos := "law.go:317", after := #[{ on := 4, ground := Go.Ground.data }], guard := none }) (v := ?_) rfl (by kernel_rfl) (by kernel_rfl) (by kernel_rfl) (fun _ _ _ h => h) (Or.inl ⟨by rfl, ?_⟩) (by assumption) ?_
              rotate_left
              · (intro w hSw; (try dsimp only at hSw); go_simp; (try with_reducible rfl))
              simp only [Act.put, List.setIfInBounds_toArray, List.set_cons_zero, List.set_cons_succ]
              refine wpAnyH_ready (rs := [2]) (by kernel_rfl) (by simp) ?_
              refine (AllReadyH.cons (o := { dst := some 85, op := Go.Op.call { callee := Go.Callee.value (Go.Operand.func 20), args := #[Go.Operand.tmp 83, Go.Operand.tmp 84], argTypes := #[24, 3] }, type := 25, pos := "law.go:317", after := #[{ on := 0, ground := Go.Ground.data }, { on := 1, ground := Go.Ground.data }], guard := none }) rfl (fun K hK => ?_) AllReadyH.nil)
              go_simp
              refine (C1 _ E2.out.xb).out.mono ?_
              rintro e w5 ⟨rfl, x5, a5⟩
              have e5 := (World.cell?_of_block (a := ⟨ob, 0, none⟩) (a5.block ob E2.out.ol (by have := E2.out.d; omega) (by simp))).trans od
              refine hK.out _ _ (e5) (fun hHelda => ?_)
              clear hK K
              refine wpAnyH_ready (rs := [6]) (by kernel_rfl) (by simp) ?_
              refine (AllReadyH.cons (o := { dst := some 89, op := Go.Op.call { callee := Go.Callee.value (Go.Operand.func 20), args := #[Go.Operand.tmp 88, Go.Operand.const (Go.Value.int Go.IntKind.i64 0)], argTypes := #[24, 3] }, type := 25, pos := "law.go:317", after := #[{ on := 5, ground := Go.Ground.data }, { on := 2, ground := Go.Ground.chain }], guard := none }) rfl (fun K hK => ?_) AllReadyH.nil)
              go_simp
              refine (C2 _ (E2.out.one0 a5)).out.mono ?_
              rintro e w6 ⟨rfl, x6, a6⟩
              have e6 := (World.cell?_of_block (a := ⟨ob, 0, none⟩) (a6.block ob (Nat.lt_of_lt_of_le E2.out.ol a5.size) (by have := E2.out.d; omega) (by simp))).trans e5
              refine hK.out _ _ (e6) (fun hHeldb => ?_)
              clear hK K
              refine wpAnyH_take (i := 7) (oi := { dst := some 90, op := Go.Op.binOp Go.BinOp.neq 25 (Go.Operand.tmp 85) (Go.Operand.tmp 89) 25, type := 4, pos := "law.go:317", after := #[{ on := 2, ground := Go.Ground.data }, { on := 6, ground := Go.Ground.data }], guard := none }) (v := ?_) rfl (by kernel_rfl) (by kernel_rfl) (by kernel_rfl) (fun _ _ _ h => h) (Or.inl ⟨by rfl, ?_⟩) (by assumption) ?_
              rotate_left
              · (intro w hSw; (try dsimp only at hSw); go_simp; (try with_reducible rfl))
              simp only [Act.put, List.setIfInBounds_toArray, List.set_cons_zero, List.set_cons_succ]
              refine wpAnyH_done (by kernel_rfl) ?_ _
              have FIN := box (show ∃ (c0 c1 : Gc), Box (c0.Ok ∧ c1.Ok) ∧ Box (CE w.heap.size w w6 g h c0 c1 ob g0 h0 g1 h1) from ⟨c0.recvC, c1, box ⟨NO.out, hO.out.2⟩, box (E2.out.step0 x5 a5 x6 a6)⟩)
              (try go_wp2_with fail)
              go_meet
              exact FIN.out
            · by_cases k1 : kd = 1
              · subst k1
                obtain ⟨wc, hwc⟩ : ∃ wc, wb = wc := ⟨_, rfl⟩
                rw [hwc] at E1 X1 p0 p1 p2 ⊢
                clear hwc pz
                have C1 := fun (w5 : World) (x : GvAt w5 g h [c0, c1]) => box (free_any 0 0 rfl g h [c0, c1] w5 x c0 rfl hO.out.1)
                have C2 := fun (w5 : World) (x : GvAt w5 g0 h0 [c0]) => box (free_any 0 0 rfl g0 h0 [c0] w5 x c0 rfl hO.out.1)
                have NO := box (show (c0.freeC).Ok from hO.out.1.free)
                obtain ⟨EE, hEE⟩ : ∃ EE, c0.freeE = EE := ⟨_, rfl⟩
                rw [hEE] at C1 C2
                clear hEE
                go_upto_region 24 with fail
                have d0 : Below wc.heap.size wc wc.drew := ⟨rfl, rfl, rfl, Nat.le_refl _, fun _ _ => rfl⟩
                have E2 := box (E1.out.keep d0)
                have od := E2.out.o0
                refine wp_region_held_drew (S := (fun w' => w'.cell? ⟨ob, 0, none⟩ = some (.pointer (some ⟨g0, 0, none⟩)))) (by kernel_rfl) (od) (fun hHeld => ?_)
                refine wpAnyH_take (i := 0) (oi := { dst := some 93, op := Go.Op.move (Go.Operand.tmp 8), type := 24, pos := "law.go:321", after := #[], guard := none }) (v := ?_) rfl (by kernel_rfl) (by kernel_rfl) (by kernel_rfl) (fun _ _ _ h => h) (Or.inl ⟨by rfl, ?_⟩) (by assumption) ?_
                rotate_left
                · (intro w hSw; (try dsimp only at hSw); go_simp; (try with_reducible rfl))
                simp only [Act.put, List.setIfInBounds_toArray, List.set_cons_zero, List.set_cons_succ]
                refine wpAnyH_take (i := 1) (oi := { dst := some 94, op := Go.Op.move (Go.Operand.tmp 14), type := 3, pos := "law.go:321", after := #[], guard := none }) (v := ?_) rfl (by kernel_rfl) (by kernel_rfl) (by kernel_rfl) (fun _ _ _ h => h) (Or.inl ⟨by rfl, ?_⟩) (by assumption) ?_
                rotate_left
                · (intro w hSw; (try dsimp only at hSw); go_simp; (try with_reducible rfl))
                simp only [Act.put, List.setIfInBounds_toArray, List.set_cons_zero, List.set_cons_succ]
                refine wpAnyH_take (i := 3) (oi := { dst := some 96, op := Go.Op.move (Go.Operand.tmp 14), type := 3, pos := "law.go:321", after := #[], guard := none }) (v := ?_) rfl (by kernel_rfl) (by kernel_rfl) (by kernel_rfl) (fun _ _ _ h => h) (Or.inl ⟨by rfl, ?_⟩) (by assumption) ?_
                rotate_left
                · (intro w hSw; (try dsimp only at hSw); go_simp; (try with_reducible rfl))
                simp only [Act.put, List.setIfInBounds_toArray, List.set_cons_zero, List.set_cons_succ]
                refine wpAnyH_take (i := 4) (oi := { dst := some 97, op := Go.Op.indexAddr 62 (Go.Operand.tmp 10) (Go.Operand.tmp 96), type := 0, pos := "law.go:321", after := #[{ on := 3, ground := Go.Ground.data }], guard := none }) (v := ?_) rfl (by kernel_rfl) (by kernel_rfl) (by kernel_rfl) (fun _ _ _ h => h) (Or.inl ⟨by rfl, ?_⟩) (by assumption) ?_
                rotate_left
                · (intro w hSw; (try dsimp only at hSw); go_simp; (try with_reducible rfl))
                simp only [Act.put, List.setIfInBounds_toArray, List.set_cons_zero, List.set_cons_succ]
                refine wpAnyH_take (i := 5) (oi := { dst := some 98, op := Go.Op.load 24 (Go.Operand.tmp 97), type := 24, pos := "law.go:321", after := #[{ on := 4, ground := Go.Ground.data }], guard := none }) (v := ?_) rfl (by kernel_rfl) (by kernel_rfl) (by kernel_rfl) (fun _ _ _ h => h) (Or.inl ⟨by rfl, ?_⟩) (by assumption) ?_
                rotate_left
                · (intro w hSw; (try dsimp only at hSw); go_simp; (try with_reducible rfl))
                simp only [Act.put, List.setIfInBounds_toArray, List.set_cons_zero, List.set_cons_succ]
                refine wpAnyH_ready (rs := [2]) (by kernel_rfl) (by simp) ?_
                refine (AllReadyH.cons (o := { dst := some 95, op := Go.Op.call { callee := Go.Callee.value (Go.Operand.func 21), args := #[Go.Operand.tmp 93, Go.Operand.tmp 94], argTypes := #[24, 3] }, type := 25, pos := "law.go:321", after := #[{ on := 0, ground := Go.Ground.data }, { on := 1, ground := Go.Ground.data }], guard := none }) rfl (fun K hK => ?_) AllReadyH.nil)
                go_simp
                refine (C1 _ E2.out.xb).out.mono ?_
                rintro e w5 ⟨rfl, x5, a5⟩
                have e5 := (World.cell?_of_block (a := ⟨ob, 0, none⟩) (a5.block ob E2.out.ol (by have := E2.out.d; omega) (by simp))).trans od
                refine hK.out _ _ (e5) (fun hHelda => ?_)
                clear hK K
                refine wpAnyH_ready (rs := [6]) (by kernel_rfl) (by simp) ?_
                refine (AllReadyH.cons (o := { dst := some 99, op := Go.Op.call { callee := Go.Callee.value (Go.Operand.func 21), args := #[Go.Operand.tmp 98, Go.Operand.const (Go.Value.int Go.IntKind.i64 0)], argTypes := #[24, 3] }, type := 25, pos := "law.go:321", after := #[{ on := 5, ground := Go.Ground.data }, { on := 2, ground := Go.Ground.chain }], guard := none }) rfl (fun K hK => ?_) AllReadyH.nil)
                go_simp
                refine (C2 _ (E2.out.one0 a5)).out.mono ?_
                rintro e w6 ⟨rfl, x6, a6⟩
                have e6 := (World.cell?_of_block (a := ⟨ob, 0, none⟩) (a6.block ob (Nat.lt_of_lt_of_le E2.out.ol a5.size) (by have := E2.out.d; omega) (by simp))).trans e5
                refine hK.out _ _ (e6) (fun hHeldb => ?_)
                clear hK K
                refine wpAnyH_take (i := 7) (oi := { dst := some 100, op := Go.Op.binOp Go.BinOp.neq 25 (Go.Operand.tmp 95) (Go.Operand.tmp 99) 25, type := 4, pos := "law.go:321", after := #[{ on := 2, ground := Go.Ground.data }, { on := 6, ground := Go.Ground.data }], guard := none }) (v := ?_) rfl (by kernel_rfl) (by kernel_rfl) (by kernel_rfl) (fun _ _ _ h => h) (Or.inl ⟨by rfl, ?_⟩) (by assumption) ?_
                rotate_left
                · (intro w hSw; (try dsimp only at hSw); go_simp; (try with_reducible rfl))
                simp only [Act.put, List.setIfInBounds_toArray, List.set_cons_zero, List.set_cons_succ]
                refine wpAnyH_done (by kernel_rfl) ?_ _
                have FIN := box (show ∃ (c0 c1 : Gc), Box (c0.Ok ∧ c1.Ok) ∧ Box (CE w.heap.size w w6 g h c0 c1 ob g0 h0 g1 h1) from ⟨c0.freeC, c1, box ⟨NO.out, hO.out.2⟩, box (E2.out.step0 x5 a5 x6 a6)⟩)
                (try go_wp2_with fail)
                go_meet
                exact FIN.out
              · by_cases k2 : kd = 2
                · subst k2
                  have C1 := box (audit_any nm 0 0 rfl g h [c0, c1] wb E1.out.xb c0 rfl hO.out.1)
                  have C2 := fun (w5 : World) (x : GvAt w5 g0 h0 [c0]) => box (audit_any nm 0 0 rfl g0 h0 [c0] w5 x c0 rfl hO.out.1)
                  have NO := box (show (c0.audC nm).Ok from hO.out.1.aud nm)
                  obtain ⟨EE, hEE⟩ : ∃ EE, c0.audE nm = EE := ⟨_, rfl⟩
                  rw [hEE] at C1 C2
                  clear hEE
                  obtain ⟨NN, hNN⟩ : ∃ NN, c0.audN nm = NN := ⟨_, rfl⟩
                  rw [hNN] at C1 C2
                  clear hNN
                  go_wp2_with fail
                  refine C1.out.mono ?_
                  rintro e wc ⟨rfl, x5, a5⟩
                  have X2 := box (X1.out.same (a5.block mm X1.out.lt XB.out.1 (by simp)))
                  obtain ⟨r0, r1, r2, rz⟩ := X2.out
                  have e5 := (World.cell?_of_block (a := ⟨ob, 0, none⟩) (a5.block ob E1.out.ol (by have := E1.out.d; omega) (by simp))).trans E1.out.o0
                  clear C1 p0 p1 p2 pz
                  go_upto_region 28 with fail
                  have x0d : GvAt wc.drew g0 h0 [c0] := (E1.out.one0 a5).same (Nat.le_refl _) rfl rfl
                  have a5d : Apart h none wb wc.drew := ⟨a5.os, a5.tape, a5.output, a5.size, a5.block⟩
                  have x5d := x5.same (w' := wc.drew) (Nat.le_refl _) rfl rfl
                  have e5d : wc.drew.cell? ⟨ob, 0, none⟩ = some (.pointer (some ⟨g0, 0, none⟩)) := e5
                  have r2d : wc.drew.cell? ⟨mm, 2, none⟩ = some (.int .i64 nm) := r2
                  refine wp_region_held_drew (S := (fun w' => w'.cell? ⟨ob, 0, none⟩ = some (.pointer (some ⟨g0, 0, none⟩)) ∧ w'.cell? ⟨mm, 2, none⟩ = some (.int .i64 nm))) (by kernel_rfl) (⟨e5d, r2d⟩) (fun hHeld => ?_)
                  refine wpAnyH_take (i := 0) (oi := { dst := some 112, op := Go.Op.move (Go.Operand.tmp 14), type := 3, pos := "law.go:326", after := #[], guard := none }) (v := ?_) rfl (by kernel_rfl) (by kernel_rfl) (by kernel_rfl) (fun _ _ _ h => h) (Or.inl ⟨by rfl, ?_⟩) (by assumption) ?_
                  rotate_left
                  · (intro w hSw; (try dsimp only at hSw); go_simp; (try with_reducible rfl))
                  simp only [Act.put, List.setIfInBounds_toArray, List.set_cons_zero, List.set_cons_succ]
                  refine wpAnyH_take (i := 1) (oi := { dst := some 113, op := Go.Op.indexAddr 62 (Go.Operand.tmp 10) (Go.Operand.tmp 112), type := 0, pos := "law.go:326", after := #[{ on := 0, ground := Go.Ground.data }], guard := none }) (v := ?_) rfl (by kernel_rfl) (by kernel_rfl) (by kernel_rfl) (fun _ _ _ h => h) (Or.inl ⟨by rfl, ?_⟩) (by assumption) ?_
                  rotate_left
                  · (intro w hSw; (try dsimp only at hSw); go_simp; (try with_reducible rfl))
                  simp only [Act.put, List.setIfInBounds_toArray, List.set_cons_zero, List.set_cons_succ]
                  refine wpAnyH_take (i := 2) (oi := { dst := some 114, op := Go.Op.load 24 (Go.Operand.tmp 113), type := 24, pos := "law.go:326", after := #[{ on := 1, ground := Go.Ground.data }], guard := none }) (v := ?_) rfl (by kernel_rfl) (by kernel_rfl) (by kernel_rfl) (fun _ _ _ h => h) (Or.inl ⟨by rfl, ?_⟩) (by assumption) ?_
                  rotate_left
                  · (intro w hSw; (try dsimp only at hSw); go_simp; (try with_reducible rfl))
                  simp only [Act.put, List.setIfInBounds_toArray, List.set_cons_zero, List.set_cons_succ]
                  refine wpAnyH_take (i := 3) (oi := { dst := some 115, op := Go.Op.fieldAddr 43 (Go.Operand.tmp 13) 2, type := 0, pos := "law.go:326", after := #[], guard := none }) (v := ?_) rfl (by kernel_rfl) (by kernel_rfl) (by kernel_rfl) (fun _ _ _ h => h) (Or.inl ⟨by rfl, ?_⟩) (by assumption) ?_
                  rotate_left
                  · (intro w hSw; (try dsimp only at hSw); go_simp; (try with_reducible rfl))
                  simp only [Act.put, List.setIfInBounds_toArray, List.set_cons_zero, List.set_cons_succ]
                  refine wpAnyH_take (i := 4) (oi := { dst := some 116, op := Go.Op.load 3 (Go.Operand.tmp 115), type := 3, pos := "law.go:326", after := #[{ on := 3, ground := Go.Ground.data }], guard := none }) (v := ?_) rfl (by kernel_rfl) (by kernel_rfl) (by kernel_rfl) (fun _ _ _ h => h) (Or.inl ⟨by rfl, ?_⟩) (by assumption) ?_
                  rotate_left
                  · (intro w hSw; (try dsimp only at hSw); go_simp; (try with_reducible rfl))
                  simp only [Act.put, List.setIfInBounds_toArray, List.set_cons_zero, List.set_cons_succ]
                  refine wpAnyH_ready (rs := [5]) (by kernel_rfl) (by simp) ?_
                  refine (AllReadyH.cons (o := { dst := some 117, op := Go.Op.call { callee := Go.Callee.value (Go.Operand.func 19), args := #[Go.Operand.tmp 114, Go.Operand.const (Go.Value.int Go.IntKind.i64 0), Go.Operand.tmp 116], argTypes := #[24, 3, 3] }, type := 33, pos := "law.go:326", after := #[{ on := 2, ground := Go.Ground.data }, { on := 4, ground := Go.Ground.data }], guard := none }) rfl (fun K hK => ?_) AllReadyH.nil)
                  go_simp
                  refine (C2 _ x0d).out.mono ?_
                  rintro e w6 ⟨rfl, x6, a6⟩
                  have e6 := (World.cell?_of_block (a := ⟨ob, 0, none⟩) (a6.block ob (Nat.lt_of_lt_of_le E1.out.ol a5d.size) (by have := E1.out.d; omega) (by simp))).trans e5d
                  have r6 := (World.cell?_of_block (a := ⟨mm, 2, none⟩) (a6.block mm (Nat.lt_of_lt_of_le X1.out.lt a5d.size) XB.out.2.1 (by simp))).trans r2d
                  refine hK.out _ _ (⟨e6, r6⟩) (fun hHelda => ?_)
                  clear hK K
                  refine wpAnyH_take (i := 6) (oi := { dst := some 111, op := Go.Op.move (Go.Operand.tmp 117), type := 33, pos := "law.go:326", after := #[{ on := 5, ground := Go.Ground.data }], guard := none }) (v := ?_) rfl (by kernel_rfl) (by kernel_rfl) (by kernel_rfl) (fun _ _ _ h => h) (Or.inl ⟨by rfl, ?_⟩) (by assumption) ?_
                  rotate_left
                  · (intro w hSw; (try dsimp only at hSw); go_simp; (try with_reducible rfl))
                  simp only [Act.put, List.setIfInBounds_toArray, List.set_cons_zero, List.set_cons_succ]
                  refine wpAnyH_take (i := 7) (oi := { dst := some 118, op := Go.Op.extract (Go.Operand.tmp 111) 0, type := 3, pos := "law.go:326", after := #[{ on := 6, ground := Go.Ground.data }], guard := none }) (v := ?_) rfl (by kernel_rfl) (by kernel_rfl) (by kernel_rfl) (fun _ _ _ h => h) (Or.inl ⟨by rfl, ?_⟩) (by assumption) ?_
                  rotate_left
                  · (intro w hSw; (try dsimp only at hSw); go_simp; (try with_reducible rfl))
                  simp only [Act.put, List.setIfInBounds_toArray, List.set_cons_zero, List.set_cons_succ]
                  refine wpAnyH_take (i := 8) (oi := { dst := some 119, op := Go.Op.extract (Go.Operand.tmp 111) 1, type := 25, pos := "law.go:326", after := #[{ on := 6, ground := Go.Ground.data }, { on := 9, ground := Go.Ground.gcOnly Go.Departure.lateStores }], guard := none }) (v := ?_) rfl (by kernel_rfl) (by kernel_rfl) (by kernel_rfl) (fun _ _ _ h => h) (Or.inl ⟨by rfl, ?_⟩) (by assumption) ?_
                  rotate_left
                  · (intro w hSw; (try dsimp only at hSw); go_simp; (try with_reducible rfl))
                  simp only [Act.put, List.setIfInBounds_toArray, List.set_cons_zero, List.set_cons_succ]
                  refine wpAnyH_take (i := 9) (oi := { dst := some 17, op := Go.Op.assign (Go.Operand.tmp 118), type := 3, pos := "law.go:326", after := #[{ on := 7, ground := Go.Ground.data }, { on := 5, ground := Go.Ground.chain }, { on := 0, ground := Go.Ground.phase }, { on := 1, ground := Go.Ground.phase }, { on := 2, ground := Go.Ground.phase }, { on := 3, ground := Go.Ground.phase }, { on := 4, ground := Go.Ground.phase }, { on := 5, ground := Go.Ground.phase }, { on := 6, ground := Go.Ground.phase }, { on := 7, ground := Go.Ground.phase }, { on := 8, ground := Go.Ground.textOnly Go.Departure.lateStores }], guard := none }) (v := ?_) rfl (by kernel_rfl) (by kernel_rfl) (by kernel_rfl) (fun _ _ _ h => h) (Or.inl ⟨by rfl, ?_⟩) (by assumption) ?_
                  rotate_left
                  · (intro w hSw; (try dsimp only at hSw); go_simp; (try with_reducible rfl))
                  simp only [Act.put, List.setIfInBounds_toArray, List.set_cons_zero, List.set_cons_succ]
                  refine wpAnyH_take (i := 10) (oi := { dst := some 18, op := Go.Op.assign (Go.Operand.tmp 119), type := 25, pos := "law.go:326", after := #[{ on := 8, ground := Go.Ground.data }, { on := 9, ground := Go.Ground.chain }, { on := 0, ground := Go.Ground.phase }, { on := 1, ground := Go.Ground.phase }, { on := 2, ground := Go.Ground.phase }, { on := 3, ground := Go.Ground.phase }, { on := 4, ground := Go.Ground.phase }, { on := 5, ground := Go.Ground.phase }, { on := 6, ground := Go.Ground.phase }, { on := 7, ground := Go.Ground.phase }, { on := 8, ground := Go.Ground.phase }, { on := 9, ground := Go.Ground.phase }], guard := none }) (v := ?_) rfl (by kernel_rfl) (by kernel_rfl) (by kernel_rfl) (fun _ _ _ h => h) (Or.inl ⟨by rfl, ?_⟩) (by assumption) ?_
                  rotate_left
                  · (intro w hSw; (try dsimp only at hSw); go_simp; (try with_reducible rfl))
                  simp only [Act.put, List.setIfInBounds_toArray, List.set_cons_zero, List.set_cons_succ]
                  refine wpAnyH_done (by kernel_rfl) ?_ _
                  have FIN := box (show ∃ (c0 c1 : Gc), Box (c0.Ok ∧ c1.Ok) ∧ Box (CE w.heap.size w w6 g h c0 c1 ob g0 h0 g1 h1) from ⟨(c0.audC nm), c1, box ⟨NO.out, hO.out.2⟩, box (E1.out.step0 x5d a5d x6 a6)⟩)
                  clear X2 r0 r1 r2 rz C2 x5d a5d x6 a6 x0d e5 e5d r2d e6 r6
                  (try go_wp2_with fail)
                  go_meet
                  exact FIN.out
                · have FIN := box (show ∃ (c0 c1 : Gc), Box (c0.Ok ∧ c1.Ok) ∧ Box (CE w.heap.size w wb g h c0 c1 ob g0 h0 g1 h1) from ⟨c0, c1, hO, E1⟩)
                  clear E1 X1
                  go_wp2_with fail
                  go_meet
                  exact FIN.out
          · by_cases k0 : kd = 0
            · subst k0
              obtain ⟨wc, hwc⟩ : ∃ wc, wb = wc := ⟨_, rfl⟩
              rw [hwc] at E1 X1 p0 p1 p2 ⊢
              clear hwc pz
              have C1 := fun (w5 : World) (x : GvAt w5 g h [c0, c1]) => box (receive_any 1 1 rfl g h [c0, c1] w5 x c1 rfl hO.out.2)
              have C2 := fun (w5 : World) (x : GvAt w5 g1 h1 [c1]) => box (receive_any 0 0 rfl g1 h1 [c1] w5 x c1 rfl hO.out.2)
              have NO := box (show (c1.recvC).Ok from hO.out.2.recv)
              obtain ⟨EE, hEE⟩ : ∃ EE, c1.recvE = EE := ⟨_, rfl⟩
              rw [hEE] at C1 C2
              clear hEE
              go_upto_region 21 with fail
              have d0 : Below wc.heap.size wc wc.drew := ⟨rfl, rfl, rfl, Nat.le_refl _, fun _ _ => rfl⟩
              have E2 := box (E1.out.keep d0)
              have od := E2.out.o1
              refine wp_region_held_drew (S := (fun w' => w'.cell? ⟨ob, 1, none⟩ = some (.pointer (some ⟨g1, 0, none⟩)))) (by kernel_rfl) (od) (fun hHeld => ?_)
              refine wpAnyH_take (i := 0) (oi := { dst := some 83, op := Go.Op.move (Go.Operand.tmp 8), type := 24, pos := "law.go:317", after := #[], guard := none }) (v := ?_) rfl (by kernel_rfl) (by kernel_rfl) (by kernel_rfl) (fun _ _ _ h => h) (Or.inl ⟨by rfl, ?_⟩) (by assumption) ?_
              rotate_left
              · (intro w hSw; (try dsimp only at hSw); go_simp; (try with_reducible rfl))
              simp only [Act.put, List.setIfInBounds_toArray, List.set_cons_zero, List.set_cons_succ]
              refine wpAnyH_take (i := 1) (oi := { dst := some 84, op := Go.Op.move (Go.Operand.tmp 14), type := 3, pos := "law.go:317", after := #[], guard := none }) (v := ?_) rfl (by kernel_rfl) (by kernel_rfl) (by kernel_rfl) (fun _ _ _ h => h) (Or.inl ⟨by rfl, ?_⟩) (by assumption) ?_
              rotate_left
              · (intro w hSw; (try dsimp only at hSw); go_simp; (try with_reducible rfl))
              simp only [Act.put, List.setIfInBounds_toArray, List.set_cons_zero, List.set_cons_succ]
              refine wpAnyH_take (i := 3) (oi := { dst := some 86, op := Go.Op.move (Go.Operand.tmp 14), type := 3, pos := "law.go:317", after := #[], guard := none }) (v := ?_) rfl (by kernel_rfl) (by kernel_rfl) (by kernel_rfl) (fun _ _ _ h => h) (Or.inl ⟨by rfl, ?_⟩) (by assumption) ?_
              rotate_left
              · (intro w hSw; (try dsimp only at hSw); go_simp; (try with_reducible rfl))
              simp only [Act.put, List.setIfInBounds_toArray, List.set_cons_zero, List.set_cons_succ]
              refine wpAnyH_take (i := 4) (oi := { dst := some 87, op := Go.Op.indexAddr 62 (Go.Operand.tmp 10) (Go.Operand.tmp 86), type := 0, pos := "law.go:317", after := #[{ on := 3, ground := Go.Ground.data }], guard := none }) (v := ?_) rfl (by kernel_rfl) (by kernel_rfl) (by kernel_rfl) (fun _ _ _ h => h) (Or.inl ⟨by rfl, ?_⟩) (by assumption) ?_
              rotate_left
              · (intro w hSw; (try dsimp only at hSw); go_simp; (try with_reducible rfl))
              simp only [Act.put, List.setIfInBounds_toArray, List.set_cons_zero, List.set_cons_succ]
              refine wpAnyH_take (i := 5) (oi := { dst := some 88, op := Go.Op.load 24 (Go.Operand.tmp 87), type := 24, pos := "law.go:317", after := #[{ on := 4, ground := Go.Ground.data }], guard := none }) (v := ?_) rfl (by kernel_rfl) (by kernel_rfl) (by kernel_rfl) (fun _ _ _ h => h) (Or.inl ⟨by rfl, ?_⟩) (by assumption) ?_
              rotate_left
              · (intro w hSw; (try dsimp only at hSw); go_simp; (try with_reducible rfl))
              simp only [Act.put, List.setIfInBounds_toArray, List.set_cons_zero, List.set_cons_succ]
              refine wpAnyH_ready (rs := [2]) (by kernel_rfl) (by simp) ?_
              refine (AllReadyH.cons (o := { dst := some 85, op := Go.Op.call { callee := Go.Callee.value (Go.Operand.func 20), args := #[Go.Operand.tmp 83, Go.Operand.tmp 84], argTypes := #[24, 3] }, type := 25, pos := "law.go:317", after := #[{ on := 0, ground := Go.Ground.data }, { on := 1, ground := Go.Ground.data }], guard := none }) rfl (fun K hK => ?_) AllReadyH.nil)
              go_simp
              refine (C1 _ E2.out.xb).out.mono ?_
              rintro e w5 ⟨rfl, x5, a5⟩
              have e5 := (World.cell?_of_block (a := ⟨ob, 1, none⟩) (a5.block ob E2.out.ol (by have := E2.out.d; omega) (by simp))).trans od
              refine hK.out _ _ (e5) (fun hHelda => ?_)
              clear hK K
              refine wpAnyH_ready (rs := [6]) (by kernel_rfl) (by simp) ?_
              refine (AllReadyH.cons (o := { dst := some 89, op := Go.Op.call { callee := Go.Callee.value (Go.Operand.func 20), args := #[Go.Operand.tmp 88, Go.Operand.const (Go.Value.int Go.IntKind.i64 0)], argTypes := #[24, 3] }, type := 25, pos := "law.go:317", after := #[{ on := 5, ground := Go.Ground.data }, { on := 2, ground := Go.Ground.chain }], guard := none }) rfl (fun K hK => ?_) AllReadyH.nil)
              go_simp
              refine (C2 _ (E2.out.one1 a5)).out.mono ?_
              rintro e w6 ⟨rfl, x6, a6⟩
              have e6 := (World.cell?_of_block (a := ⟨ob, 1, none⟩) (a6.block ob (Nat.lt_of_lt_of_le E2.out.ol a5.size) (by have := E2.out.d; omega) (by simp))).trans e5
              refine hK.out _ _ (e6) (fun hHeldb => ?_)
              clear hK K
              refine wpAnyH_take (i := 7) (oi := { dst := some 90, op := Go.Op.binOp Go.BinOp.neq 25 (Go.Operand.tmp 85) (Go.Operand.tmp 89) 25, type := 4, pos := "law.go:317", after := #[{ on := 2, ground := Go.Ground.data }, { on := 6, ground := Go.Ground.data }], guard := none }) (v := ?_) rfl (by kernel_rfl) (by kernel_rfl) (by kernel_rfl) (fun _ _ _ h => h) (Or.inl ⟨by rfl, ?_⟩) (by assumption) ?_
              rotate_left
              · (intro w hSw; (try dsimp only at hSw); go_simp; (try with_reducible rfl))
              simp only [Act.put, List.setIfInBounds_toArray, List.set_cons_zero, List.set_cons_succ]
              refine wpAnyH_done (by kernel_rfl) ?_ _
              have FIN := box (show ∃ (c0 c1 : Gc), Box (c0.Ok ∧ c1.Ok) ∧ Box (CE w.heap.size w w6 g h c0 c1 ob g0 h0 g1 h1) from ⟨c0, c1.recvC, box ⟨hO.out.1, NO.out⟩, box (E2.out.step1 x5 a5 x6 a6)⟩)
              (try go_wp2_with fail)
              go_meet
              exact FIN.out
            · by_cases k1 : kd = 1
              · subst k1
                obtain ⟨wc, hwc⟩ : ∃ wc, wb = wc := ⟨_, rfl⟩
                rw [hwc] at E1 X1 p0 p1 p2 ⊢
                clear hwc pz
                have C1 := fun (w5 : World) (x : GvAt w5 g h [c0, c1]) => box (free_any 1 1 rfl g h [c0, c1] w5 x c1 rfl hO.out.2)
                have C2 := fun (w5 : World) (x : GvAt w5 g1 h1 [c1]) => box (free_any 0 0 rfl g1 h1 [c1] w5 x c1 rfl hO.out.2)
                have NO := box (show (c1.freeC).Ok from hO.out.2.free)
                obtain ⟨EE, hEE⟩ : ∃ EE, c1.freeE = EE := ⟨_, rfl⟩
                rw [hEE] at C1 C2
                clear hEE
                go_upto_region 24 with fail
                have d0 : Below wc.heap.size wc wc.drew := ⟨rfl, rfl, rfl, Nat.le_refl _, fun _ _ => rfl⟩
                have E2 := box (E1.out.keep d0)
                have od := E2.out.o1
                refine wp_region_held_drew (S := (fun w' => w'.cell? ⟨ob, 1, none⟩ = some (.pointer (some ⟨g1, 0, none⟩)))) (by kernel_rfl) (od) (fun hHeld => ?_)
                refine wpAnyH_take (i := 0) (oi := { dst := some 93, op := Go.Op.move (Go.Operand.tmp 8), type := 24, pos := "law.go:321", after := #[], guard := none }) (v := ?_) rfl (by kernel_rfl) (by kernel_rfl) (by kernel_rfl) (fun _ _ _ h => h) (Or.inl ⟨by rfl, ?_⟩) (by assumption) ?_
                rotate_left
                · (intro w hSw; (try dsimp only at hSw); go_simp; (try with_reducible rfl))
                simp only [Act.put, List.setIfInBounds_toArray, List.set_cons_zero, List.set_cons_succ]
                refine wpAnyH_take (i := 1) (oi := { dst := some 94, op := Go.Op.move (Go.Operand.tmp 14), type := 3, pos := "law.go:321", after := #[], guard := none }) (v := ?_) rfl (by kernel_rfl) (by kernel_rfl) (by kernel_rfl) (fun _ _ _ h => h) (Or.inl ⟨by rfl, ?_⟩) (by assumption) ?_
                rotate_left
                · (intro w hSw; (try dsimp only at hSw); go_simp; (try with_reducible rfl))
                simp only [Act.put, List.setIfInBounds_toArray, List.set_cons_zero, List.set_cons_succ]
                refine wpAnyH_take (i := 3) (oi := { dst := some 96, op := Go.Op.move (Go.Operand.tmp 14), type := 3, pos := "law.go:321", after := #[], guard := none }) (v := ?_) rfl (by kernel_rfl) (by kernel_rfl) (by kernel_rfl) (fun _ _ _ h => h) (Or.inl ⟨by rfl, ?_⟩) (by assumption) ?_
                rotate_left
                · (intro w hSw; (try dsimp only at hSw); go_simp; (try with_reducible rfl))
                simp only [Act.put, List.setIfInBounds_toArray, List.set_cons_zero, List.set_cons_succ]
                refine wpAnyH_take (i := 4) (oi := { dst := some 97, op := Go.Op.indexAddr 62 (Go.Operand.tmp 10) (Go.Operand.tmp 96), type := 0, pos := "law.go:321", after := #[{ on := 3, ground := Go.Ground.data }], guard := none }) (v := ?_) rfl (by kernel_rfl) (by kernel_rfl) (by kernel_rfl) (fun _ _ _ h => h) (Or.inl ⟨by rfl, ?_⟩) (by assumption) ?_
                rotate_left
                · (intro w hSw; (try dsimp only at hSw); go_simp; (try with_reducible rfl))
                simp only [Act.put, List.setIfInBounds_toArray, List.set_cons_zero, List.set_cons_succ]
                refine wpAnyH_take (i := 5) (oi := { dst := some 98, op := Go.Op.load 24 (Go.Operand.tmp 97), type := 24, pos := "law.go:321", after := #[{ on := 4, ground := Go.Ground.data }], guard := none }) (v := ?_) rfl (by kernel_rfl) (by kernel_rfl) (by kernel_rfl) (fun _ _ _ h => h) (Or.inl ⟨by rfl, ?_⟩) (by assumption) ?_
                rotate_left
                · (intro w hSw; (try dsimp only at hSw); go_simp; (try with_reducible rfl))
                simp only [Act.put, List.setIfInBounds_toArray, List.set_cons_zero, List.set_cons_succ]
                refine wpAnyH_ready (rs := [2]) (by kernel_rfl) (by simp) ?_
                refine (AllReadyH.cons (o := { dst := some 95, op := Go.Op.call { callee := Go.Callee.value (Go.Operand.func 21), args := #[Go.Operand.tmp 93, Go.Operand.tmp 94], argTypes := #[24, 3] }, type := 25, pos := "law.go:321", after := #[{ on := 0, ground := Go.Ground.data }, { on := 1, ground := Go.Ground.data }], guard := none }) rfl (fun K hK => ?_) AllReadyH.nil)
                go_simp
                refine (C1 _ E2.out.xb).out.mono ?_
                rintro e w5 ⟨rfl, x5, a5⟩
                have e5 := (World.cell?_of_block (a := ⟨ob, 1, none⟩) (a5.block ob E2.out.ol (by have := E2.out.d; omega) (by simp))).trans od
                refine hK.out _ _ (e5) (fun hHelda => ?_)
                clear hK K
                refine wpAnyH_ready (rs := [6]) (by kernel_rfl) (by simp) ?_
                refine (AllReadyH.cons (o := { dst := some 99, op := Go.Op.call { callee := Go.Callee.value (Go.Operand.func 21), args := #[Go.Operand.tmp 98, Go.Operand.const (Go.Value.int Go.IntKind.i64 0)], argTypes := #[24, 3] }, type := 25, pos := "law.go:321", after := #[{ on := 5, ground := Go.Ground.data }, { on := 2, ground := Go.Ground.chain }], guard := none }) rfl (fun K hK => ?_) AllReadyH.nil)
                go_simp
                refine (C2 _ (E2.out.one1 a5)).out.mono ?_
                rintro e w6 ⟨rfl, x6, a6⟩
                have e6 := (World.cell?_of_block (a := ⟨ob, 1, none⟩) (a6.block ob (Nat.lt_of_lt_of_le E2.out.ol a5.size) (by have := E2.out.d; omega) (by simp))).trans e5
                refine hK.out _ _ (e6) (fun hHeldb => ?_)
                clear hK K
                refine wpAnyH_take (i := 7) (oi := { dst := some 100, op := Go.Op.binOp Go.BinOp.neq 25 (Go.Operand.tmp 95) (Go.Operand.tmp 99) 25, type := 4, pos := "law.go:321", after := #[{ on := 2, ground := Go.Ground.data }, { on := 6, ground := Go.Ground.data }], guard := none }) (v := ?_) rfl (by kernel_rfl) (by kernel_rfl) (by kernel_rfl) (fun _ _ _ h => h) (Or.inl ⟨by rfl, ?_⟩) (by assumption) ?_
                rotate_left
                · (intro w hSw; (try dsimp only at hSw); go_simp; (try with_reducible rfl))
                simp only [Act.put, List.setIfInBounds_toArray, List.set_cons_zero, List.set_cons_succ]
                refine wpAnyH_done (by kernel_rfl) ?_ _
                have FIN := box (show ∃ (c0 c1 : Gc), Box (c0.Ok ∧ c1.Ok) ∧ Box (CE w.heap.size w w6 g h c0 c1 ob g0 h0 g1 h1) from ⟨c0, c1.freeC, box ⟨hO.out.1, NO.out⟩, box (E2.out.step1 x5 a5 x6 a6)⟩)
                (try go_wp2_with fail)
                go_meet
                exact FIN.out
              · by_cases k2 : kd = 2
                · subst k2
                  have C1 := box (audit_any nm 1 1 rfl g h [c0, c1] wb E1.out.xb c1 rfl hO.out.2)
                  have C2 := fun (w5 : World) (x : GvAt w5 g1 h1 [c1]) => box (audit_any nm 0 0 rfl g1 h1 [c1] w5 x c1 rfl hO.out.2)
                  have NO := box (show (c1.audC nm).Ok from hO.out.2.aud nm)
                  obtain ⟨EE, hEE⟩ : ∃ EE, c1.audE nm = EE := ⟨_, rfl⟩
                  rw [hEE] at C1 C2
                  clear hEE
                  obtain ⟨NN, hNN⟩ : ∃ NN, c1.audN nm = NN := ⟨_, rfl⟩
                  rw [hNN] at C1 C2
                  clear hNN
                  go_wp2_with fail
                  refine C1.out.mono ?_
                  rintro e wc ⟨rfl, x5, a5⟩
                  have X2 := box (X1.out.same (a5.block mm X1.out.lt XB.out.1 (by simp)))
                  obtain ⟨r0, r1, r2, rz⟩ := X2.out
                  have e5 := (World.cell?_of_block (a := ⟨ob, 1, none⟩) (a5.block ob E1.out.ol (by have := E1.out.d; omega) (by simp))).trans E1.out.o1
                  clear C1 p0 p1 p2 pz
                  go_upto_region 28 with fail
                  have x0d : GvAt wc.drew g1 h1 [c1] := (E1.out.one1 a5).same (Nat.le_refl _) rfl rfl
                  have a5d : Apart h none wb wc.drew := ⟨a5.os, a5.tape, a5.output, a5.size, a5.block⟩
                  have x5d := x5.same (w' := wc.drew) (Nat.le_refl _) rfl rfl
                  have e5d : wc.drew.cell? ⟨ob, 1, none⟩ = some (.pointer (some ⟨g1, 0, none⟩)) := e5
                  have r2d : wc.drew.cell? ⟨mm, 2, none⟩ = some (.int .i64 nm) := r2
                  refine wp_region_held_drew (S := (fun w' => w'.cell? ⟨ob, 1, none⟩ = some (.pointer (some ⟨g1, 0, none⟩)) ∧ w'.cell? ⟨mm, 2, none⟩ = some (.int .i64 nm))) (by kernel_rfl) (⟨e5d, r2d⟩) (fun hHeld => ?_)
                  refine wpAnyH_take (i := 0) (oi := { dst := some 112, op := Go.Op.move (Go.Operand.tmp 14), type := 3, pos := "law.go:326", after := #[], guard := none }) (v := ?_) rfl (by kernel_rfl) (by kernel_rfl) (by kernel_rfl) (fun _ _ _ h => h) (Or.inl ⟨by rfl, ?_⟩) (by assumption) ?_
                  rotate_left
                  · (intro w hSw; (try dsimp only at hSw); go_simp; (try with_reducible rfl))
                  simp only [Act.put, List.setIfInBounds_toArray, List.set_cons_zero, List.set_cons_succ]
                  refine wpAnyH_take (i := 1) (oi := { dst := some 113, op := Go.Op.indexAddr 62 (Go.Operand.tmp 10) (Go.Operand.tmp 112), type := 0, pos := "law.go:326", after := #[{ on := 0, ground := Go.Ground.data }], guard := none }) (v := ?_) rfl (by kernel_rfl) (by kernel_rfl) (by kernel_rfl) (fun _ _ _ h => h) (Or.inl ⟨by rfl, ?_⟩) (by assumption) ?_
                  rotate_left
                  · (intro w hSw; (try dsimp only at hSw); go_simp; (try with_reducible rfl))
                  simp only [Act.put, List.setIfInBounds_toArray, List.set_cons_zero, List.set_cons_succ]
                  refine wpAnyH_take (i := 2) (oi := { dst := some 114, op := Go.Op.load 24 (Go.Operand.tmp 113), type := 24, pos := "law.go:326", after := #[{ on := 1, ground := Go.Ground.data }], guard := none }) (v := ?_) rfl (by kernel_rfl) (by kernel_rfl) (by kernel_rfl) (fun _ _ _ h => h) (Or.inl ⟨by rfl, ?_⟩) (by assumption) ?_
                  rotate_left
                  · (intro w hSw; (try dsimp only at hSw); go_simp; (try with_reducible rfl))
                  simp only [Act.put, List.setIfInBounds_toArray, List.set_cons_zero, List.set_cons_succ]
                  refine wpAnyH_take (i := 3) (oi := { dst := some 115, op := Go.Op.fieldAddr 43 (Go.Operand.tmp 13) 2, type := 0, pos := "law.go:326", after := #[], guard := none }) (v := ?_) rfl (by kernel_rfl) (by kernel_rfl) (by kernel_rfl) (fun _ _ _ h => h) (Or.inl ⟨by rfl, ?_⟩) (by assumption) ?_
                  rotate_left
                  · (intro w hSw; (try dsimp only at hSw); go_simp; (try with_reducible rfl))
                  simp only [Act.put, List.setIfInBounds_toArray, List.set_cons_zero, List.set_cons_succ]
                  refine wpAnyH_take (i := 4) (oi := { dst := some 116, op := Go.Op.load 3 (Go.Operand.tmp 115), type := 3, pos := "law.go:326", after := #[{ on := 3, ground := Go.Ground.data }], guard := none }) (v := ?_) rfl (by kernel_rfl) (by kernel_rfl) (by kernel_rfl) (fun _ _ _ h => h) (Or.inl ⟨by rfl, ?_⟩) (by assumption) ?_
                  rotate_left
                  · (intro w hSw; (try dsimp only at hSw); go_simp; (try with_reducible rfl))
                  simp only [Act.put, List.setIfInBounds_toArray, List.set_cons_zero, List.set_cons_succ]
                  refine wpAnyH_ready (rs := [5]) (by kernel_rfl) (by simp) ?_
                  refine (AllReadyH.cons (o := { dst := some 117, op := Go.Op.call { callee := Go.Callee.value (Go.Operand.func 19), args := #[Go.Operand.tmp 114, Go.Operand.const (Go.Value.int Go.IntKind.i64 0), Go.Operand.tmp 116], argTypes := #[24, 3, 3] }, type := 33, pos := "law.go:326", after := #[{ on := 2, ground := Go.Ground.data }, { on := 4, ground := Go.Ground.data }], guard := none }) rfl (fun K hK => ?_) AllReadyH.nil)
                  go_simp
                  refine (C2 _ x0d).out.mono ?_
                  rintro e w6 ⟨rfl, x6, a6⟩
                  have e6 := (World.cell?_of_block (a := ⟨ob, 1, none⟩) (a6.block ob (Nat.lt_of_lt_of_le E1.out.ol a5d.size) (by have := E1.out.d; omega) (by simp))).trans e5d
                  have r6 := (World.cell?_of_block (a := ⟨mm, 2, none⟩) (a6.block mm (Nat.lt_of_lt_of_le X1.out.lt a5d.size) XB.out.2.2 (by simp))).trans r2d
                  refine hK.out _ _ (⟨e6, r6⟩) (fun hHelda => ?_)
                  clear hK K
                  refine wpAnyH_take (i := 6) (oi := { dst := some 111, op := Go.Op.move (Go.Operand.tmp 117), type := 33, pos := "law.go:326", after := #[{ on := 5, ground := Go.Ground.data }], guard := none }) (v := ?_) rfl (by kernel_rfl) (by kernel_rfl) (by kernel_rfl) (fun _ _ _ h => h) (Or.inl ⟨by rfl, ?_⟩) (by assumption) ?_
                  rotate_left
                  · (intro w hSw; (try dsimp only at hSw); go_simp; (try with_reducible rfl))
                  simp only [Act.put, List.setIfInBounds_toArray, List.set_cons_zero, List.set_cons_succ]
                  refine wpAnyH_take (i := 7) (oi := { dst := some 118, op := Go.Op.extract (Go.Operand.tmp 111) 0, type := 3, pos := "law.go:326", after := #[{ on := 6, ground := Go.Ground.data }], guard := none }) (v := ?_) rfl (by kernel_rfl) (by kernel_rfl) (by kernel_rfl) (fun _ _ _ h => h) (Or.inl ⟨by rfl, ?_⟩) (by assumption) ?_
                  rotate_left
                  · (intro w hSw; (try dsimp only at hSw); go_simp; (try with_reducible rfl))
                  simp only [Act.put, List.setIfInBounds_toArray, List.set_cons_zero, List.set_cons_succ]
                  refine wpAnyH_take (i := 8) (oi := { dst := some 119, op := Go.Op.extract (Go.Operand.tmp 111) 1, type := 25, pos := "law.go:326", after := #[{ on := 6, ground := Go.Ground.data }, { on := 9, ground := Go.Ground.gcOnly Go.Departure.lateStores }], guard := none }) (v := ?_) rfl (by kernel_rfl) (by kernel_rfl) (by kernel_rfl) (fun _ _ _ h => h) (Or.inl ⟨by rfl, ?_⟩) (by assumption) ?_
                  rotate_left
                  · (intro w hSw; (try dsimp only at hSw); go_simp; (try with_reducible rfl))
                  simp only [Act.put, List.setIfInBounds_toArray, List.set_cons_zero, List.set_cons_succ]
                  refine wpAnyH_take (i := 9) (oi := { dst := some 17, op := Go.Op.assign (Go.Operand.tmp 118), type := 3, pos := "law.go:326", after := #[{ on := 7, ground := Go.Ground.data }, { on := 5, ground := Go.Ground.chain }, { on := 0, ground := Go.Ground.phase }, { on := 1, ground := Go.Ground.phase }, { on := 2, ground := Go.Ground.phase }, { on := 3, ground := Go.Ground.phase }, { on := 4, ground := Go.Ground.phase }, { on := 5, ground := Go.Ground.phase }, { on := 6, ground := Go.Ground.phase }, { on := 7, ground := Go.Ground.phase }, { on := 8, ground := Go.Ground.textOnly Go.Departure.lateStores }], guard := none }) (v := ?_) rfl (by kernel_rfl) (by kernel_rfl) (by kernel_rfl) (fun _ _ _ h => h) (Or.inl ⟨by rfl, ?_⟩) (by assumption) ?_
                  rotate_left
                  · (intro w hSw; (try dsimp only at hSw); go_simp; (try with_reducible rfl))
                  simp only [Act.put, List.setIfInBounds_toArray, List.set_cons_zero, List.set_cons_succ]
                  refine wpAnyH_take (i := 10) (oi := { dst := some 18, op := Go.Op.assign (Go.Operand.tmp 119), type := 25, pos := "law.go:326", after := #[{ on := 8, ground := Go.Ground.data }, { on := 9, ground := Go.Ground.chain }, { on := 0, ground := Go.Ground.phase }, { on := 1, ground := Go.Ground.phase }, { on := 2, ground := Go.Ground.phase }, { on := 3, ground := Go.Ground.phase }, { on := 4, ground := Go.Ground.phase }, { on := 5, ground := Go.Ground.phase }, { on := 6, ground := Go.Ground.phase }, { on := 7, ground := Go.Ground.phase }, { on := 8, ground := Go.Ground.phase }, { on := 9, ground := Go.Ground.phase }], guard := none }) (v := ?_) rfl (by kernel_rfl) (by kernel_rfl) (by kernel_rfl) (fun _ _ _ h => h) (Or.inl ⟨by rfl, ?_⟩) (by assumption) ?_
                  rotate_left
                  · (intro w hSw; (try dsimp only at hSw); go_simp; (try with_reducible rfl))
                  simp only [Act.put, List.setIfInBounds_toArray, List.set_cons_zero, List.set_cons_succ]
                  refine wpAnyH_done (by kernel_rfl) ?_ _
                  have FIN := box (show ∃ (c0 c1 : Gc), Box (c0.Ok ∧ c1.Ok) ∧ Box (CE w.heap.size w w6 g h c0 c1 ob g0 h0 g1 h1) from ⟨c0, (c1.audC nm), box ⟨hO.out.1, NO.out⟩, box (E1.out.step1 x5d a5d x6 a6)⟩)
                  clear X2 r0 r1 r2 rz C2 x5d a5d x6 a6 x0d e5 e5d r2d e6 r6
                  (try go_wp2_with fail)
                  go_meet
                  exact FIN.out
                · have FIN := box (show ∃ (c0 c1 : Gc), Box (c0.Ok ∧ c1.Ok) ∧ Box (CE w.heap.size w wb g h c0 c1 ob g0 h0 g1 h1) from ⟨c0, c1, hO, E1⟩)
                  clear E1 X1
                  go_wp2_with fail
                  go_meet
                  exact FIN.out
        case rest =>
          clear E1 X1 p0 p1 p2 pz hO A1
          obtain ⟨c0, c1, hO, hE⟩ := hcut
          go_wp2_with fail
          go_loopw [128] (fun t128 wr' => ∃ q : Nat, q ≤ 2 ∧ t128 = .int .i64 q ∧ Box (CE w.heap.size w wr' g h c0 c1 ob g0 h0 g1 h1)) (fun t128 _ => 2 - (intOf t128).toNat)
          case atStart => exact ⟨0, by omega, rfl, hE⟩
          case round =>
            clear hE
            obtain ⟨q, hq, rfl, hE⟩ := hrel
            by_cases hq0 : q = 0
            · subst hq0
              have LB := box (fun q => Calls.quiet_of (limit_any 0 0 rfl g h [c0, c1] _ (hE.out.xb.drewN q) c0 rfl hO.out.1))
              have L1 := box (fun q => Calls.quiet_of (limit_any 0 0 rfl g0 h0 [c0] _ (hE.out.x0.drewN q) c0 rfl hO.out.1))
              have HB := box (fun q => Calls.quiet_of (held_any 0 0 rfl g h [c0, c1] _ (hE.out.xb.drewN q) c0 rfl hO.out.1))
              have H1 := box (fun q => Calls.quiet_of (held_any 0 0 rfl g0 h0 [c0] _ (hE.out.x0.drewN q) c0 rfl hO.out.1))
              have KQ := box (fun q => hE.out.keep (drewN_below _ q))
              have oo := hE.out.o0
              clear hE
              go_wp2_with fail
              go_quiet ((first | (go_at_call_of 15 g; exact LB.out _) | (go_at_call_of 15 g0; exact L1.out _) | (go_at_call_of 16 g; exact HB.out _) | (go_at_call_of 16 g0; exact H1.out _)))
              go_wp2_with fail
              go_roundw
              case rel => exact ⟨1, by omega, rfl, box (KQ.out _)⟩
              case measure => simp [intOf]
            · by_cases hq1 : q = 1
              · subst hq1
                have LB := box (fun q => Calls.quiet_of (limit_any 1 1 rfl g h [c0, c1] _ (hE.out.xb.drewN q) c1 rfl hO.out.2))
                have L1 := box (fun q => Calls.quiet_of (limit_any 0 0 rfl g1 h1 [c1] _ (hE.out.x1.drewN q) c1 rfl hO.out.2))
                have HB := box (fun q => Calls.quiet_of (held_any 1 1 rfl g h [c0, c1] _ (hE.out.xb.drewN q) c1 rfl hO.out.2))
                have H1 := box (fun q => Calls.quiet_of (held_any 0 0 rfl g1 h1 [c1] _ (hE.out.x1.drewN q) c1 rfl hO.out.2))
                have KQ := box (fun q => hE.out.keep (drewN_below _ q))
                have oo := hE.out.o1
                clear hE
                go_wp2_with fail
                go_quiet ((first | (go_at_call_of 15 g; exact LB.out _) | (go_at_call_of 15 g1; exact L1.out _) | (go_at_call_of 16 g; exact HB.out _) | (go_at_call_of 16 g1; exact H1.out _)))
                go_wp2_with fail
                go_roundw
                case rel => exact ⟨2, by omega, rfl, box (KQ.out _)⟩
                case measure => simp [intOf]
              · obtain rfl : q = 2 := by omega
                go_wp2_with fail
                go_roundw
                case rel => exact ⟨j + 1, c0, c1, by omega, by go_num, hO, hE⟩
                case measure => simp [intOf]; omega
      · go_wp2_with fail
        go_ret
        exact ⟨rfl, hE.out.bel⟩
end Go.Proofs.Ytoolphpideicoaa
