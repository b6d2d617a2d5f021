/- RetrySends: its walk. -/
import Derived.Test.YtfpicobjnpjhlaaRetSm
namespace Go.Proofs.Ytfpicobjnpjhlaa
open Go.RowKit

theorem below2 {b B : Nat} {w0 w w' : World} (h : Below b w0 w) (h2 : Below B w w') (hb : b ≤ B) : Below b w0 w' := h.trans (h2.mono hb)
theorem off_W (s : Rs) (k : Kp) : (offS s k).W = s.W := by unfold offS; split <;> rfl
theorem off_ta {s : Rs} (h : s.ta = s.ac + s.ks.length) (k : Kp) : (offS s k).ta = (offS s k).ac + (offS s k).ks.length ∧ (offS s k).ta ≤ s.ta + 1 := by
  unfold offS
  split
  · exact ⟨by show s.ta + 1 = s.ac + (s.ks ++ [k]).length; simp; omega, Nat.le_refl _⟩
  · exact ⟨h, Nat.le_succ _⟩
theorem ack_ta {s : Rs} (ok : s.Ok) (h : s.ta = s.ac + s.ks.length) (n : Int) : (ackS s n).ta = (ackS s n).ac + (ackS s n).ks.length ∧ (ackS s n).ta = s.ta := by
  unfold ackS
  split
  · exact ⟨h, rfl⟩
  · have hc := cntR_le s.ac s.hi n
    have hk : ackK s n ≤ s.hi := by unfold ackK; omega
    have := ok.hi
    exact ⟨by show s.ta = s.ac + ackK s n + (s.ks.drop _).length; rw [List.length_drop]; omega, rfl⟩
theorem nak_ta {s : Rs} (ok : s.Ok) (h : s.ta = s.ac + s.ks.length) (n : Int) : (nakS s n).ta = (nakS s n).ac + (nakS s n).ks.length ∧ (nakS s n).ta = s.ta := by
  have e := ack_ta ok h n
  unfold nakS
  split
  · exact ⟨h, rfl⟩
  · exact e

set_option maxRecDepth 100000 in
set_option maxHeartbeats 8000000 in
theorem sends_any (z0 z1 : Int) (b : Option Addr) (m c2 : Nat) (l : List Op) (hm : l.length = m) (hmx : m ≤ maxLen) (w : World) (hl : OpsIn w b l) :
    Calls Try.prog 3 #[.int .i64 z0, .int .i64 z1, .slice b m c2] w fun e w' => e = .returned (.bool true) ∧ Below w.heap.size w w' := by
  have HL := box hl
  have HMX := box hmx
  clear hl hmx
  go_enter Try.func3, Try.ntmps3
  go_wp2_with fail
  refine (awake_any w).mono ?_
  rintro e w1 ⟨rfl, hb1⟩
  have B1 := box hb1
  have GR := box (great_any b m c2 l hm HMX.out w1 (HL.out.below hb1))
  clear hb1
  go_wp2_with fail
  refine GR.out.mono ?_
  rintro e w2 ⟨⟨r, rfl, hr⟩, hb2⟩
  have B2 := box (B1.out.trans (hb2.mono B1.out.size))
  have HR := box hr
  clear hb2 hr GR
  cases r
  case true =>
    go_wp2_with fail
    go_ret
    exact ⟨rfl, B2.out⟩
  obtain ⟨h100, hm400⟩ := HR.out rfl
  have H100 := box h100
  clear HR h100 HMX
  by_cases hrg : z0 < 1 ∨ 128 < z0 ∨ z1 < 1 ∨ 1000 < z1
  · have NW := box (new_bad z0 z1 hrg w2)
    go_wp2_with fail
    refine NW.out.mono ?_
    rintro e w3 ⟨rfl, rfl⟩
    have B2B := B2
    clear NW
    by_cases e1 : z0 < 1
    · clear hrg
      go_wp2_with fail
      go_ret
      exact ⟨rfl, B2B.out⟩
    by_cases e2 : 128 < z0
    · clear hrg
      go_wp2_with fail
      go_ret
      exact ⟨rfl, B2B.out⟩
    by_cases e3 : z1 < 1
    · clear hrg
      go_wp2_with fail
      go_ret
      exact ⟨rfl, B2B.out⟩
    have e4 : 1000 < z1 := by omega
    clear hrg
    go_wp2_with fail
    go_ret
    exact ⟨rfl, B2B.out⟩
  obtain ⟨W, rfl⟩ := Int.eq_ofNat_of_zero_le (show 0 ≤ z0 by omega)
  obtain ⟨T, rfl⟩ := Int.eq_ofNat_of_zero_le (show 0 ≤ z1 by omega)
  have hW1 : 1 ≤ W := by omega
  have hW2 : W ≤ 128 := by omega
  have hT1 : 1 ≤ T := by omega
  have hT2 : T ≤ 1000 := by omega
  clear hrg
  have NW := new_any W T hW1 hW2 hT1 hT2 w2
  obtain ⟨B, hB⟩ : ∃ B, w2.heap.size = B := ⟨_, rfl⟩
  rw [hB] at NW
  have NW2 := box NW
  have HBB := box (show w.heap.size ≤ B from by rw [← hB]; exact B2.out.size)
  clear NW
  go_wp2_with fail
  refine NW2.out.mono ?_
  rintro e w3 ⟨gp, rfl, hgp, x3, b3⟩
  obtain ⟨gr, hgr⟩ : ∃ gr, w3.heap.size = gr := ⟨_, rfl⟩
  have kA : Below w3.heap.size w3 (w3.alloc (.cells #[.int .i64 W, .int .i64 T, .slice none 0 0, .int .i64 0, .int .i64 0, .int .i64 0, .int .i64 0, .int .i64 0] 31)) := (Below.refl _ _).alloc (Nat.le_refl _) _
  have X4 := box (show PsAt B (fun q => q < B ∨ q = gr ∨ (Value.slice none 0 0).ownBlock = some q) (w3.alloc (.cells #[.int .i64 W, .int .i64 T, .slice none 0 0, .int .i64 0, .int .i64 0, .int .i64 0, .int .i64 0, .int .i64 0] 31)) gp (.slice none 0 0) (s0 W T) from
    (x3.zone (E' := fun q => q < B ∨ q = gr ∨ (Value.slice none 0 0).ownBlock = some q) (fun q hq h => h.elim id (fun h => h.elim (fun e => by omega) (fun e => by cases e)))).keep kA)
  have Y4 := box (show RsAt B (fun q => q < B ∨ q = gp ∨ (Value.slice none 0 0).ownBlock = some q) (w3.alloc (.cells #[.int .i64 W, .int .i64 T, .slice none 0 0, .int .i64 0, .int .i64 0, .int .i64 0, .int .i64 0, .int .i64 0] 31)) gr (.slice none 0 0) (s0 W T) from
    ⟨R8.new w3 (.int .i64 W) (.int .i64 T) (.slice none 0 0) (.int .i64 0) (.int .i64 0) (.int .i64 0) (.int .i64 0) (.int .i64 0) 31 gr hgr.symm, QRow.nil _ _, (fun h => by cases h), by have := b3.size; have := x3.m.lt; omega, ⟨fun h => h.elim (fun h => by have := x3.m.lt; omega) (fun h => h.elim (fun e => by have := x3.m.lt; omega) (fun e => by cases e)), fun k hk => by cases hk⟩, fun x hx => by cases hx⟩)
  have K4 := box (show Below w.heap.size w (w3.alloc (.cells #[.int .i64 W, .int .i64 T, .slice none 0 0, .int .i64 0, .int .i64 0, .int .i64 0, .int .i64 0, .int .i64 0] 31)) from
    (below2 B2.out b3 HBB.out).trans (kA.mono (below2 B2.out b3 HBB.out).size))
  clear NW2 b3 x3 kA hB
  go_upto_region 11 with fail
  generalize w3.alloc (.cells #[.int .i64 W, .int .i64 T, .slice none 0 0, .int .i64 0, .int .i64 0, .int .i64 0, .int .i64 0, .int .i64 0] 31) = w4 at X4 Y4 K4 ⊢
  clear hgr
  go_wp2_with fail
  go_loopw [61] (fun t61 wr => ∃ (k : Nat) (vp vr : Value) (p r : Rs), k ≤ m ∧ t61 = .int .i64 k ∧ Box (Both B gp gr wr k vp vr p r) ∧ Box (r.W = W) ∧ Box (Below w.heap.size w wr)) (fun t61 _ => m - (intOf t61).toNat)
  case atStart => exact ⟨0, _, _, _, _, by omega, rfl, box ⟨X4.out, Y4.out, rfl, s0_ok hW1 hW2 hT1 hT2, rfl, Nat.le_refl _⟩, box rfl, K4⟩
  case round =>
    obtain ⟨k, vp, vr, p, r, hk, rfl, hBO, HRW, hbel⟩ := hrel
    by_cases hlt : k < m
    · obtain ⟨g, i, rfl, hat⟩ := HL.out.at (show k < l.length by omega)
      have HO := box (show ∃ o, l[k]'(by omega) = o ∧ o ∈ l from ⟨_, rfl, List.getElem_mem _⟩)
      obtain ⟨o, ho, hom⟩ := HO.out
      rw [ho] at hat
      have hd100 := H100.out o hom
      obtain ⟨a1, l1, c1, x0, x1, x2, x3, x4, x5⟩ := hat
      obtain ⟨kd, num, data⟩ := o
      simp only at x0 x1 x3 x4 hd100
      have HBQ := box (show data ≠ [] → ∀ q, a1 = some q → q.block < B from fun h q hq => by
        rw [hq] at x4
        have := in_lt x4 h
        have := HBB.out
        omega)
      have HIN0 := box (x4.below hbel.out)
      have y0 := keepc hbel.out x0
      have y1 := keepc hbel.out x1
      have y2 := keepc hbel.out x2
      have HXL := box x3
      have HNL := box x5
      have lx := World.block_lt_of_cell? wr ⟨g, i + k * 3, none⟩ y0
      obtain ⟨mm, hmm⟩ : ∃ mm, wr.heap.size = mm := ⟨_, rfl⟩
      have kA : Below wr.heap.size wr (wr.alloc (.cells #[.int .i64 kd, .int .i64 num, .slice a1 l1 c1] 34)) := (Below.refl _ _).alloc (Nat.le_refl _) _
      have q0 : (wr.alloc (.cells #[.int .i64 kd, .int .i64 num, .slice a1 l1 c1] 34)).cell? ⟨mm, 0, none⟩ = some (.int .i64 kd) := by rw [← hmm]; exact World.cell?_alloc_mark wr #[.int .i64 kd, .int .i64 num, .slice a1 l1 c1] _ (0, 0) 0
      have q1 : (wr.alloc (.cells #[.int .i64 kd, .int .i64 num, .slice a1 l1 c1] 34)).cell? ⟨mm, 1, none⟩ = some (.int .i64 num) := by rw [← hmm]; exact World.cell?_alloc_mark wr #[.int .i64 kd, .int .i64 num, .slice a1 l1 c1] _ (0, 0) 1
      have q2 : (wr.alloc (.cells #[.int .i64 kd, .int .i64 num, .slice a1 l1 c1] 34)).cell? ⟨mm, 2, none⟩ = some (.slice a1 l1 c1) := by rw [← hmm]; exact World.cell?_alloc_mark wr #[.int .i64 kd, .int .i64 num, .slice a1 l1 c1] _ (0, 0) 2
      have BO := box (hBO.out.keep kA)
      have HIN := box (HIN0.out.below kA)
      have HBA := box (hbel.out.trans (kA.mono hbel.out.size))
      have HMM := box (show mm < (wr.alloc (.cells #[.int .i64 kd, .int .i64 num, .slice a1 l1 c1] 34)).heap.size from by rw [size_alloc']; omega)
      have HMP := box (show (mm ≠ gp ∧ some mm ≠ vp.ownBlock ∧ mm ≠ gr ∧ some mm ≠ vr.ownBlock) from ⟨fun e => by have := hBO.out.x.m.lt; omega, fun e => by have := (hBO.out.x.row.blk _ e.symm).2; omega, fun e => by have := hBO.out.y.m.lt; omega, fun e => by have := (hBO.out.y.row.blk _ e.symm).2; omega⟩)
      clear x0 x1 x2 x3 x4 x5 kA ho hom HO hd100
      go_upto_region 14 with fail
      generalize wr.alloc (.cells #[.int .i64 kd, .int .i64 num, .slice a1 l1 c1] 34) = wa at q0 q1 q2 BO HIN HBA HMM ⊢
      clear hBO HIN0 hbel y0 y1 y2 lx hmm
      by_cases h0 : kd = 0
      · have d0 : (kd == 0) = true := by simp [h0]
        clear h0
        go_wp2_with fail
        refine wp_region_held_drew (S := (fun w' => w'.cell? ⟨mm, 2, none⟩ = some (.slice a1 l1 c1))) (by kernel_rfl) (q2) (fun hHeld => ?_)
        clear q0 q1
        replace BO := box (BO.out.keep (Below.refl _ _).drew)
        replace HIN := box (HIN.out.below (Below.refl _ _).drew)
        replace HBA := box HBA.out.drew
        have HMD := box (show mm < wa.drew.heap.size from HMM.out)
        have Q2 := box (show wa.drew.cell? ⟨mm, 2, none⟩ = some (.slice a1 l1 c1) from q2)
        clear q2 HMM
        generalize wa.drew = wb at BO HIN HBA HMD Q2 hHeld ⊢
        have EQ := BO.out.sim.eqs
        have hok := BO.out.ok
        have hb1 := BO.out.b
        have hb2 := BO.out.ta
        have hL1 := hok.W; have hw2 := hok.w2
        have OFp := offer_any a1 l1 c1 data HXL.out HNL.out B _ gp vp p wb (fun q h => h.elim (fun h => Nat.lt_of_lt_of_le h (Nat.le_trans BO.out.x.bg (Nat.le_of_lt BO.out.x.m.lt))) (fun h => h.elim (fun e => by rw [e]; exact BO.out.y.m.lt) (fun e => (BO.out.y.row.blk q e).2))) BO.out.x (by omega) HIN.out
        rw [BO.out.sim.offC] at OFp
        have OFr := box (fun (v6 : Value) (w6 : World) (y6 : RsAt B (fun q => q < B ∨ q = gp ∨ v6.ownBlock = some q) w6 gr vr r) (hE : ∀ q, (q < B ∨ q = gp ∨ v6.ownBlock = some q) → q < w6.heap.size) (hin : In w6 a1 data) => roffer_any a1 l1 c1 data HXL.out HNL.out B _ gr vr r w6 hE y6 (by omega) hL1 (by omega) hin)
        generalize offC r data = code at OFp OFr
        have OFq := box OFp
        have bcode : (code != code) = false := by simp
        clear OFp hok hb1 hb2 hL1 hw2 EQ
        refine wpAnyH_take (i := 0) (oi := { dst := some 69, op := Go.Op.move (Go.Operand.tmp 7), type := 25, pos := "law.go:63", after := #[], guard := none }) (v := ?_) rfl (by kernel_rfl) (by kernel_rfl) (by kernel_rfl) (fun _ _ _ h => h) (Or.inl ⟨by rfl, ?_⟩) (by assumption) ?_
        rotate_left
        · (intro w hSw; (try dsimp only at hSw); go_simp; (try with_reducible rfl))
        simp only [Act.put, List.setIfInBounds_toArray, List.set_cons_zero, List.set_cons_succ]
        refine wpAnyH_take (i := 1) (oi := { dst := some 70, op := Go.Op.fieldAddr 34 (Go.Operand.tmp 11) 2, type := 0, pos := "law.go:63", after := #[], guard := none }) (v := ?_) rfl (by kernel_rfl) (by kernel_rfl) (by kernel_rfl) (fun _ _ _ h => h) (Or.inl ⟨by rfl, ?_⟩) (by assumption) ?_
        rotate_left
        · (intro w hSw; (try dsimp only at hSw); go_simp; (try with_reducible rfl))
        simp only [Act.put, List.setIfInBounds_toArray, List.set_cons_zero, List.set_cons_succ]
        refine wpAnyH_take (i := 2) (oi := { dst := some 71, op := Go.Op.load 32 (Go.Operand.tmp 70), type := 32, pos := "law.go:63", after := #[{ on := 1, ground := Go.Ground.data }], guard := none }) (v := ?_) rfl (by kernel_rfl) (by kernel_rfl) (by kernel_rfl) (fun _ _ _ h => h) (Or.inl ⟨by rfl, ?_⟩) (by assumption) ?_
        rotate_left
        · (intro w hSw; (try dsimp only at hSw); go_simp; (try with_reducible rfl))
        simp only [Act.put, List.setIfInBounds_toArray, List.set_cons_zero, List.set_cons_succ]
        refine wpAnyH_take (i := 4) (oi := { dst := some 73, op := Go.Op.fieldAddr 34 (Go.Operand.tmp 11) 2, type := 0, pos := "law.go:63", after := #[], guard := none }) (v := ?_) rfl (by kernel_rfl) (by kernel_rfl) (by kernel_rfl) (fun _ _ _ h => h) (Or.inl ⟨by rfl, ?_⟩) (by assumption) ?_
        rotate_left
        · (intro w hSw; (try dsimp only at hSw); go_simp; (try with_reducible rfl))
        simp only [Act.put, List.setIfInBounds_toArray, List.set_cons_zero, List.set_cons_succ]
        refine wpAnyH_take (i := 5) (oi := { dst := some 74, op := Go.Op.load 32 (Go.Operand.tmp 73), type := 32, pos := "law.go:63", after := #[{ on := 4, ground := Go.Ground.data }], guard := none }) (v := ?_) rfl (by kernel_rfl) (by kernel_rfl) (by kernel_rfl) (fun _ _ _ h => h) (Or.inl ⟨by rfl, ?_⟩) (by assumption) ?_
        rotate_left
        · (intro w hSw; (try dsimp only at hSw); go_simp; (try with_reducible rfl))
        simp only [Act.put, List.setIfInBounds_toArray, List.set_cons_zero, List.set_cons_succ]
        refine wpAnyH_ready (rs := [3]) (by kernel_rfl) (by simp) ?_
        refine (AllReadyH.cons (o := { dst := some 72, op := Go.Op.call { callee := Go.Callee.value (Go.Operand.func 14), args := #[Go.Operand.tmp 69, Go.Operand.tmp 71], argTypes := #[25, 32] }, type := 26, pos := "law.go:63", after := #[{ on := 0, ground := Go.Ground.data }, { on := 2, ground := Go.Ground.data }], guard := none }) rfl (fun K hK => ?_) AllReadyH.nil)
        go_simp
        refine OFq.out.mono ?_
        rintro e w6 ⟨v6, a6, c6, rfl, x6, st6⟩
        have hS6 : w6.cell? ⟨mm, 2, none⟩ = some (.slice a1 l1 c1) := by rw [World.cell?_of_block (a := ⟨mm, 2, none⟩) (st6.apart.block mm HMD.out HMP.out.1 HMP.out.2.1)]; exact Q2.out
        have X6 := box x6
        have ST6 := box st6
        have Y6 := box (BO.out.prog st6)
        have B6 := box (below2 HBA.out (BO.out.x.steps st6 (Below.refl B wb)) HBB.out)
        have IN6 := box (show In w6 a1 data from in_same HIN.out (fun hx q hq => st6.apart.block _ (Nat.lt_of_lt_of_le (HBQ.out hx q hq) (Nat.le_trans BO.out.x.bg (Nat.le_of_lt BO.out.x.m.lt))) (fun e => by have := HBQ.out hx q hq; have := BO.out.x.bg; omega) (fun e => by have := HBQ.out hx q hq; have := (BO.out.x.row.blk _ e.symm).1; omega)))
        have OF6 := box (OFr.out v6 w6 Y6.out (fun q h => h.elim (fun h => Nat.lt_of_lt_of_le h (Nat.le_trans X6.out.bg (Nat.le_of_lt X6.out.m.lt))) (fun h => h.elim (fun e => by rw [e]; exact X6.out.m.lt) (fun e => (X6.out.row.blk q e).2))) IN6.out)
        clear x6 st6 OFq OFr
        refine hK.out _ _ (hS6) (fun hHeldx => ?_)
        clear hK K
        refine wpAnyH_ready (rs := [6]) (by kernel_rfl) (by simp) ?_
        refine (AllReadyH.cons (o := { dst := some 75, op := Go.Op.call { callee := Go.Callee.value (Go.Operand.func 15), args := #[Go.Operand.tmp 9, Go.Operand.tmp 74], argTypes := #[31, 32] }, type := 3, pos := "law.go:63", after := #[{ on := 5, ground := Go.Ground.data }, { on := 3, ground := Go.Ground.chain }], guard := none }) rfl (fun K hK => ?_) AllReadyH.nil)
        go_simp
        refine OF6.out.mono ?_
        rintro e w7 ⟨v7, a7, c7, rfl, y7, st7⟩
        have hS7 : w7.cell? ⟨mm, 2, none⟩ = some (.slice a1 l1 c1) := by rw [World.cell?_of_block (a := ⟨mm, 2, none⟩) (st7.apart.block mm (Nat.lt_of_lt_of_le HMD.out ST6.out.apart.size) HMP.out.2.2.1 HMP.out.2.2.2)]; exact hS6
        have BN := box (show Both B gp gr w7 (k + 1) v6 v7 (offS p ⟨a6, data, c6⟩) (offS r ⟨a7, data, c7⟩) from ⟨Both.back X6.out st7, y7, BO.out.sim.off _ _ rfl, BO.out.ok.off _, (off_ta BO.out.ta _).1, Nat.le_trans (off_ta BO.out.ta _).2 (Nat.succ_le_succ BO.out.b)⟩)
        have HB7 := box (below2 B6.out (Y6.out.steps st7 (Below.refl B w6)) HBB.out)
        have HR7 := box (show (offS r ⟨a7, data, c7⟩).W = W from (off_W r _).trans HRW.out)
        clear y7 st7 OF6
        refine hK.out _ _ (hS7) (fun hHeldx => ?_)
        clear hK K
        refine wpAnyH_take (i := 7) (oi := { dst := some 76, op := Go.Op.binOp Go.BinOp.neq 26 (Go.Operand.tmp 72) (Go.Operand.tmp 75) 26, type := 4, pos := "law.go:63", after := #[{ on := 3, ground := Go.Ground.data }, { on := 6, ground := Go.Ground.data }], guard := none }) (v := ?_) rfl (by kernel_rfl) (by kernel_rfl) (by kernel_rfl) (fun _ _ _ h => h) (Or.inl ⟨by rfl, ?_⟩) (by assumption) ?_
        rotate_left
        · (intro w hSw; (try dsimp only at hSw); go_simp; (try with_reducible rfl))
        simp only [Act.put, List.setIfInBounds_toArray, List.set_cons_zero, List.set_cons_succ]
        refine wpAnyH_done (by kernel_rfl) ?_ _
        go_wp2_with fail
        clear HRW BO HBA X6 Y6 ST6 B6 IN6
        generalize offS p ⟨a6, data, c6⟩ = p7 at BN
        generalize offS r ⟨a7, data, c7⟩ = r7 at BN HR7
        clear hS6 hS7 Q2 HMD
        have EQ := BN.out.sim.eqs
        have hok := BN.out.ok
        have hb1 := BN.out.b
        have hb2 := BN.out.ta
        have hL1 := hok.W
        have TT := box (ptotal_any _ _ gp v6 p7 w7 BN.out.x (by omega) (by omega))
        obtain ⟨A, hA⟩ : ∃ A, r7.ac = A := ⟨_, rfl⟩
        obtain ⟨L, hL⟩ : ∃ L, r7.ks.length = L := ⟨_, rfl⟩
        rw [EQ.2.2.2.1, EQ.2.2.1, hA, hL] at TT
        have EQL := box (show p7.ks.length = L from EQ.2.2.1.trans hL)
        have HTA := box (show ((r7.ta : Nat) : Int) = (A : Int) + (L : Int) from by omega)
        have HLA := box hL
        have HAA := box hA
        have l1 : L ≤ W := by have := HR7.out; omega
        have l2 : A + L ≤ 400 := by omega
        clear hA hL hok hb1 hb2 hL1 EQ
        go_wp2_with fail
        refine TT.out.mono ?_
        rintro e wM ⟨rfl, t, rfl⟩
        have BM := box (BN.out.keep (drewN_below w7 t))
        have HBM := box (HB7.out.trans ((drewN_below w7 t).mono HB7.out.size))
        clear BN HB7 TT
        (try clear q0 q1 q2)
        generalize w7.drewN t = wM at BM HBM ⊢
        have kD : Below wM.heap.size wM wM.drew := (Below.refl _ _).drew
        have KP := pkept_any _ _ gp v6 p7 wM.drew (BM.out.keep kD).x
        rw [EQL.out] at KP
        have KPq := box KP
        obtain ⟨ra, rc, hvr⟩ := BM.out.y.len
        have M := BM.out.y.m
        rw [hvr, HLA.out, HTA.out, HAA.out] at M
        obtain ⟨p0, p1, p2, p3, p4, p5, p6, p7, pz⟩ := M
        have b1 : ((L : Int) != (L : Int)) = false := by simp
        have b2 : ((A : Int) + (L : Int) != (A : Int) + (L : Int)) = false := by simp
        have b3 : ((A : Int) != (A : Int)) = false := by simp
        have d1 : decide ((W : Int) < (L : Int)) = false := decide_eq_false (by omega)
        have d2 : decide (W < L) = false := decide_eq_false (by omega)
        have s1 : IntKind.i64.wrap ((A : Int) + (L : Int) - (A : Int)) = (L : Int) := by rw [IntKind.wrap_i64]; omega
        have s2 : IntKind.i64.wrap (L : Int) = (L : Int) := by rw [IntKind.wrap_i64]; omega
        clear KP hvr p0 p1 p5 p6 p7 pz
        go_wp2_with fail
        refine wp_region_held_drew (S := (fun w' => w' = wM.drew)) (by kernel_rfl) (rfl) (fun hHeld => ?_)
        refine wpAnyH_take (i := 0) (oi := { dst := some 130, op := Go.Op.move (Go.Operand.tmp 7), type := 25, pos := "law.go:82", after := #[], guard := none }) (v := ?_) rfl (by kernel_rfl) (by kernel_rfl) (by kernel_rfl) (fun _ _ _ h => h) (Or.inl ⟨by rfl, ?_⟩) (by assumption) ?_
        rotate_left
        · (intro w hSw; (try dsimp only at hSw); subst hSw; go_simp; (try with_reducible rfl))
        simp only [Act.put, List.setIfInBounds_toArray, List.set_cons_zero, List.set_cons_succ]
        refine wpAnyH_take (i := 2) (oi := { dst := some 132, op := Go.Op.fieldAddr 31 (Go.Operand.tmp 9) 2, type := 0, pos := "law.go:82", after := #[], guard := none }) (v := ?_) rfl (by kernel_rfl) (by kernel_rfl) (by kernel_rfl) (fun _ _ _ h => h) (Or.inl ⟨by rfl, ?_⟩) (by assumption) ?_
        rotate_left
        · (intro w hSw; (try dsimp only at hSw); subst hSw; go_simp; (try with_reducible rfl))
        simp only [Act.put, List.setIfInBounds_toArray, List.set_cons_zero, List.set_cons_succ]
        refine wpAnyH_take (i := 3) (oi := { dst := some 133, op := Go.Op.load 29 (Go.Operand.tmp 132), type := 29, pos := "law.go:82", after := #[{ on := 2, ground := Go.Ground.data }], guard := none }) (v := ?_) rfl (by kernel_rfl) (by kernel_rfl) (by kernel_rfl) (fun _ _ _ h => h) (Or.inl ⟨by rfl, ?_⟩) (by assumption) ?_
        rotate_left
        · (intro w hSw; (try dsimp only at hSw); subst hSw; go_simp; (try with_reducible rfl))
        simp only [Act.put, List.setIfInBounds_toArray, List.set_cons_zero, List.set_cons_succ]
        refine wpAnyH_take (i := 4) (oi := { dst := some 134, op := Go.Op.call { callee := Go.Callee.builtin Go.Builtin.len, args := #[Go.Operand.tmp 133], argTypes := #[29] }, type := 3, pos := "law.go:82", after := #[{ on := 3, ground := Go.Ground.data }], guard := none }) (v := ?_) rfl (by kernel_rfl) (by kernel_rfl) (by kernel_rfl) (fun _ _ _ h => h) (Or.inl ⟨by rfl, ?_⟩) (by assumption) ?_
        rotate_left
        · (intro w hSw; (try dsimp only at hSw); subst hSw; go_simp; (try with_reducible rfl))
        simp only [Act.put, List.setIfInBounds_toArray, List.set_cons_zero, List.set_cons_succ]
        refine wpAnyH_ready (rs := [1]) (by kernel_rfl) (by simp) ?_
        refine (AllReadyH.cons (o := { dst := some 131, op := Go.Op.call { callee := Go.Callee.value (Go.Operand.func 23), args := #[Go.Operand.tmp 130], argTypes := #[25] }, type := 3, pos := "law.go:82", after := #[{ on := 0, ground := Go.Ground.data }], guard := none }) rfl (fun K hK => ?_) AllReadyH.nil)
        go_simp
        refine KPq.out.mono ?_
        rintro e wK ⟨rfl, hwK⟩
        subst hwK
        refine hK.out _ _ (rfl) (fun hHeldx => ?_)
        clear hK K
        refine wpAnyH_take (i := 5) (oi := { dst := some 135, op := Go.Op.binOp Go.BinOp.neq 3 (Go.Operand.tmp 131) (Go.Operand.tmp 134) 3, type := 4, pos := "law.go:82", after := #[{ on := 1, ground := Go.Ground.data }, { on := 4, ground := Go.Ground.data }], guard := none }) (v := ?_) rfl (by kernel_rfl) (by kernel_rfl) (by kernel_rfl) (fun _ _ _ h => h) (Or.inl ⟨by rfl, ?_⟩) (by assumption) ?_
        rotate_left
        · (intro w hSw; (try dsimp only at hSw); subst hSw; go_simp; (try with_reducible rfl))
        simp only [Act.put, List.setIfInBounds_toArray, List.set_cons_zero, List.set_cons_succ]
        refine wpAnyH_take (i := 6) (oi := { dst := some 136, op := Go.Op.move (Go.Operand.tmp 135), type := 4, pos := "law.go:82", after := #[{ on := 5, ground := Go.Ground.data }, { on := 1, ground := Go.Ground.chain }], guard := none }) (v := ?_) rfl (by kernel_rfl) (by kernel_rfl) (by kernel_rfl) (fun _ _ _ h => h) (Or.inl ⟨by rfl, ?_⟩) (by assumption) ?_
        rotate_left
        · (intro w hSw; (try dsimp only at hSw); subst hSw; go_simp; (try with_reducible rfl))
        simp only [Act.put, List.setIfInBounds_toArray, List.set_cons_zero, List.set_cons_succ]
        refine wpAnyH_take (i := 7) (oi := { dst := some 137, op := Go.Op.move (Go.Operand.tmp 18), type := 3, pos := "law.go:82", after := #[{ on := 6, ground := Go.Ground.guard }], guard := some (6, false) }) (v := ?_) rfl (by kernel_rfl) (by kernel_rfl) (by kernel_rfl) (fun _ _ _ h => h) (Or.inl ⟨by rfl, ?_⟩) (by assumption) ?_
        rotate_left
        · (intro w hSw; (try dsimp only at hSw); subst hSw; go_simp; (try with_reducible rfl))
        simp only [Act.put, List.setIfInBounds_toArray, List.set_cons_zero, List.set_cons_succ]
        refine wpAnyH_take (i := 8) (oi := { dst := some 138, op := Go.Op.fieldAddr 31 (Go.Operand.tmp 9) 3, type := 0, pos := "law.go:82", after := #[{ on := 6, ground := Go.Ground.guard }], guard := some (6, false) }) (v := ?_) rfl (by kernel_rfl) (by kernel_rfl) (by kernel_rfl) (fun _ _ _ h => h) (Or.inl ⟨by rfl, ?_⟩) (by assumption) ?_
        rotate_left
        · (intro w hSw; (try dsimp only at hSw); subst hSw; go_simp; (try with_reducible rfl))
        simp only [Act.put, List.setIfInBounds_toArray, List.set_cons_zero, List.set_cons_succ]
        refine wpAnyH_take (i := 9) (oi := { dst := some 139, op := Go.Op.load 3 (Go.Operand.tmp 138), type := 3, pos := "law.go:82", after := #[{ on := 8, ground := Go.Ground.data }, { on := 6, ground := Go.Ground.guard }], guard := some (6, false) }) (v := ?_) rfl (by kernel_rfl) (by kernel_rfl) (by kernel_rfl) (fun _ _ _ h => h) (Or.inl ⟨by rfl, ?_⟩) (by assumption) ?_
        rotate_left
        · (intro w hSw; (try dsimp only at hSw); subst hSw; go_simp; (try with_reducible rfl))
        simp only [Act.put, List.setIfInBounds_toArray, List.set_cons_zero, List.set_cons_succ]
        refine wpAnyH_take (i := 10) (oi := { dst := some 140, op := Go.Op.binOp Go.BinOp.neq 3 (Go.Operand.tmp 137) (Go.Operand.tmp 139) 3, type := 4, pos := "law.go:82", after := #[{ on := 7, ground := Go.Ground.data }, { on := 9, ground := Go.Ground.data }, { on := 6, ground := Go.Ground.guard }], guard := some (6, false) }) (v := ?_) rfl (by kernel_rfl) (by kernel_rfl) (by kernel_rfl) (fun _ _ _ h => h) (Or.inl ⟨by rfl, ?_⟩) (by assumption) ?_
        rotate_left
        · (intro w hSw; (try dsimp only at hSw); subst hSw; go_simp; (try with_reducible rfl))
        simp only [Act.put, List.setIfInBounds_toArray, List.set_cons_zero, List.set_cons_succ]
        refine wpAnyH_take (i := 11) (oi := { dst := some 141, op := Go.Op.pick (Go.Operand.tmp 136) (Go.Operand.const (Go.Value.bool true)) (Go.Operand.tmp 140), type := 4, pos := "law.go:82", after := #[{ on := 6, ground := Go.Ground.data }, { on := 10, ground := Go.Ground.data }], guard := none }) (v := ?_) rfl (by kernel_rfl) (by kernel_rfl) (by kernel_rfl) (fun _ _ _ h => h) (Or.inl ⟨by rfl, ?_⟩) (by assumption) ?_
        rotate_left
        · (intro w hSw; (try dsimp only at hSw); subst hSw; go_simp; (try with_reducible rfl))
        simp only [Act.put, List.setIfInBounds_toArray, List.set_cons_zero, List.set_cons_succ]
        refine wpAnyH_take (i := 12) (oi := { dst := some 142, op := Go.Op.move (Go.Operand.tmp 141), type := 4, pos := "law.go:82", after := #[{ on := 11, ground := Go.Ground.data }, { on := 6, ground := Go.Ground.chain }], guard := none }) (v := ?_) rfl (by kernel_rfl) (by kernel_rfl) (by kernel_rfl) (fun _ _ _ h => h) (Or.inl ⟨by rfl, ?_⟩) (by assumption) ?_
        rotate_left
        · (intro w hSw; (try dsimp only at hSw); subst hSw; go_simp; (try with_reducible rfl))
        simp only [Act.put, List.setIfInBounds_toArray, List.set_cons_zero, List.set_cons_succ]
        refine wpAnyH_take (i := 13) (oi := { dst := some 143, op := Go.Op.move (Go.Operand.tmp 19), type := 3, pos := "law.go:82", after := #[{ on := 12, ground := Go.Ground.guard }], guard := some (12, false) }) (v := ?_) rfl (by kernel_rfl) (by kernel_rfl) (by kernel_rfl) (fun _ _ _ h => h) (Or.inl ⟨by rfl, ?_⟩) (by assumption) ?_
        rotate_left
        · (intro w hSw; (try dsimp only at hSw); subst hSw; go_simp; (try with_reducible rfl))
        simp only [Act.put, List.setIfInBounds_toArray, List.set_cons_zero, List.set_cons_succ]
        refine wpAnyH_take (i := 14) (oi := { dst := some 144, op := Go.Op.fieldAddr 31 (Go.Operand.tmp 9) 4, type := 0, pos := "law.go:82", after := #[{ on := 12, ground := Go.Ground.guard }], guard := some (12, false) }) (v := ?_) rfl (by kernel_rfl) (by kernel_rfl) (by kernel_rfl) (fun _ _ _ h => h) (Or.inl ⟨by rfl, ?_⟩) (by assumption) ?_
        rotate_left
        · (intro w hSw; (try dsimp only at hSw); subst hSw; go_simp; (try with_reducible rfl))
        simp only [Act.put, List.setIfInBounds_toArray, List.set_cons_zero, List.set_cons_succ]
        refine wpAnyH_take (i := 15) (oi := { dst := some 145, op := Go.Op.load 3 (Go.Operand.tmp 144), type := 3, pos := "law.go:82", after := #[{ on := 14, ground := Go.Ground.data }, { on := 12, ground := Go.Ground.guard }], guard := some (12, false) }) (v := ?_) rfl (by kernel_rfl) (by kernel_rfl) (by kernel_rfl) (fun _ _ _ h => h) (Or.inl ⟨by rfl, ?_⟩) (by assumption) ?_
        rotate_left
        · (intro w hSw; (try dsimp only at hSw); subst hSw; go_simp; (try with_reducible rfl))
        simp only [Act.put, List.setIfInBounds_toArray, List.set_cons_zero, List.set_cons_succ]
        refine wpAnyH_take (i := 16) (oi := { dst := some 146, op := Go.Op.binOp Go.BinOp.neq 3 (Go.Operand.tmp 143) (Go.Operand.tmp 145) 3, type := 4, pos := "law.go:82", after := #[{ on := 13, ground := Go.Ground.data }, { on := 15, ground := Go.Ground.data }, { on := 12, ground := Go.Ground.guard }], guard := some (12, false) }) (v := ?_) rfl (by kernel_rfl) (by kernel_rfl) (by kernel_rfl) (fun _ _ _ h => h) (Or.inl ⟨by rfl, ?_⟩) (by assumption) ?_
        rotate_left
        · (intro w hSw; (try dsimp only at hSw); subst hSw; go_simp; (try with_reducible rfl))
        simp only [Act.put, List.setIfInBounds_toArray, List.set_cons_zero, List.set_cons_succ]
        refine wpAnyH_take (i := 17) (oi := { dst := some 147, op := Go.Op.pick (Go.Operand.tmp 142) (Go.Operand.const (Go.Value.bool true)) (Go.Operand.tmp 146), type := 4, pos := "law.go:82", after := #[{ on := 12, ground := Go.Ground.data }, { on := 16, ground := Go.Ground.data }], guard := none }) (v := ?_) rfl (by kernel_rfl) (by kernel_rfl) (by kernel_rfl) (fun _ _ _ h => h) (Or.inl ⟨by rfl, ?_⟩) (by assumption) ?_
        rotate_left
        · (intro w hSw; (try dsimp only at hSw); subst hSw; go_simp; (try with_reducible rfl))
        simp only [Act.put, List.setIfInBounds_toArray, List.set_cons_zero, List.set_cons_succ]
        refine wpAnyH_take (i := 18) (oi := { dst := some 148, op := Go.Op.move (Go.Operand.tmp 147), type := 4, pos := "law.go:82", after := #[{ on := 17, ground := Go.Ground.data }, { on := 12, ground := Go.Ground.chain }], guard := none }) (v := ?_) rfl (by kernel_rfl) (by kernel_rfl) (by kernel_rfl) (fun _ _ _ h => h) (Or.inl ⟨by rfl, ?_⟩) (by assumption) ?_
        rotate_left
        · (intro w hSw; (try dsimp only at hSw); subst hSw; go_simp; (try with_reducible rfl))
        simp only [Act.put, List.setIfInBounds_toArray, List.set_cons_zero, List.set_cons_succ]
        refine wpAnyH_take (i := 19) (oi := { dst := some 149, op := Go.Op.move (Go.Operand.tmp 7), type := 25, pos := "law.go:82", after := #[{ on := 18, ground := Go.Ground.guard }], guard := some (18, false) }) (v := ?_) rfl (by kernel_rfl) (by kernel_rfl) (by kernel_rfl) (fun _ _ _ h => h) (Or.inl ⟨by rfl, ?_⟩) (by assumption) ?_
        rotate_left
        · (intro w hSw; (try dsimp only at hSw); subst hSw; go_simp; (try with_reducible rfl))
        simp only [Act.put, List.setIfInBounds_toArray, List.set_cons_zero, List.set_cons_succ]
        refine wpAnyH_take (i := 21) (oi := { dst := some 151, op := Go.Op.move (Go.Operand.tmp 0), type := 3, pos := "law.go:82", after := #[{ on := 18, ground := Go.Ground.guard }], guard := some (18, false) }) (v := ?_) rfl (by kernel_rfl) (by kernel_rfl) (by kernel_rfl) (fun _ _ _ h => h) (Or.inl ⟨by rfl, ?_⟩) (by assumption) ?_
        rotate_left
        · (intro w hSw; (try dsimp only at hSw); subst hSw; go_simp; (try with_reducible rfl))
        simp only [Act.put, List.setIfInBounds_toArray, List.set_cons_zero, List.set_cons_succ]
        refine wpAnyH_ready (rs := [20]) (by kernel_rfl) (by simp) ?_
        refine (AllReadyH.cons (o := { dst := some 150, op := Go.Op.call { callee := Go.Callee.value (Go.Operand.func 23), args := #[Go.Operand.tmp 149], argTypes := #[25] }, type := 3, pos := "law.go:82", after := #[{ on := 19, ground := Go.Ground.data }, { on := 18, ground := Go.Ground.chain }, { on := 18, ground := Go.Ground.guard }], guard := some (18, false) }) rfl (fun K hK => ?_) AllReadyH.nil)
        go_simp
        refine KPq.out.mono ?_
        rintro e wK ⟨rfl, hwK⟩
        subst hwK
        refine hK.out _ _ (rfl) (fun hHeldx => ?_)
        clear hK K
        refine wpAnyH_take (i := 22) (oi := { dst := some 152, op := Go.Op.binOp Go.BinOp.gtr 3 (Go.Operand.tmp 150) (Go.Operand.tmp 151) 3, type := 4, pos := "law.go:82", after := #[{ on := 20, ground := Go.Ground.data }, { on := 21, ground := Go.Ground.data }, { on := 18, ground := Go.Ground.guard }], guard := some (18, false) }) (v := ?_) rfl (by kernel_rfl) (by kernel_rfl) (by kernel_rfl) (fun _ _ _ h => h) (Or.inl ⟨by rfl, ?_⟩) (by assumption) ?_
        rotate_left
        · (intro w hSw; (try dsimp only at hSw); subst hSw; go_simp; (try with_reducible rfl))
        simp only [Act.put, List.setIfInBounds_toArray, List.set_cons_zero, List.set_cons_succ]
        refine wpAnyH_take (i := 23) (oi := { dst := some 153, op := Go.Op.pick (Go.Operand.tmp 148) (Go.Operand.const (Go.Value.bool true)) (Go.Operand.tmp 152), type := 4, pos := "law.go:82", after := #[{ on := 18, ground := Go.Ground.data }, { on := 22, ground := Go.Ground.data }], guard := none }) (v := ?_) rfl (by kernel_rfl) (by kernel_rfl) (by kernel_rfl) (fun _ _ _ h => h) (Or.inl ⟨by rfl, ?_⟩) (by assumption) ?_
        rotate_left
        · (intro w hSw; (try dsimp only at hSw); subst hSw; go_simp; (try with_reducible rfl))
        simp only [Act.put, List.setIfInBounds_toArray, List.set_cons_zero, List.set_cons_succ]
        refine wpAnyH_take (i := 24) (oi := { dst := some 154, op := Go.Op.move (Go.Operand.tmp 153), type := 4, pos := "law.go:82", after := #[{ on := 23, ground := Go.Ground.data }, { on := 20, ground := Go.Ground.chain }], guard := none }) (v := ?_) rfl (by kernel_rfl) (by kernel_rfl) (by kernel_rfl) (fun _ _ _ h => h) (Or.inl ⟨by rfl, ?_⟩) (by assumption) ?_
        rotate_left
        · (intro w hSw; (try dsimp only at hSw); subst hSw; go_simp; (try with_reducible rfl))
        simp only [Act.put, List.setIfInBounds_toArray, List.set_cons_zero, List.set_cons_succ]
        refine wpAnyH_take (i := 25) (oi := { dst := some 155, op := Go.Op.move (Go.Operand.tmp 18), type := 3, pos := "law.go:82", after := #[{ on := 24, ground := Go.Ground.guard }], guard := some (24, false) }) (v := ?_) rfl (by kernel_rfl) (by kernel_rfl) (by kernel_rfl) (fun _ _ _ h => h) (Or.inl ⟨by rfl, ?_⟩) (by assumption) ?_
        rotate_left
        · (intro w hSw; (try dsimp only at hSw); subst hSw; go_simp; (try with_reducible rfl))
        simp only [Act.put, List.setIfInBounds_toArray, List.set_cons_zero, List.set_cons_succ]
        refine wpAnyH_take (i := 26) (oi := { dst := some 156, op := Go.Op.move (Go.Operand.tmp 19), type := 3, pos := "law.go:82", after := #[{ on := 24, ground := Go.Ground.guard }], guard := some (24, false) }) (v := ?_) rfl (by kernel_rfl) (by kernel_rfl) (by kernel_rfl) (fun _ _ _ h => h) (Or.inl ⟨by rfl, ?_⟩) (by assumption) ?_
        rotate_left
        · (intro w hSw; (try dsimp only at hSw); subst hSw; go_simp; (try with_reducible rfl))
        simp only [Act.put, List.setIfInBounds_toArray, List.set_cons_zero, List.set_cons_succ]
        refine wpAnyH_take (i := 27) (oi := { dst := some 157, op := Go.Op.binOp Go.BinOp.sub 3 (Go.Operand.tmp 155) (Go.Operand.tmp 156) 3, type := 3, pos := "law.go:82", after := #[{ on := 25, ground := Go.Ground.data }, { on := 26, ground := Go.Ground.data }, { on := 24, ground := Go.Ground.guard }], guard := some (24, false) }) (v := ?_) rfl (by kernel_rfl) (by kernel_rfl) (by kernel_rfl) (fun _ _ _ h => h) (Or.inl ⟨by rfl, ?_⟩) (by assumption) ?_
        rotate_left
        · (intro w hSw; (try dsimp only at hSw); subst hSw; go_simp; (try with_reducible rfl))
        simp only [Act.put, List.setIfInBounds_toArray, List.set_cons_zero, List.set_cons_succ]
        refine wpAnyH_take (i := 28) (oi := { dst := some 158, op := Go.Op.move (Go.Operand.tmp 7), type := 25, pos := "law.go:82", after := #[{ on := 24, ground := Go.Ground.guard }], guard := some (24, false) }) (v := ?_) rfl (by kernel_rfl) (by kernel_rfl) (by kernel_rfl) (fun _ _ _ h => h) (Or.inl ⟨by rfl, ?_⟩) (by assumption) ?_
        rotate_left
        · (intro w hSw; (try dsimp only at hSw); subst hSw; go_simp; (try with_reducible rfl))
        simp only [Act.put, List.setIfInBounds_toArray, List.set_cons_zero, List.set_cons_succ]
        refine wpAnyH_ready (rs := [29]) (by kernel_rfl) (by simp) ?_
        refine (AllReadyH.cons (o := { dst := some 159, op := Go.Op.call { callee := Go.Callee.value (Go.Operand.func 23), args := #[Go.Operand.tmp 158], argTypes := #[25] }, type := 3, pos := "law.go:82", after := #[{ on := 28, ground := Go.Ground.data }, { on := 24, ground := Go.Ground.chain }, { on := 24, ground := Go.Ground.guard }], guard := some (24, false) }) rfl (fun K hK => ?_) AllReadyH.nil)
        go_simp
        refine KPq.out.mono ?_
        rintro e wK ⟨rfl, hwK⟩
        subst hwK
        refine hK.out _ _ (rfl) (fun hHeldx => ?_)
        clear hK K
        refine wpAnyH_take (i := 30) (oi := { dst := some 160, op := Go.Op.binOp Go.BinOp.neq 3 (Go.Operand.tmp 157) (Go.Operand.tmp 159) 3, type := 4, pos := "law.go:82", after := #[{ on := 27, ground := Go.Ground.data }, { on := 29, ground := Go.Ground.data }, { on := 24, ground := Go.Ground.guard }], guard := some (24, false) }) (v := ?_) rfl (by kernel_rfl) (by kernel_rfl) (by kernel_rfl) (fun _ _ _ h => h) (Or.inl ⟨by rfl, ?_⟩) (by assumption) ?_
        rotate_left
        · (intro w hSw; (try dsimp only at hSw); subst hSw; go_simp; (try with_reducible rfl))
        simp only [Act.put, List.setIfInBounds_toArray, List.set_cons_zero, List.set_cons_succ]
        refine wpAnyH_take (i := 31) (oi := { dst := some 161, op := Go.Op.pick (Go.Operand.tmp 154) (Go.Operand.const (Go.Value.bool true)) (Go.Operand.tmp 160), type := 4, pos := "law.go:82", after := #[{ on := 24, ground := Go.Ground.data }, { on := 30, ground := Go.Ground.data }], guard := none }) (v := ?_) rfl (by kernel_rfl) (by kernel_rfl) (by kernel_rfl) (fun _ _ _ h => h) (Or.inl ⟨by rfl, ?_⟩) (by assumption) ?_
        rotate_left
        · (intro w hSw; (try dsimp only at hSw); subst hSw; go_simp; (try with_reducible rfl))
        simp only [Act.put, List.setIfInBounds_toArray, List.set_cons_zero, List.set_cons_succ]
        refine wpAnyH_done (by kernel_rfl) ?_ _
        go_wp2_with fail
        go_roundw
        case rel => exact ⟨k + 1, v6, v7, p7, r7, by omega, by go_num, box (BM.out.keep kD), HR7, box (HBM.out.trans (kD.mono HBM.out.size))⟩
        case measure => simp [intOf]; omega
      have d0 : (kd == 0) = false := by simp [h0]
      clear h0
      by_cases h1 : kd = 1
      · have d1 : (kd == 1) = true := by simp [h1]
        clear h1
        have EQ := BO.out.sim.eqs
        have hok := BO.out.ok
        have hb1 := BO.out.b
        have hb2 := BO.out.ta
        have TKp := ptick_any B _ gp vp p wa BO.out.x (hok.sim BO.out.sim) (by omega)
        rw [BO.out.sim.tickN, BO.out.sim.tickX, BO.out.sim.tickI] at TKp
        have TKr := box (fun (v6 : Value) (w6 : World) (y6 : RsAt B (fun q => q < B ∨ q = gp ∨ v6.ownBlock = some q) w6 gr vr r) => rtick_any B _ gr vr r w6 y6 hok (by omega))
        generalize tickN r = tn at TKp TKr
        generalize tickX r = tx at TKp TKr
        generalize (tickI r).isSome = ti at TKp TKr
        have TKq := box TKp
        clear TKp hok hb1 hb2 EQ HIN HMM
        go_wp2_with fail
        clear q0 q1 q2
        refine TKq.out.mono ?_
        rintro e w6 ⟨a6, c6, rfl, o6, x6, st6⟩
        have X6 := box x6
        have O6 := box o6
        have Y6 := box (BO.out.prog st6)
        have B6 := box (below2 HBA.out (BO.out.x.steps st6 (Below.refl B wa)) HBB.out)
        have SZ6 := box st6.apart.size
        have TK6 := box (TKr.out vp w6 Y6.out)
        clear x6 o6 st6 TKq TKr
        go_wp2_with fail
        refine TK6.out.mono ?_
        rintro e w7 ⟨a7, c7, rfl, o7, y7, st7⟩
        have BN := box (show Both B gp gr w7 (k + 1) vp vr (tickS p) (tickS r) from ⟨Both.back X6.out st7, y7, BO.out.sim.tick, BO.out.ok.tick, by have h := tickS_W r; have h2 := BO.out.ta; rw [h.2.2.1, h.2.2.2.1, h.2.2.2.2]; exact h2, by have h := tickS_W r; rw [h.2.2.2.2]; exact Nat.le_succ_of_le BO.out.b⟩)
        have HB7 := box (below2 B6.out (Y6.out.steps st7 (Below.refl B w6)) HBB.out)
        have HR7 := box (show (tickS r).W = W from (tickS_W r).1.trans HRW.out)
        have O67 := row_same O6.out (fun q hq => st7.apart.block q (row_blk O6.out q hq).2 (fun e => by have h1 := (row_blk O6.out q hq).1; have h2 := BO.out.y.m.lt; omega) (fun e => by have h1 := (row_blk O6.out q hq).1; have h2 := (BO.out.y.row.blk q e.symm).2; omega))
        obtain ⟨a', c', he, hin6, -, -, -⟩ := own_any O67
        cases he
        obtain ⟨a', c', he, hin7, -, -, -⟩ := own_any o7
        cases he
        have cv6 := conv_any (c := c6) (n := tx.length) rfl hin6
        have cv7 := conv_any (c := c7) (n := tx.length) rfl hin7
        have hbe : ((strOf tx).toList != (strOf tx).toList) = false := by simp
        have bt : ((tn : Int) != (tn : Int)) = false := by simp
        have bti : (ti != ti) = false := by simp
        clear y7 o7 st7 O67 hin6 hin7 TK6
        go_wp2_with fail
        clear HRW BO HBA X6 Y6 O6 B6 SZ6 cv6 cv7
        generalize tickS p = p7 at BN
        generalize tickS r = r7 at BN HR7
        have EQ := BN.out.sim.eqs
        have hok := BN.out.ok
        have hb1 := BN.out.b
        have hb2 := BN.out.ta
        have hL1 := hok.W
        have TT := box (ptotal_any _ _ gp vp p7 w7 BN.out.x (by omega) (by omega))
        obtain ⟨A, hA⟩ : ∃ A, r7.ac = A := ⟨_, rfl⟩
        obtain ⟨L, hL⟩ : ∃ L, r7.ks.length = L := ⟨_, rfl⟩
        rw [EQ.2.2.2.1, EQ.2.2.1, hA, hL] at TT
        have EQL := box (show p7.ks.length = L from EQ.2.2.1.trans hL)
        have HTA := box (show ((r7.ta : Nat) : Int) = (A : Int) + (L : Int) from by omega)
        have HLA := box hL
        have HAA := box hA
        have l1 : L ≤ W := by have := HR7.out; omega
        have l2 : A + L ≤ 400 := by omega
        clear hA hL hok hb1 hb2 hL1 EQ
        go_wp2_with fail
        refine TT.out.mono ?_
        rintro e wM ⟨rfl, t, rfl⟩
        have BM := box (BN.out.keep (drewN_below w7 t))
        have HBM := box (HB7.out.trans ((drewN_below w7 t).mono HB7.out.size))
        clear BN HB7 TT
        (try clear q0 q1 q2)
        generalize w7.drewN t = wM at BM HBM ⊢
        have kD : Below wM.heap.size wM wM.drew := (Below.refl _ _).drew
        have KP := pkept_any _ _ gp vp p7 wM.drew (BM.out.keep kD).x
        rw [EQL.out] at KP
        have KPq := box KP
        obtain ⟨ra, rc, hvr⟩ := BM.out.y.len
        have M := BM.out.y.m
        rw [hvr, HLA.out, HTA.out, HAA.out] at M
        obtain ⟨p0, p1, p2, p3, p4, p5, p6, p7, pz⟩ := M
        have b1 : ((L : Int) != (L : Int)) = false := by simp
        have b2 : ((A : Int) + (L : Int) != (A : Int) + (L : Int)) = false := by simp
        have b3 : ((A : Int) != (A : Int)) = false := by simp
        have d1 : decide ((W : Int) < (L : Int)) = false := decide_eq_false (by omega)
        have d2 : decide (W < L) = false := decide_eq_false (by omega)
        have s1 : IntKind.i64.wrap ((A : Int) + (L : Int) - (A : Int)) = (L : Int) := by rw [IntKind.wrap_i64]; omega
        have s2 : IntKind.i64.wrap (L : Int) = (L : Int) := by rw [IntKind.wrap_i64]; omega
        clear KP hvr p0 p1 p5 p6 p7 pz
        go_wp2_with fail
        refine wp_region_held_drew (S := (fun w' => w' = wM.drew)) (by kernel_rfl) (rfl) (fun hHeld => ?_)
        refine wpAnyH_take (i := 0) (oi := { dst := some 130, op := Go.Op.move (Go.Operand.tmp 7), type := 25, pos := "law.go:82", after := #[], guard := none }) (v := ?_) rfl (by kernel_rfl) (by kernel_rfl) (by kernel_rfl) (fun _ _ _ h => h) (Or.inl ⟨by rfl, ?_⟩) (by assumption) ?_
        rotate_left
        · (intro w hSw; (try dsimp only at hSw); subst hSw; go_simp; (try with_reducible rfl))
        simp only [Act.put, List.setIfInBounds_toArray, List.set_cons_zero, List.set_cons_succ]
        refine wpAnyH_take (i := 2) (oi := { dst := some 132, op := Go.Op.fieldAddr 31 (Go.Operand.tmp 9) 2, type := 0, pos := "law.go:82", after := #[], guard := none }) (v := ?_) rfl (by kernel_rfl) (by kernel_rfl) (by kernel_rfl) (fun _ _ _ h => h) (Or.inl ⟨by rfl, ?_⟩) (by assumption) ?_
        rotate_left
        · (intro w hSw; (try dsimp only at hSw); subst hSw; go_simp; (try with_reducible rfl))
        simp only [Act.put, List.setIfInBounds_toArray, List.set_cons_zero, List.set_cons_succ]
        refine wpAnyH_take (i := 3) (oi := { dst := some 133, op := Go.Op.load 29 (Go.Operand.tmp 132), type := 29, pos := "law.go:82", after := #[{ on := 2, ground := Go.Ground.data }], guard := none }) (v := ?_) rfl (by kernel_rfl) (by kernel_rfl) (by kernel_rfl) (fun _ _ _ h => h) (Or.inl ⟨by rfl, ?_⟩) (by assumption) ?_
        rotate_left
        · (intro w hSw; (try dsimp only at hSw); subst hSw; go_simp; (try with_reducible rfl))
        simp only [Act.put, List.setIfInBounds_toArray, List.set_cons_zero, List.set_cons_succ]
        refine wpAnyH_take (i := 4) (oi := { dst := some 134, op := Go.Op.call { callee := Go.Callee.builtin Go.Builtin.len, args := #[Go.Operand.tmp 133], argTypes := #[29] }, type := 3, pos := "law.go:82", after := #[{ on := 3, ground := Go.Ground.data }], guard := none }) (v := ?_) rfl (by kernel_rfl) (by kernel_rfl) (by kernel_rfl) (fun _ _ _ h => h) (Or.inl ⟨by rfl, ?_⟩) (by assumption) ?_
        rotate_left
        · (intro w hSw; (try dsimp only at hSw); subst hSw; go_simp; (try with_reducible rfl))
        simp only [Act.put, List.setIfInBounds_toArray, List.set_cons_zero, List.set_cons_succ]
        refine wpAnyH_ready (rs := [1]) (by kernel_rfl) (by simp) ?_
        refine (AllReadyH.cons (o := { dst := some 131, op := Go.Op.call { callee := Go.Callee.value (Go.Operand.func 23), args := #[Go.Operand.tmp 130], argTypes := #[25] }, type := 3, pos := "law.go:82", after := #[{ on := 0, ground := Go.Ground.data }], guard := none }) rfl (fun K hK => ?_) AllReadyH.nil)
        go_simp
        refine KPq.out.mono ?_
        rintro e wK ⟨rfl, hwK⟩
        subst hwK
        refine hK.out _ _ (rfl) (fun hHeldx => ?_)
        clear hK K
        refine wpAnyH_take (i := 5) (oi := { dst := some 135, op := Go.Op.binOp Go.BinOp.neq 3 (Go.Operand.tmp 131) (Go.Operand.tmp 134) 3, type := 4, pos := "law.go:82", after := #[{ on := 1, ground := Go.Ground.data }, { on := 4, ground := Go.Ground.data }], guard := none }) (v := ?_) rfl (by kernel_rfl) (by kernel_rfl) (by kernel_rfl) (fun _ _ _ h => h) (Or.inl ⟨by rfl, ?_⟩) (by assumption) ?_
        rotate_left
        · (intro w hSw; (try dsimp only at hSw); subst hSw; go_simp; (try with_reducible rfl))
        simp only [Act.put, List.setIfInBounds_toArray, List.set_cons_zero, List.set_cons_succ]
        refine wpAnyH_take (i := 6) (oi := { dst := some 136, op := Go.Op.move (Go.Operand.tmp 135), type := 4, pos := "law.go:82", after := #[{ on := 5, ground := Go.Ground.data }, { on := 1, ground := Go.Ground.chain }], guard := none }) (v := ?_) rfl (by kernel_rfl) (by kernel_rfl) (by kernel_rfl) (fun _ _ _ h => h) (Or.inl ⟨by rfl, ?_⟩) (by assumption) ?_
        rotate_left
        · (intro w hSw; (try dsimp only at hSw); subst hSw; go_simp; (try with_reducible rfl))
        simp only [Act.put, List.setIfInBounds_toArray, List.set_cons_zero, List.set_cons_succ]
        refine wpAnyH_take (i := 7) (oi := { dst := some 137, op := Go.Op.move (Go.Operand.tmp 18), type := 3, pos := "law.go:82", after := #[{ on := 6, ground := Go.Ground.guard }], guard := some (6, false) }) (v := ?_) rfl (by kernel_rfl) (by kernel_rfl) (by kernel_rfl) (fun _ _ _ h => h) (Or.inl ⟨by rfl, ?_⟩) (by assumption) ?_
        rotate_left
        · (intro w hSw; (try dsimp only at hSw); subst hSw; go_simp; (try with_reducible rfl))
        simp only [Act.put, List.setIfInBounds_toArray, List.set_cons_zero, List.set_cons_succ]
        refine wpAnyH_take (i := 8) (oi := { dst := some 138, op := Go.Op.fieldAddr 31 (Go.Operand.tmp 9) 3, type := 0, pos := "law.go:82", after := #[{ on := 6, ground := Go.Ground.guard }], guard := some (6, false) }) (v := ?_) rfl (by kernel_rfl) (by kernel_rfl) (by kernel_rfl) (fun _ _ _ h => h) (Or.inl ⟨by rfl, ?_⟩) (by assumption) ?_
        rotate_left
        · (intro w hSw; (try dsimp only at hSw); subst hSw; go_simp; (try with_reducible rfl))
        simp only [Act.put, List.setIfInBounds_toArray, List.set_cons_zero, List.set_cons_succ]
        refine wpAnyH_take (i := 9) (oi := { dst := some 139, op := Go.Op.load 3 (Go.Operand.tmp 138), type := 3, pos := "law.go:82", after := #[{ on := 8, ground := Go.Ground.data }, { on := 6, ground := Go.Ground.guard }], guard := some (6, false) }) (v := ?_) rfl (by kernel_rfl) (by kernel_rfl) (by kernel_rfl) (fun _ _ _ h => h) (Or.inl ⟨by rfl, ?_⟩) (by assumption) ?_
        rotate_left
        · (intro w hSw; (try dsimp only at hSw); subst hSw; go_simp; (try with_reducible rfl))
        simp only [Act.put, List.setIfInBounds_toArray, List.set_cons_zero, List.set_cons_succ]
        refine wpAnyH_take (i := 10) (oi := { dst := some 140, op := Go.Op.binOp Go.BinOp.neq 3 (Go.Operand.tmp 137) (Go.Operand.tmp 139) 3, type := 4, pos := "law.go:82", after := #[{ on := 7, ground := Go.Ground.data }, { on := 9, ground := Go.Ground.data }, { on := 6, ground := Go.Ground.guard }], guard := some (6, false) }) (v := ?_) rfl (by kernel_rfl) (by kernel_rfl) (by kernel_rfl) (fun _ _ _ h => h) (Or.inl ⟨by rfl, ?_⟩) (by assumption) ?_
        rotate_left
        · (intro w hSw; (try dsimp only at hSw); subst hSw; go_simp; (try with_reducible rfl))
        simp only [Act.put, List.setIfInBounds_toArray, List.set_cons_zero, List.set_cons_succ]
        refine wpAnyH_take (i := 11) (oi := { dst := some 141, op := Go.Op.pick (Go.Operand.tmp 136) (Go.Operand.const (Go.Value.bool true)) (Go.Operand.tmp 140), type := 4, pos := "law.go:82", after := #[{ on := 6, ground := Go.Ground.data }, { on := 10, ground := Go.Ground.data }], guard := none }) (v := ?_) rfl (by kernel_rfl) (by kernel_rfl) (by kernel_rfl) (fun _ _ _ h => h) (Or.inl ⟨by rfl, ?_⟩) (by assumption) ?_
        rotate_left
        · (intro w hSw; (try dsimp only at hSw); subst hSw; go_simp; (try with_reducible rfl))
        simp only [Act.put, List.setIfInBounds_toArray, List.set_cons_zero, List.set_cons_succ]
        refine wpAnyH_take (i := 12) (oi := { dst := some 142, op := Go.Op.move (Go.Operand.tmp 141), type := 4, pos := "law.go:82", after := #[{ on := 11, ground := Go.Ground.data }, { on := 6, ground := Go.Ground.chain }], guard := none }) (v := ?_) rfl (by kernel_rfl) (by kernel_rfl) (by kernel_rfl) (fun _ _ _ h => h) (Or.inl ⟨by rfl, ?_⟩) (by assumption) ?_
        rotate_left
        · (intro w hSw; (try dsimp only at hSw); subst hSw; go_simp; (try with_reducible rfl))
        simp only [Act.put, List.setIfInBounds_toArray, List.set_cons_zero, List.set_cons_succ]
        refine wpAnyH_take (i := 13) (oi := { dst := some 143, op := Go.Op.move (Go.Operand.tmp 19), type := 3, pos := "law.go:82", after := #[{ on := 12, ground := Go.Ground.guard }], guard := some (12, false) }) (v := ?_) rfl (by kernel_rfl) (by kernel_rfl) (by kernel_rfl) (fun _ _ _ h => h) (Or.inl ⟨by rfl, ?_⟩) (by assumption) ?_
        rotate_left
        · (intro w hSw; (try dsimp only at hSw); subst hSw; go_simp; (try with_reducible rfl))
        simp only [Act.put, List.setIfInBounds_toArray, List.set_cons_zero, List.set_cons_succ]
        refine wpAnyH_take (i := 14) (oi := { dst := some 144, op := Go.Op.fieldAddr 31 (Go.Operand.tmp 9) 4, type := 0, pos := "law.go:82", after := #[{ on := 12, ground := Go.Ground.guard }], guard := some (12, false) }) (v := ?_) rfl (by kernel_rfl) (by kernel_rfl) (by kernel_rfl) (fun _ _ _ h => h) (Or.inl ⟨by rfl, ?_⟩) (by assumption) ?_
        rotate_left
        · (intro w hSw; (try dsimp only at hSw); subst hSw; go_simp; (try with_reducible rfl))
        simp only [Act.put, List.setIfInBounds_toArray, List.set_cons_zero, List.set_cons_succ]
        refine wpAnyH_take (i := 15) (oi := { dst := some 145, op := Go.Op.load 3 (Go.Operand.tmp 144), type := 3, pos := "law.go:82", after := #[{ on := 14, ground := Go.Ground.data }, { on := 12, ground := Go.Ground.guard }], guard := some (12, false) }) (v := ?_) rfl (by kernel_rfl) (by kernel_rfl) (by kernel_rfl) (fun _ _ _ h => h) (Or.inl ⟨by rfl, ?_⟩) (by assumption) ?_
        rotate_left
        · (intro w hSw; (try dsimp only at hSw); subst hSw; go_simp; (try with_reducible rfl))
        simp only [Act.put, List.setIfInBounds_toArray, List.set_cons_zero, List.set_cons_succ]
        refine wpAnyH_take (i := 16) (oi := { dst := some 146, op := Go.Op.binOp Go.BinOp.neq 3 (Go.Operand.tmp 143) (Go.Operand.tmp 145) 3, type := 4, pos := "law.go:82", after := #[{ on := 13, ground := Go.Ground.data }, { on := 15, ground := Go.Ground.data }, { on := 12, ground := Go.Ground.guard }], guard := some (12, false) }) (v := ?_) rfl (by kernel_rfl) (by kernel_rfl) (by kernel_rfl) (fun _ _ _ h => h) (Or.inl ⟨by rfl, ?_⟩) (by assumption) ?_
        rotate_left
        · (intro w hSw; (try dsimp only at hSw); subst hSw; go_simp; (try with_reducible rfl))
        simp only [Act.put, List.setIfInBounds_toArray, List.set_cons_zero, List.set_cons_succ]
        refine wpAnyH_take (i := 17) (oi := { dst := some 147, op := Go.Op.pick (Go.Operand.tmp 142) (Go.Operand.const (Go.Value.bool true)) (Go.Operand.tmp 146), type := 4, pos := "law.go:82", after := #[{ on := 12, ground := Go.Ground.data }, { on := 16, ground := Go.Ground.data }], guard := none }) (v := ?_) rfl (by kernel_rfl) (by kernel_rfl) (by kernel_rfl) (fun _ _ _ h => h) (Or.inl ⟨by rfl, ?_⟩) (by assumption) ?_
        rotate_left
        · (intro w hSw; (try dsimp only at hSw); subst hSw; go_simp; (try with_reducible rfl))
        simp only [Act.put, List.setIfInBounds_toArray, List.set_cons_zero, List.set_cons_succ]
        refine wpAnyH_take (i := 18) (oi := { dst := some 148, op := Go.Op.move (Go.Operand.tmp 147), type := 4, pos := "law.go:82", after := #[{ on := 17, ground := Go.Ground.data }, { on := 12, ground := Go.Ground.chain }], guard := none }) (v := ?_) rfl (by kernel_rfl) (by kernel_rfl) (by kernel_rfl) (fun _ _ _ h => h) (Or.inl ⟨by rfl, ?_⟩) (by assumption) ?_
        rotate_left
        · (intro w hSw; (try dsimp only at hSw); subst hSw; go_simp; (try with_reducible rfl))
        simp only [Act.put, List.setIfInBounds_toArray, List.set_cons_zero, List.set_cons_succ]
        refine wpAnyH_take (i := 19) (oi := { dst := some 149, op := Go.Op.move (Go.Operand.tmp 7), type := 25, pos := "law.go:82", after := #[{ on := 18, ground := Go.Ground.guard }], guard := some (18, false) }) (v := ?_) rfl (by kernel_rfl) (by kernel_rfl) (by kernel_rfl) (fun _ _ _ h => h) (Or.inl ⟨by rfl, ?_⟩) (by assumption) ?_
        rotate_left
        · (intro w hSw; (try dsimp only at hSw); subst hSw; go_simp; (try with_reducible rfl))
        simp only [Act.put, List.setIfInBounds_toArray, List.set_cons_zero, List.set_cons_succ]
        refine wpAnyH_take (i := 21) (oi := { dst := some 151, op := Go.Op.move (Go.Operand.tmp 0), type := 3, pos := "law.go:82", after := #[{ on := 18, ground := Go.Ground.guard }], guard := some (18, false) }) (v := ?_) rfl (by kernel_rfl) (by kernel_rfl) (by kernel_rfl) (fun _ _ _ h => h) (Or.inl ⟨by rfl, ?_⟩) (by assumption) ?_
        rotate_left
        · (intro w hSw; (try dsimp only at hSw); subst hSw; go_simp; (try with_reducible rfl))
        simp only [Act.put, List.setIfInBounds_toArray, List.set_cons_zero, List.set_cons_succ]
        refine wpAnyH_ready (rs := [20]) (by kernel_rfl) (by simp) ?_
        refine (AllReadyH.cons (o := { dst := some 150, op := Go.Op.call { callee := Go.Callee.value (Go.Operand.func 23), args := #[Go.Operand.tmp 149], argTypes := #[25] }, type := 3, pos := "law.go:82", after := #[{ on := 19, ground := Go.Ground.data }, { on := 18, ground := Go.Ground.chain }, { on := 18, ground := Go.Ground.guard }], guard := some (18, false) }) rfl (fun K hK => ?_) AllReadyH.nil)
        go_simp
        refine KPq.out.mono ?_
        rintro e wK ⟨rfl, hwK⟩
        subst hwK
        refine hK.out _ _ (rfl) (fun hHeldx => ?_)
        clear hK K
        refine wpAnyH_take (i := 22) (oi := { dst := some 152, op := Go.Op.binOp Go.BinOp.gtr 3 (Go.Operand.tmp 150) (Go.Operand.tmp 151) 3, type := 4, pos := "law.go:82", after := #[{ on := 20, ground := Go.Ground.data }, { on := 21, ground := Go.Ground.data }, { on := 18, ground := Go.Ground.guard }], guard := some (18, false) }) (v := ?_) rfl (by kernel_rfl) (by kernel_rfl) (by kernel_rfl) (fun _ _ _ h => h) (Or.inl ⟨by rfl, ?_⟩) (by assumption) ?_
        rotate_left
        · (intro w hSw; (try dsimp only at hSw); subst hSw; go_simp; (try with_reducible rfl))
        simp only [Act.put, List.setIfInBounds_toArray, List.set_cons_zero, List.set_cons_succ]
        refine wpAnyH_take (i := 23) (oi := { dst := some 153, op := Go.Op.pick (Go.Operand.tmp 148) (Go.Operand.const (Go.Value.bool true)) (Go.Operand.tmp 152), type := 4, pos := "law.go:82", after := #[{ on := 18, ground := Go.Ground.data }, { on := 22, ground := Go.Ground.data }], guard := none }) (v := ?_) rfl (by kernel_rfl) (by kernel_rfl) (by kernel_rfl) (fun _ _ _ h => h) (Or.inl ⟨by rfl, ?_⟩) (by assumption) ?_
        rotate_left
        · (intro w hSw; (try dsimp only at hSw); subst hSw; go_simp; (try with_reducible rfl))
        simp only [Act.put, List.setIfInBounds_toArray, List.set_cons_zero, List.set_cons_succ]
        refine wpAnyH_take (i := 24) (oi := { dst := some 154, op := Go.Op.move (Go.Operand.tmp 153), type := 4, pos := "law.go:82", after := #[{ on := 23, ground := Go.Ground.data }, { on := 20, ground := Go.Ground.chain }], guard := none }) (v := ?_) rfl (by kernel_rfl) (by kernel_rfl) (by kernel_rfl) (fun _ _ _ h => h) (Or.inl ⟨by rfl, ?_⟩) (by assumption) ?_
        rotate_left
        · (intro w hSw; (try dsimp only at hSw); subst hSw; go_simp; (try with_reducible rfl))
        simp only [Act.put, List.setIfInBounds_toArray, List.set_cons_zero, List.set_cons_succ]
        refine wpAnyH_take (i := 25) (oi := { dst := some 155, op := Go.Op.move (Go.Operand.tmp 18), type := 3, pos := "law.go:82", after := #[{ on := 24, ground := Go.Ground.guard }], guard := some (24, false) }) (v := ?_) rfl (by kernel_rfl) (by kernel_rfl) (by kernel_rfl) (fun _ _ _ h => h) (Or.inl ⟨by rfl, ?_⟩) (by assumption) ?_
        rotate_left
        · (intro w hSw; (try dsimp only at hSw); subst hSw; go_simp; (try with_reducible rfl))
        simp only [Act.put, List.setIfInBounds_toArray, List.set_cons_zero, List.set_cons_succ]
        refine wpAnyH_take (i := 26) (oi := { dst := some 156, op := Go.Op.move (Go.Operand.tmp 19), type := 3, pos := "law.go:82", after := #[{ on := 24, ground := Go.Ground.guard }], guard := some (24, false) }) (v := ?_) rfl (by kernel_rfl) (by kernel_rfl) (by kernel_rfl) (fun _ _ _ h => h) (Or.inl ⟨by rfl, ?_⟩) (by assumption) ?_
        rotate_left
        · (intro w hSw; (try dsimp only at hSw); subst hSw; go_simp; (try with_reducible rfl))
        simp only [Act.put, List.setIfInBounds_toArray, List.set_cons_zero, List.set_cons_succ]
        refine wpAnyH_take (i := 27) (oi := { dst := some 157, op := Go.Op.binOp Go.BinOp.sub 3 (Go.Operand.tmp 155) (Go.Operand.tmp 156) 3, type := 3, pos := "law.go:82", after := #[{ on := 25, ground := Go.Ground.data }, { on := 26, ground := Go.Ground.data }, { on := 24, ground := Go.Ground.guard }], guard := some (24, false) }) (v := ?_) rfl (by kernel_rfl) (by kernel_rfl) (by kernel_rfl) (fun _ _ _ h => h) (Or.inl ⟨by rfl, ?_⟩) (by assumption) ?_
        rotate_left
        · (intro w hSw; (try dsimp only at hSw); subst hSw; go_simp; (try with_reducible rfl))
        simp only [Act.put, List.setIfInBounds_toArray, List.set_cons_zero, List.set_cons_succ]
        refine wpAnyH_take (i := 28) (oi := { dst := some 158, op := Go.Op.move (Go.Operand.tmp 7), type := 25, pos := "law.go:82", after := #[{ on := 24, ground := Go.Ground.guard }], guard := some (24, false) }) (v := ?_) rfl (by kernel_rfl) (by kernel_rfl) (by kernel_rfl) (fun _ _ _ h => h) (Or.inl ⟨by rfl, ?_⟩) (by assumption) ?_
        rotate_left
        · (intro w hSw; (try dsimp only at hSw); subst hSw; go_simp; (try with_reducible rfl))
        simp only [Act.put, List.setIfInBounds_toArray, List.set_cons_zero, List.set_cons_succ]
        refine wpAnyH_ready (rs := [29]) (by kernel_rfl) (by simp) ?_
        refine (AllReadyH.cons (o := { dst := some 159, op := Go.Op.call { callee := Go.Callee.value (Go.Operand.func 23), args := #[Go.Operand.tmp 158], argTypes := #[25] }, type := 3, pos := "law.go:82", after := #[{ on := 28, ground := Go.Ground.data }, { on := 24, ground := Go.Ground.chain }, { on := 24, ground := Go.Ground.guard }], guard := some (24, false) }) rfl (fun K hK => ?_) AllReadyH.nil)
        go_simp
        refine KPq.out.mono ?_
        rintro e wK ⟨rfl, hwK⟩
        subst hwK
        refine hK.out _ _ (rfl) (fun hHeldx => ?_)
        clear hK K
        refine wpAnyH_take (i := 30) (oi := { dst := some 160, op := Go.Op.binOp Go.BinOp.neq 3 (Go.Operand.tmp 157) (Go.Operand.tmp 159) 3, type := 4, pos := "law.go:82", after := #[{ on := 27, ground := Go.Ground.data }, { on := 29, ground := Go.Ground.data }, { on := 24, ground := Go.Ground.guard }], guard := some (24, false) }) (v := ?_) rfl (by kernel_rfl) (by kernel_rfl) (by kernel_rfl) (fun _ _ _ h => h) (Or.inl ⟨by rfl, ?_⟩) (by assumption) ?_
        rotate_left
        · (intro w hSw; (try dsimp only at hSw); subst hSw; go_simp; (try with_reducible rfl))
        simp only [Act.put, List.setIfInBounds_toArray, List.set_cons_zero, List.set_cons_succ]
        refine wpAnyH_take (i := 31) (oi := { dst := some 161, op := Go.Op.pick (Go.Operand.tmp 154) (Go.Operand.const (Go.Value.bool true)) (Go.Operand.tmp 160), type := 4, pos := "law.go:82", after := #[{ on := 24, ground := Go.Ground.data }, { on := 30, ground := Go.Ground.data }], guard := none }) (v := ?_) rfl (by kernel_rfl) (by kernel_rfl) (by kernel_rfl) (fun _ _ _ h => h) (Or.inl ⟨by rfl, ?_⟩) (by assumption) ?_
        rotate_left
        · (intro w hSw; (try dsimp only at hSw); subst hSw; go_simp; (try with_reducible rfl))
        simp only [Act.put, List.setIfInBounds_toArray, List.set_cons_zero, List.set_cons_succ]
        refine wpAnyH_done (by kernel_rfl) ?_ _
        go_wp2_with fail
        go_roundw
        case rel => exact ⟨k + 1, vp, vr, p7, r7, by omega, by go_num, box (BM.out.keep kD), HR7, box (HBM.out.trans (kD.mono HBM.out.size))⟩
        case measure => simp [intOf]; omega
      have d1 : (kd == 1) = false := by simp [h1]
      clear h1
      by_cases h2 : kd = 2
      · have d2 : (kd == 2) = true := by simp [h2]
        clear h2
        go_wp2_with fail
        refine wp_region_held_drew (S := (fun w' => w'.cell? ⟨mm, 1, none⟩ = some (.int .i64 num))) (by kernel_rfl) (q1) (fun hHeld => ?_)
        clear q0 q2
        replace BO := box (BO.out.keep (Below.refl _ _).drew)
        replace HBA := box HBA.out.drew
        have HMD := box (show mm < wa.drew.heap.size from HMM.out)
        have Q2 := box (show wa.drew.cell? ⟨mm, 1, none⟩ = some (.int .i64 num) from q1)
        clear q1 HMM HIN
        generalize wa.drew = wb at BO HBA HMD Q2 hHeld ⊢
        have EQ := BO.out.sim.eqs
        have hok := BO.out.ok
        have hok2 := hok.sim BO.out.sim
        have hb1 := BO.out.b
        have hb2 := BO.out.ta
        have hL1 := hok.W; have hw2 := hok.w2; have hn1 := hok.nx; have hn2 := hok.hi
        have AKp := pack_any num B _ gp vp p wb BO.out.x hok2.hi (by omega) (by omega) (by omega)
        rw [BO.out.sim.ackK] at AKp
        have AKr := box (fun (v6 : Value) (w6 : World) (y6 : RsAt B (fun q => q < B ∨ q = gp ∨ v6.ownBlock = some q) w6 gr vr r) => rack_any num B _ gr vr r w6 y6 hok.hi (by omega) (by omega) (by omega))
        generalize ackK r num = code at AKp AKr
        have AKq := box AKp
        have bcode : ((code : Int) != (code : Int)) = false := by simp
        clear AKp hok hok2 hb1 hb2 hL1 hw2 hn1 hn2 EQ
        refine wpAnyH_take (i := 0) (oi := { dst := some 107, op := Go.Op.move (Go.Operand.tmp 7), type := 25, pos := "law.go:73", after := #[], guard := none }) (v := ?_) rfl (by kernel_rfl) (by kernel_rfl) (by kernel_rfl) (fun _ _ _ h => h) (Or.inl ⟨by rfl, ?_⟩) (by assumption) ?_
        rotate_left
        · (intro w hSw; (try dsimp only at hSw); go_simp; (try with_reducible rfl))
        simp only [Act.put, List.setIfInBounds_toArray, List.set_cons_zero, List.set_cons_succ]
        refine wpAnyH_take (i := 1) (oi := { dst := some 108, op := Go.Op.fieldAddr 34 (Go.Operand.tmp 11) 1, type := 0, pos := "law.go:73", after := #[], guard := none }) (v := ?_) rfl (by kernel_rfl) (by kernel_rfl) (by kernel_rfl) (fun _ _ _ h => h) (Or.inl ⟨by rfl, ?_⟩) (by assumption) ?_
        rotate_left
        · (intro w hSw; (try dsimp only at hSw); go_simp; (try with_reducible rfl))
        simp only [Act.put, List.setIfInBounds_toArray, List.set_cons_zero, List.set_cons_succ]
        refine wpAnyH_take (i := 2) (oi := { dst := some 109, op := Go.Op.load 3 (Go.Operand.tmp 108), type := 3, pos := "law.go:73", after := #[{ on := 1, ground := Go.Ground.data }], guard := none }) (v := ?_) rfl (by kernel_rfl) (by kernel_rfl) (by kernel_rfl) (fun _ _ _ h => h) (Or.inl ⟨by rfl, ?_⟩) (by assumption) ?_
        rotate_left
        · (intro w hSw; (try dsimp only at hSw); go_simp; (try with_reducible rfl))
        simp only [Act.put, List.setIfInBounds_toArray, List.set_cons_zero, List.set_cons_succ]
        refine wpAnyH_take (i := 4) (oi := { dst := some 111, op := Go.Op.fieldAddr 34 (Go.Operand.tmp 11) 1, type := 0, pos := "law.go:73", after := #[], guard := none }) (v := ?_) rfl (by kernel_rfl) (by kernel_rfl) (by kernel_rfl) (fun _ _ _ h => h) (Or.inl ⟨by rfl, ?_⟩) (by assumption) ?_
        rotate_left
        · (intro w hSw; (try dsimp only at hSw); go_simp; (try with_reducible rfl))
        simp only [Act.put, List.setIfInBounds_toArray, List.set_cons_zero, List.set_cons_succ]
        refine wpAnyH_take (i := 5) (oi := { dst := some 112, op := Go.Op.load 3 (Go.Operand.tmp 111), type := 3, pos := "law.go:73", after := #[{ on := 4, ground := Go.Ground.data }], guard := none }) (v := ?_) rfl (by kernel_rfl) (by kernel_rfl) (by kernel_rfl) (fun _ _ _ h => h) (Or.inl ⟨by rfl, ?_⟩) (by assumption) ?_
        rotate_left
        · (intro w hSw; (try dsimp only at hSw); go_simp; (try with_reducible rfl))
        simp only [Act.put, List.setIfInBounds_toArray, List.set_cons_zero, List.set_cons_succ]
        refine wpAnyH_ready (rs := [3]) (by kernel_rfl) (by simp) ?_
        refine (AllReadyH.cons (o := { dst := some 110, op := Go.Op.call { callee := Go.Callee.value (Go.Operand.func 18), args := #[Go.Operand.tmp 107, Go.Operand.tmp 109], argTypes := #[25, 3] }, type := 3, pos := "law.go:73", after := #[{ on := 0, ground := Go.Ground.data }, { on := 2, ground := Go.Ground.data }], guard := none }) rfl (fun K hK => ?_) AllReadyH.nil)
        go_simp
        refine AKq.out.mono ?_
        rintro e w6 ⟨v6, rfl, x6, st6⟩
        have hS6 : w6.cell? ⟨mm, 1, none⟩ = some (.int .i64 num) := by rw [World.cell?_of_block (a := ⟨mm, 1, none⟩) (st6.apart.block mm HMD.out HMP.out.1 HMP.out.2.1)]; exact Q2.out
        have X6 := box x6
        have ST6 := box st6
        have Y6 := box (BO.out.prog st6)
        have B6 := box (below2 HBA.out (BO.out.x.steps st6 (Below.refl B wb)) HBB.out)
        have AK6 := box (AKr.out v6 w6 Y6.out)
        clear x6 st6 AKq AKr
        refine hK.out _ _ (hS6) (fun hHeldx => ?_)
        clear hK K
        refine wpAnyH_ready (rs := [6]) (by kernel_rfl) (by simp) ?_
        refine (AllReadyH.cons (o := { dst := some 113, op := Go.Op.call { callee := Go.Callee.value (Go.Operand.func 19), args := #[Go.Operand.tmp 9, Go.Operand.tmp 112], argTypes := #[31, 3] }, type := 3, pos := "law.go:73", after := #[{ on := 5, ground := Go.Ground.data }, { on := 3, ground := Go.Ground.chain }], guard := none }) rfl (fun K hK => ?_) AllReadyH.nil)
        go_simp
        refine AK6.out.mono ?_
        rintro e w7 ⟨v7, rfl, y7, st7⟩
        have hS7 : w7.cell? ⟨mm, 1, none⟩ = some (.int .i64 num) := by rw [World.cell?_of_block (a := ⟨mm, 1, none⟩) (st7.apart.block mm (Nat.lt_of_lt_of_le HMD.out ST6.out.apart.size) HMP.out.2.2.1 HMP.out.2.2.2)]; exact hS6
        have BN := box (show Both B gp gr w7 (k + 1) v6 v7 (ackS p num) (ackS r num) from ⟨Both.back X6.out st7, y7, BO.out.sim.ack num, BO.out.ok.ack num, (ack_ta BO.out.ok BO.out.ta num).1, Nat.le_trans (Nat.le_of_eq (ack_ta BO.out.ok BO.out.ta num).2) (Nat.le_succ_of_le BO.out.b)⟩)
        have HB7 := box (below2 B6.out (Y6.out.steps st7 (Below.refl B w6)) HBB.out)
        have HR7 := box (show (ackS r num).W = W from (ackS_W r num).1.trans HRW.out)
        clear y7 st7 AK6
        refine hK.out _ _ (hS7) (fun hHeldx => ?_)
        clear hK K
        refine wpAnyH_take (i := 7) (oi := { dst := some 114, op := Go.Op.binOp Go.BinOp.neq 3 (Go.Operand.tmp 110) (Go.Operand.tmp 113) 3, type := 4, pos := "law.go:73", after := #[{ on := 3, ground := Go.Ground.data }, { on := 6, ground := Go.Ground.data }], guard := none }) (v := ?_) rfl (by kernel_rfl) (by kernel_rfl) (by kernel_rfl) (fun _ _ _ h => h) (Or.inl ⟨by rfl, ?_⟩) (by assumption) ?_
        rotate_left
        · (intro w hSw; (try dsimp only at hSw); go_simp; (try with_reducible rfl))
        simp only [Act.put, List.setIfInBounds_toArray, List.set_cons_zero, List.set_cons_succ]
        refine wpAnyH_done (by kernel_rfl) ?_ _
        go_wp2_with fail
        clear HRW BO HBA X6 Y6 ST6 B6
        generalize ackS p num = p7 at BN
        generalize ackS r num = r7 at BN HR7
        clear hS6 hS7 Q2 HMD
        have EQ := BN.out.sim.eqs
        have hok := BN.out.ok
        have hb1 := BN.out.b
        have hb2 := BN.out.ta
        have hL1 := hok.W
        have TT := box (ptotal_any _ _ gp v6 p7 w7 BN.out.x (by omega) (by omega))
        obtain ⟨A, hA⟩ : ∃ A, r7.ac = A := ⟨_, rfl⟩
        obtain ⟨L, hL⟩ : ∃ L, r7.ks.length = L := ⟨_, rfl⟩
        rw [EQ.2.2.2.1, EQ.2.2.1, hA, hL] at TT
        have EQL := box (show p7.ks.length = L from EQ.2.2.1.trans hL)
        have HTA := box (show ((r7.ta : Nat) : Int) = (A : Int) + (L : Int) from by omega)
        have HLA := box hL
        have HAA := box hA
        have l1 : L ≤ W := by have := HR7.out; omega
        have l2 : A + L ≤ 400 := by omega
        clear hA hL hok hb1 hb2 hL1 EQ
        go_wp2_with fail
        refine TT.out.mono ?_
        rintro e wM ⟨rfl, t, rfl⟩
        have BM := box (BN.out.keep (drewN_below w7 t))
        have HBM := box (HB7.out.trans ((drewN_below w7 t).mono HB7.out.size))
        clear BN HB7 TT
        (try clear q0 q1 q2)
        generalize w7.drewN t = wM at BM HBM ⊢
        have kD : Below wM.heap.size wM wM.drew := (Below.refl _ _).drew
        have KP := pkept_any _ _ gp v6 p7 wM.drew (BM.out.keep kD).x
        rw [EQL.out] at KP
        have KPq := box KP
        obtain ⟨ra, rc, hvr⟩ := BM.out.y.len
        have M := BM.out.y.m
        rw [hvr, HLA.out, HTA.out, HAA.out] at M
        obtain ⟨p0, p1, p2, p3, p4, p5, p6, p7, pz⟩ := M
        have b1 : ((L : Int) != (L : Int)) = false := by simp
        have b2 : ((A : Int) + (L : Int) != (A : Int) + (L : Int)) = false := by simp
        have b3 : ((A : Int) != (A : Int)) = false := by simp
        have d1 : decide ((W : Int) < (L : Int)) = false := decide_eq_false (by omega)
        have d2 : decide (W < L) = false := decide_eq_false (by omega)
        have s1 : IntKind.i64.wrap ((A : Int) + (L : Int) - (A : Int)) = (L : Int) := by rw [IntKind.wrap_i64]; omega
        have s2 : IntKind.i64.wrap (L : Int) = (L : Int) := by rw [IntKind.wrap_i64]; omega
        clear KP hvr p0 p1 p5 p6 p7 pz
        go_wp2_with fail
        refine wp_region_held_drew (S := (fun w' => w' = wM.drew)) (by kernel_rfl) (rfl) (fun hHeld => ?_)
        refine wpAnyH_take (i := 0) (oi := { dst := some 130, op := Go.Op.move (Go.Operand.tmp 7), type := 25, pos := "law.go:82", after := #[], guard := none }) (v := ?_) rfl (by kernel_rfl) (by kernel_rfl) (by kernel_rfl) (fun _ _ _ h => h) (Or.inl ⟨by rfl, ?_⟩) (by assumption) ?_
        rotate_left
        · (intro w hSw; (try dsimp only at hSw); subst hSw; go_simp; (try with_reducible rfl))
        simp only [Act.put, List.setIfInBounds_toArray, List.set_cons_zero, List.set_cons_succ]
        refine wpAnyH_take (i := 2) (oi := { dst := some 132, op := Go.Op.fieldAddr 31 (Go.Operand.tmp 9) 2, type := 0, pos := "law.go:82", after := #[], guard := none }) (v := ?_) rfl (by kernel_rfl) (by kernel_rfl) (by kernel_rfl) (fun _ _ _ h => h) (Or.inl ⟨by rfl, ?_⟩) (by assumption) ?_
        rotate_left
        · (intro w hSw; (try dsimp only at hSw); subst hSw; go_simp; (try with_reducible rfl))
        simp only [Act.put, List.setIfInBounds_toArray, List.set_cons_zero, List.set_cons_succ]
        refine wpAnyH_take (i := 3) (oi := { dst := some 133, op := Go.Op.load 29 (Go.Operand.tmp 132), type := 29, pos := "law.go:82", after := #[{ on := 2, ground := Go.Ground.data }], guard := none }) (v := ?_) rfl (by kernel_rfl) (by kernel_rfl) (by kernel_rfl) (fun _ _ _ h => h) (Or.inl ⟨by rfl, ?_⟩) (by assumption) ?_
        rotate_left
        · (intro w hSw; (try dsimp only at hSw); subst hSw; go_simp; (try with_reducible rfl))
        simp only [Act.put, List.setIfInBounds_toArray, List.set_cons_zero, List.set_cons_succ]
        refine wpAnyH_take (i := 4) (oi := { dst := some 134, op := Go.Op.call { callee := Go.Callee.builtin Go.Builtin.len, args := #[Go.Operand.tmp 133], argTypes := #[29] }, type := 3, pos := "law.go:82", after := #[{ on := 3, ground := Go.Ground.data }], guard := none }) (v := ?_) rfl (by kernel_rfl) (by kernel_rfl) (by kernel_rfl) (fun _ _ _ h => h) (Or.inl ⟨by rfl, ?_⟩) (by assumption) ?_
        rotate_left
        · (intro w hSw; (try dsimp only at hSw); subst hSw; go_simp; (try with_reducible rfl))
        simp only [Act.put, List.setIfInBounds_toArray, List.set_cons_zero, List.set_cons_succ]
        refine wpAnyH_ready (rs := [1]) (by kernel_rfl) (by simp) ?_
        refine (AllReadyH.cons (o := { dst := some 131, op := Go.Op.call { callee := Go.Callee.value (Go.Operand.func 23), args := #[Go.Operand.tmp 130], argTypes := #[25] }, type := 3, pos := "law.go:82", after := #[{ on := 0, ground := Go.Ground.data }], guard := none }) rfl (fun K hK => ?_) AllReadyH.nil)
        go_simp
        refine KPq.out.mono ?_
        rintro e wK ⟨rfl, hwK⟩
        subst hwK
        refine hK.out _ _ (rfl) (fun hHeldx => ?_)
        clear hK K
        refine wpAnyH_take (i := 5) (oi := { dst := some 135, op := Go.Op.binOp Go.BinOp.neq 3 (Go.Operand.tmp 131) (Go.Operand.tmp 134) 3, type := 4, pos := "law.go:82", after := #[{ on := 1, ground := Go.Ground.data }, { on := 4, ground := Go.Ground.data }], guard := none }) (v := ?_) rfl (by kernel_rfl) (by kernel_rfl) (by kernel_rfl) (fun _ _ _ h => h) (Or.inl ⟨by rfl, ?_⟩) (by assumption) ?_
        rotate_left
        · (intro w hSw; (try dsimp only at hSw); subst hSw; go_simp; (try with_reducible rfl))
        simp only [Act.put, List.setIfInBounds_toArray, List.set_cons_zero, List.set_cons_succ]
        refine wpAnyH_take (i := 6) (oi := { dst := some 136, op := Go.Op.move (Go.Operand.tmp 135), type := 4, pos := "law.go:82", after := #[{ on := 5, ground := Go.Ground.data }, { on := 1, ground := Go.Ground.chain }], guard := none }) (v := ?_) rfl (by kernel_rfl) (by kernel_rfl) (by kernel_rfl) (fun _ _ _ h => h) (Or.inl ⟨by rfl, ?_⟩) (by assumption) ?_
        rotate_left
        · (intro w hSw; (try dsimp only at hSw); subst hSw; go_simp; (try with_reducible rfl))
        simp only [Act.put, List.setIfInBounds_toArray, List.set_cons_zero, List.set_cons_succ]
        refine wpAnyH_take (i := 7) (oi := { dst := some 137, op := Go.Op.move (Go.Operand.tmp 18), type := 3, pos := "law.go:82", after := #[{ on := 6, ground := Go.Ground.guard }], guard := some (6, false) }) (v := ?_) rfl (by kernel_rfl) (by kernel_rfl) (by kernel_rfl) (fun _ _ _ h => h) (Or.inl ⟨by rfl, ?_⟩) (by assumption) ?_
        rotate_left
        · (intro w hSw; (try dsimp only at hSw); subst hSw; go_simp; (try with_reducible rfl))
        simp only [Act.put, List.setIfInBounds_toArray, List.set_cons_zero, List.set_cons_succ]
        refine wpAnyH_take (i := 8) (oi := { dst := some 138, op := Go.Op.fieldAddr 31 (Go.Operand.tmp 9) 3, type := 0, pos := "law.go:82", after := #[{ on := 6, ground := Go.Ground.guard }], guard := some (6, false) }) (v := ?_) rfl (by kernel_rfl) (by kernel_rfl) (by kernel_rfl) (fun _ _ _ h => h) (Or.inl ⟨by rfl, ?_⟩) (by assumption) ?_
        rotate_left
        · (intro w hSw; (try dsimp only at hSw); subst hSw; go_simp; (try with_reducible rfl))
        simp only [Act.put, List.setIfInBounds_toArray, List.set_cons_zero, List.set_cons_succ]
        refine wpAnyH_take (i := 9) (oi := { dst := some 139, op := Go.Op.load 3 (Go.Operand.tmp 138), type := 3, pos := "law.go:82", after := #[{ on := 8, ground := Go.Ground.data }, { on := 6, ground := Go.Ground.guard }], guard := some (6, false) }) (v := ?_) rfl (by kernel_rfl) (by kernel_rfl) (by kernel_rfl) (fun _ _ _ h => h) (Or.inl ⟨by rfl, ?_⟩) (by assumption) ?_
        rotate_left
        · (intro w hSw; (try dsimp only at hSw); subst hSw; go_simp; (try with_reducible rfl))
        simp only [Act.put, List.setIfInBounds_toArray, List.set_cons_zero, List.set_cons_succ]
        refine wpAnyH_take (i := 10) (oi := { dst := some 140, op := Go.Op.binOp Go.BinOp.neq 3 (Go.Operand.tmp 137) (Go.Operand.tmp 139) 3, type := 4, pos := "law.go:82", after := #[{ on := 7, ground := Go.Ground.data }, { on := 9, ground := Go.Ground.data }, { on := 6, ground := Go.Ground.guard }], guard := some (6, false) }) (v := ?_) rfl (by kernel_rfl) (by kernel_rfl) (by kernel_rfl) (fun _ _ _ h => h) (Or.inl ⟨by rfl, ?_⟩) (by assumption) ?_
        rotate_left
        · (intro w hSw; (try dsimp only at hSw); subst hSw; go_simp; (try with_reducible rfl))
        simp only [Act.put, List.setIfInBounds_toArray, List.set_cons_zero, List.set_cons_succ]
        refine wpAnyH_take (i := 11) (oi := { dst := some 141, op := Go.Op.pick (Go.Operand.tmp 136) (Go.Operand.const (Go.Value.bool true)) (Go.Operand.tmp 140), type := 4, pos := "law.go:82", after := #[{ on := 6, ground := Go.Ground.data }, { on := 10, ground := Go.Ground.data }], guard := none }) (v := ?_) rfl (by kernel_rfl) (by kernel_rfl) (by kernel_rfl) (fun _ _ _ h => h) (Or.inl ⟨by rfl, ?_⟩) (by assumption) ?_
        rotate_left
        · (intro w hSw; (try dsimp only at hSw); subst hSw; go_simp; (try with_reducible rfl))
        simp only [Act.put, List.setIfInBounds_toArray, List.set_cons_zero, List.set_cons_succ]
        refine wpAnyH_take (i := 12) (oi := { dst := some 142, op := Go.Op.move (Go.Operand.tmp 141), type := 4, pos := "law.go:82", after := #[{ on := 11, ground := Go.Ground.data }, { on := 6, ground := Go.Ground.chain }], guard := none }) (v := ?_) rfl (by kernel_rfl) (by kernel_rfl) (by kernel_rfl) (fun _ _ _ h => h) (Or.inl ⟨by rfl, ?_⟩) (by assumption) ?_
        rotate_left
        · (intro w hSw; (try dsimp only at hSw); subst hSw; go_simp; (try with_reducible rfl))
        simp only [Act.put, List.setIfInBounds_toArray, List.set_cons_zero, List.set_cons_succ]
        refine wpAnyH_take (i := 13) (oi := { dst := some 143, op := Go.Op.move (Go.Operand.tmp 19), type := 3, pos := "law.go:82", after := #[{ on := 12, ground := Go.Ground.guard }], guard := some (12, false) }) (v := ?_) rfl (by kernel_rfl) (by kernel_rfl) (by kernel_rfl) (fun _ _ _ h => h) (Or.inl ⟨by rfl, ?_⟩) (by assumption) ?_
        rotate_left
        · (intro w hSw; (try dsimp only at hSw); subst hSw; go_simp; (try with_reducible rfl))
        simp only [Act.put, List.setIfInBounds_toArray, List.set_cons_zero, List.set_cons_succ]
        refine wpAnyH_take (i := 14) (oi := { dst := some 144, op := Go.Op.fieldAddr 31 (Go.Operand.tmp 9) 4, type := 0, pos := "law.go:82", after := #[{ on := 12, ground := Go.Ground.guard }], guard := some (12, false) }) (v := ?_) rfl (by kernel_rfl) (by kernel_rfl) (by kernel_rfl) (fun _ _ _ h => h) (Or.inl ⟨by rfl, ?_⟩) (by assumption) ?_
        rotate_left
        · (intro w hSw; (try dsimp only at hSw); subst hSw; go_simp; (try with_reducible rfl))
        simp only [Act.put, List.setIfInBounds_toArray, List.set_cons_zero, List.set_cons_succ]
        refine wpAnyH_take (i := 15) (oi := { dst := some 145, op := Go.Op.load 3 (Go.Operand.tmp 144), type := 3, pos := "law.go:82", after := #[{ on := 14, ground := Go.Ground.data }, { on := 12, ground := Go.Ground.guard }], guard := some (12, false) }) (v := ?_) rfl (by kernel_rfl) (by kernel_rfl) (by kernel_rfl) (fun _ _ _ h => h) (Or.inl ⟨by rfl, ?_⟩) (by assumption) ?_
        rotate_left
        · (intro w hSw; (try dsimp only at hSw); subst hSw; go_simp; (try with_reducible rfl))
        simp only [Act.put, List.setIfInBounds_toArray, List.set_cons_zero, List.set_cons_succ]
        refine wpAnyH_take (i := 16) (oi := { dst := some 146, op := Go.Op.binOp Go.BinOp.neq 3 (Go.Operand.tmp 143) (Go.Operand.tmp 145) 3, type := 4, pos := "law.go:82", after := #[{ on := 13, ground := Go.Ground.data }, { on := 15, ground := Go.Ground.data }, { on := 12, ground := Go.Ground.guard }], guard := some (12, false) }) (v := ?_) rfl (by kernel_rfl) (by kernel_rfl) (by kernel_rfl) (fun _ _ _ h => h) (Or.inl ⟨by rfl, ?_⟩) (by assumption) ?_
        rotate_left
        · (intro w hSw; (try dsimp only at hSw); subst hSw; go_simp; (try with_reducible rfl))
        simp only [Act.put, List.setIfInBounds_toArray, List.set_cons_zero, List.set_cons_succ]
        refine wpAnyH_take (i := 17) (oi := { dst := some 147, op := Go.Op.pick (Go.Operand.tmp 142) (Go.Operand.const (Go.Value.bool true)) (Go.Operand.tmp 146), type := 4, pos := "law.go:82", after := #[{ on := 12, ground := Go.Ground.data }, { on := 16, ground := Go.Ground.data }], guard := none }) (v := ?_) rfl (by kernel_rfl) (by kernel_rfl) (by kernel_rfl) (fun _ _ _ h => h) (Or.inl ⟨by rfl, ?_⟩) (by assumption) ?_
        rotate_left
        · (intro w hSw; (try dsimp only at hSw); subst hSw; go_simp; (try with_reducible rfl))
        simp only [Act.put, List.setIfInBounds_toArray, List.set_cons_zero, List.set_cons_succ]
        refine wpAnyH_take (i := 18) (oi := { dst := some 148, op := Go.Op.move (Go.Operand.tmp 147), type := 4, pos := "law.go:82", after := #[{ on := 17, ground := Go.Ground.data }, { on := 12, ground := Go.Ground.chain }], guard := none }) (v := ?_) rfl (by kernel_rfl) (by kernel_rfl) (by kernel_rfl) (fun _ _ _ h => h) (Or.inl ⟨by rfl, ?_⟩) (by assumption) ?_
        rotate_left
        · (intro w hSw; (try dsimp only at hSw); subst hSw; go_simp; (try with_reducible rfl))
        simp only [Act.put, List.setIfInBounds_toArray, List.set_cons_zero, List.set_cons_succ]
        refine wpAnyH_take (i := 19) (oi := { dst := some 149, op := Go.Op.move (Go.Operand.tmp 7), type := 25, pos := "law.go:82", after := #[{ on := 18, ground := Go.Ground.guard }], guard := some (18, false) }) (v := ?_) rfl (by kernel_rfl) (by kernel_rfl) (by kernel_rfl) (fun _ _ _ h => h) (Or.inl ⟨by rfl, ?_⟩) (by assumption) ?_
        rotate_left
        · (intro w hSw; (try dsimp only at hSw); subst hSw; go_simp; (try with_reducible rfl))
        simp only [Act.put, List.setIfInBounds_toArray, List.set_cons_zero, List.set_cons_succ]
        refine wpAnyH_take (i := 21) (oi := { dst := some 151, op := Go.Op.move (Go.Operand.tmp 0), type := 3, pos := "law.go:82", after := #[{ on := 18, ground := Go.Ground.guard }], guard := some (18, false) }) (v := ?_) rfl (by kernel_rfl) (by kernel_rfl) (by kernel_rfl) (fun _ _ _ h => h) (Or.inl ⟨by rfl, ?_⟩) (by assumption) ?_
        rotate_left
        · (intro w hSw; (try dsimp only at hSw); subst hSw; go_simp; (try with_reducible rfl))
        simp only [Act.put, List.setIfInBounds_toArray, List.set_cons_zero, List.set_cons_succ]
        refine wpAnyH_ready (rs := [20]) (by kernel_rfl) (by simp) ?_
        refine (AllReadyH.cons (o := { dst := some 150, op := Go.Op.call { callee := Go.Callee.value (Go.Operand.func 23), args := #[Go.Operand.tmp 149], argTypes := #[25] }, type := 3, pos := "law.go:82", after := #[{ on := 19, ground := Go.Ground.data }, { on := 18, ground := Go.Ground.chain }, { on := 18, ground := Go.Ground.guard }], guard := some (18, false) }) rfl (fun K hK => ?_) AllReadyH.nil)
        go_simp
        refine KPq.out.mono ?_
        rintro e wK ⟨rfl, hwK⟩
        subst hwK
        refine hK.out _ _ (rfl) (fun hHeldx => ?_)
        clear hK K
        refine wpAnyH_take (i := 22) (oi := { dst := some 152, op := Go.Op.binOp Go.BinOp.gtr 3 (Go.Operand.tmp 150) (Go.Operand.tmp 151) 3, type := 4, pos := "law.go:82", after := #[{ on := 20, ground := Go.Ground.data }, { on := 21, ground := Go.Ground.data }, { on := 18, ground := Go.Ground.guard }], guard := some (18, false) }) (v := ?_) rfl (by kernel_rfl) (by kernel_rfl) (by kernel_rfl) (fun _ _ _ h => h) (Or.inl ⟨by rfl, ?_⟩) (by assumption) ?_
        rotate_left
        · (intro w hSw; (try dsimp only at hSw); subst hSw; go_simp; (try with_reducible rfl))
        simp only [Act.put, List.setIfInBounds_toArray, List.set_cons_zero, List.set_cons_succ]
        refine wpAnyH_take (i := 23) (oi := { dst := some 153, op := Go.Op.pick (Go.Operand.tmp 148) (Go.Operand.const (Go.Value.bool true)) (Go.Operand.tmp 152), type := 4, pos := "law.go:82", after := #[{ on := 18, ground := Go.Ground.data }, { on := 22, ground := Go.Ground.data }], guard := none }) (v := ?_) rfl (by kernel_rfl) (by kernel_rfl) (by kernel_rfl) (fun _ _ _ h => h) (Or.inl ⟨by rfl, ?_⟩) (by assumption) ?_
        rotate_left
        · (intro w hSw; (try dsimp only at hSw); subst hSw; go_simp; (try with_reducible rfl))
        simp only [Act.put, List.setIfInBounds_toArray, List.set_cons_zero, List.set_cons_succ]
        refine wpAnyH_take (i := 24) (oi := { dst := some 154, op := Go.Op.move (Go.Operand.tmp 153), type := 4, pos := "law.go:82", after := #[{ on := 23, ground := Go.Ground.data }, { on := 20, ground := Go.Ground.chain }], guard := none }) (v := ?_) rfl (by kernel_rfl) (by kernel_rfl) (by kernel_rfl) (fun _ _ _ h => h) (Or.inl ⟨by rfl, ?_⟩) (by assumption) ?_
        rotate_left
        · (intro w hSw; (try dsimp only at hSw); subst hSw; go_simp; (try with_reducible rfl))
        simp only [Act.put, List.setIfInBounds_toArray, List.set_cons_zero, List.set_cons_succ]
        refine wpAnyH_take (i := 25) (oi := { dst := some 155, op := Go.Op.move (Go.Operand.tmp 18), type := 3, pos := "law.go:82", after := #[{ on := 24, ground := Go.Ground.guard }], guard := some (24, false) }) (v := ?_) rfl (by kernel_rfl) (by kernel_rfl) (by kernel_rfl) (fun _ _ _ h => h) (Or.inl ⟨by rfl, ?_⟩) (by assumption) ?_
        rotate_left
        · (intro w hSw; (try dsimp only at hSw); subst hSw; go_simp; (try with_reducible rfl))
        simp only [Act.put, List.setIfInBounds_toArray, List.set_cons_zero, List.set_cons_succ]
        refine wpAnyH_take (i := 26) (oi := { dst := some 156, op := Go.Op.move (Go.Operand.tmp 19), type := 3, pos := "law.go:82", after := #[{ on := 24, ground := Go.Ground.guard }], guard := some (24, false) }) (v := ?_) rfl (by kernel_rfl) (by kernel_rfl) (by kernel_rfl) (fun _ _ _ h => h) (Or.inl ⟨by rfl, ?_⟩) (by assumption) ?_
        rotate_left
        · (intro w hSw; (try dsimp only at hSw); subst hSw; go_simp; (try with_reducible rfl))
        simp only [Act.put, List.setIfInBounds_toArray, List.set_cons_zero, List.set_cons_succ]
        refine wpAnyH_take (i := 27) (oi := { dst := some 157, op := Go.Op.binOp Go.BinOp.sub 3 (Go.Operand.tmp 155) (Go.Operand.tmp 156) 3, type := 3, pos := "law.go:82", after := #[{ on := 25, ground := Go.Ground.data }, { on := 26, ground := Go.Ground.data }, { on := 24, ground := Go.Ground.guard }], guard := some (24, false) }) (v := ?_) rfl (by kernel_rfl) (by kernel_rfl) (by kernel_rfl) (fun _ _ _ h => h) (Or.inl ⟨by rfl, ?_⟩) (by assumption) ?_
        rotate_left
        · (intro w hSw; (try dsimp only at hSw); subst hSw; go_simp; (try with_reducible rfl))
        simp only [Act.put, List.setIfInBounds_toArray, List.set_cons_zero, List.set_cons_succ]
        refine wpAnyH_take (i := 28) (oi := { dst := some 158, op := Go.Op.move (Go.Operand.tmp 7), type := 25, pos := "law.go:82", after := #[{ on := 24, ground := Go.Ground.guard }], guard := some (24, false) }) (v := ?_) rfl (by kernel_rfl) (by kernel_rfl) (by kernel_rfl) (fun _ _ _ h => h) (Or.inl ⟨by rfl, ?_⟩) (by assumption) ?_
        rotate_left
        · (intro w hSw; (try dsimp only at hSw); subst hSw; go_simp; (try with_reducible rfl))
        simp only [Act.put, List.setIfInBounds_toArray, List.set_cons_zero, List.set_cons_succ]
        refine wpAnyH_ready (rs := [29]) (by kernel_rfl) (by simp) ?_
        refine (AllReadyH.cons (o := { dst := some 159, op := Go.Op.call { callee := Go.Callee.value (Go.Operand.func 23), args := #[Go.Operand.tmp 158], argTypes := #[25] }, type := 3, pos := "law.go:82", after := #[{ on := 28, ground := Go.Ground.data }, { on := 24, ground := Go.Ground.chain }, { on := 24, ground := Go.Ground.guard }], guard := some (24, false) }) rfl (fun K hK => ?_) AllReadyH.nil)
        go_simp
        refine KPq.out.mono ?_
        rintro e wK ⟨rfl, hwK⟩
        subst hwK
        refine hK.out _ _ (rfl) (fun hHeldx => ?_)
        clear hK K
        refine wpAnyH_take (i := 30) (oi := { dst := some 160, op := Go.Op.binOp Go.BinOp.neq 3 (Go.Operand.tmp 157) (Go.Operand.tmp 159) 3, type := 4, pos := "law.go:82", after := #[{ on := 27, ground := Go.Ground.data }, { on := 29, ground := Go.Ground.data }, { on := 24, ground := Go.Ground.guard }], guard := some (24, false) }) (v := ?_) rfl (by kernel_rfl) (by kernel_rfl) (by kernel_rfl) (fun _ _ _ h => h) (Or.inl ⟨by rfl, ?_⟩) (by assumption) ?_
        rotate_left
        · (intro w hSw; (try dsimp only at hSw); subst hSw; go_simp; (try with_reducible rfl))
        simp only [Act.put, List.setIfInBounds_toArray, List.set_cons_zero, List.set_cons_succ]
        refine wpAnyH_take (i := 31) (oi := { dst := some 161, op := Go.Op.pick (Go.Operand.tmp 154) (Go.Operand.const (Go.Value.bool true)) (Go.Operand.tmp 160), type := 4, pos := "law.go:82", after := #[{ on := 24, ground := Go.Ground.data }, { on := 30, ground := Go.Ground.data }], guard := none }) (v := ?_) rfl (by kernel_rfl) (by kernel_rfl) (by kernel_rfl) (fun _ _ _ h => h) (Or.inl ⟨by rfl, ?_⟩) (by assumption) ?_
        rotate_left
        · (intro w hSw; (try dsimp only at hSw); subst hSw; go_simp; (try with_reducible rfl))
        simp only [Act.put, List.setIfInBounds_toArray, List.set_cons_zero, List.set_cons_succ]
        refine wpAnyH_done (by kernel_rfl) ?_ _
        go_wp2_with fail
        go_roundw
        case rel => exact ⟨k + 1, v6, v7, p7, r7, by omega, by go_num, box (BM.out.keep kD), HR7, box (HBM.out.trans (kD.mono HBM.out.size))⟩
        case measure => simp [intOf]; omega
      have d2 : (kd == 2) = false := by simp [h2]
      clear h2
      by_cases h3 : kd = 3
      · have d3 : (kd == 3) = true := by simp [h3]
        clear h3
        go_wp2_with fail
        refine wp_region_held_drew (S := (fun w' => w'.cell? ⟨mm, 1, none⟩ = some (.int .i64 num))) (by kernel_rfl) (q1) (fun hHeld => ?_)
        clear q0 q2
        replace BO := box (BO.out.keep (Below.refl _ _).drew)
        replace HBA := box HBA.out.drew
        have HMD := box (show mm < wa.drew.heap.size from HMM.out)
        have Q2 := box (show wa.drew.cell? ⟨mm, 1, none⟩ = some (.int .i64 num) from q1)
        clear q1 HMM HIN
        generalize wa.drew = wb at BO HBA HMD Q2 hHeld ⊢
        have EQ := BO.out.sim.eqs
        have hok := BO.out.ok
        have hok2 := hok.sim BO.out.sim
        have hb1 := BO.out.b
        have hb2 := BO.out.ta
        have hL1 := hok.W; have hw2 := hok.w2; have hn1 := hok.nx; have hn2 := hok.hi
        have AKp := pnak_any num B _ gp vp p wb BO.out.x hok2.hi (by omega) (by omega) (by omega)
        rw [BO.out.sim.ackK] at AKp
        have AKr := box (fun (v6 : Value) (w6 : World) (y6 : RsAt B (fun q => q < B ∨ q = gp ∨ v6.ownBlock = some q) w6 gr vr r) => rnak_any num B _ gr vr r w6 y6 hok.hi (by omega) (by omega) (by omega))
        generalize ackK r num = code at AKp AKr
        have AKq := box AKp
        have bcode : ((code : Int) != (code : Int)) = false := by simp
        clear AKp hok hok2 hb1 hb2 hL1 hw2 hn1 hn2 EQ
        refine wpAnyH_take (i := 0) (oi := { dst := some 117, op := Go.Op.move (Go.Operand.tmp 7), type := 25, pos := "law.go:77", after := #[], guard := none }) (v := ?_) rfl (by kernel_rfl) (by kernel_rfl) (by kernel_rfl) (fun _ _ _ h => h) (Or.inl ⟨by rfl, ?_⟩) (by assumption) ?_
        rotate_left
        · (intro w hSw; (try dsimp only at hSw); go_simp; (try with_reducible rfl))
        simp only [Act.put, List.setIfInBounds_toArray, List.set_cons_zero, List.set_cons_succ]
        refine wpAnyH_take (i := 1) (oi := { dst := some 118, op := Go.Op.fieldAddr 34 (Go.Operand.tmp 11) 1, type := 0, pos := "law.go:77", after := #[], guard := none }) (v := ?_) rfl (by kernel_rfl) (by kernel_rfl) (by kernel_rfl) (fun _ _ _ h => h) (Or.inl ⟨by rfl, ?_⟩) (by assumption) ?_
        rotate_left
        · (intro w hSw; (try dsimp only at hSw); go_simp; (try with_reducible rfl))
        simp only [Act.put, List.setIfInBounds_toArray, List.set_cons_zero, List.set_cons_succ]
        refine wpAnyH_take (i := 2) (oi := { dst := some 119, op := Go.Op.load 3 (Go.Operand.tmp 118), type := 3, pos := "law.go:77", after := #[{ on := 1, ground := Go.Ground.data }], guard := none }) (v := ?_) rfl (by kernel_rfl) (by kernel_rfl) (by kernel_rfl) (fun _ _ _ h => h) (Or.inl ⟨by rfl, ?_⟩) (by assumption) ?_
        rotate_left
        · (intro w hSw; (try dsimp only at hSw); go_simp; (try with_reducible rfl))
        simp only [Act.put, List.setIfInBounds_toArray, List.set_cons_zero, List.set_cons_succ]
        refine wpAnyH_take (i := 4) (oi := { dst := some 121, op := Go.Op.fieldAddr 34 (Go.Operand.tmp 11) 1, type := 0, pos := "law.go:77", after := #[], guard := none }) (v := ?_) rfl (by kernel_rfl) (by kernel_rfl) (by kernel_rfl) (fun _ _ _ h => h) (Or.inl ⟨by rfl, ?_⟩) (by assumption) ?_
        rotate_left
        · (intro w hSw; (try dsimp only at hSw); go_simp; (try with_reducible rfl))
        simp only [Act.put, List.setIfInBounds_toArray, List.set_cons_zero, List.set_cons_succ]
        refine wpAnyH_take (i := 5) (oi := { dst := some 122, op := Go.Op.load 3 (Go.Operand.tmp 121), type := 3, pos := "law.go:77", after := #[{ on := 4, ground := Go.Ground.data }], guard := none }) (v := ?_) rfl (by kernel_rfl) (by kernel_rfl) (by kernel_rfl) (fun _ _ _ h => h) (Or.inl ⟨by rfl, ?_⟩) (by assumption) ?_
        rotate_left
        · (intro w hSw; (try dsimp only at hSw); go_simp; (try with_reducible rfl))
        simp only [Act.put, List.setIfInBounds_toArray, List.set_cons_zero, List.set_cons_succ]
        refine wpAnyH_ready (rs := [3]) (by kernel_rfl) (by simp) ?_
        refine (AllReadyH.cons (o := { dst := some 120, op := Go.Op.call { callee := Go.Callee.value (Go.Operand.func 20), args := #[Go.Operand.tmp 117, Go.Operand.tmp 119], argTypes := #[25, 3] }, type := 3, pos := "law.go:77", after := #[{ on := 0, ground := Go.Ground.data }, { on := 2, ground := Go.Ground.data }], guard := none }) rfl (fun K hK => ?_) AllReadyH.nil)
        go_simp
        refine AKq.out.mono ?_
        rintro e w6 ⟨v6, rfl, x6, st6⟩
        have hS6 : w6.cell? ⟨mm, 1, none⟩ = some (.int .i64 num) := by rw [World.cell?_of_block (a := ⟨mm, 1, none⟩) (st6.apart.block mm HMD.out HMP.out.1 HMP.out.2.1)]; exact Q2.out
        have X6 := box x6
        have ST6 := box st6
        have Y6 := box (BO.out.prog st6)
        have B6 := box (below2 HBA.out (BO.out.x.steps st6 (Below.refl B wb)) HBB.out)
        have AK6 := box (AKr.out v6 w6 Y6.out)
        clear x6 st6 AKq AKr
        refine hK.out _ _ (hS6) (fun hHeldx => ?_)
        clear hK K
        refine wpAnyH_ready (rs := [6]) (by kernel_rfl) (by simp) ?_
        refine (AllReadyH.cons (o := { dst := some 123, op := Go.Op.call { callee := Go.Callee.value (Go.Operand.func 21), args := #[Go.Operand.tmp 9, Go.Operand.tmp 122], argTypes := #[31, 3] }, type := 3, pos := "law.go:77", after := #[{ on := 5, ground := Go.Ground.data }, { on := 3, ground := Go.Ground.chain }], guard := none }) rfl (fun K hK => ?_) AllReadyH.nil)
        go_simp
        refine AK6.out.mono ?_
        rintro e w7 ⟨v7, rfl, y7, st7⟩
        have hS7 : w7.cell? ⟨mm, 1, none⟩ = some (.int .i64 num) := by rw [World.cell?_of_block (a := ⟨mm, 1, none⟩) (st7.apart.block mm (Nat.lt_of_lt_of_le HMD.out ST6.out.apart.size) HMP.out.2.2.1 HMP.out.2.2.2)]; exact hS6
        have BN := box (show Both B gp gr w7 (k + 1) v6 v7 (nakS p num) (nakS r num) from ⟨Both.back X6.out st7, y7, BO.out.sim.nak num, BO.out.ok.nak num, (nak_ta BO.out.ok BO.out.ta num).1, Nat.le_trans (Nat.le_of_eq (nak_ta BO.out.ok BO.out.ta num).2) (Nat.le_succ_of_le BO.out.b)⟩)
        have HB7 := box (below2 B6.out (Y6.out.steps st7 (Below.refl B w6)) HBB.out)
        have HR7 := box (show (nakS r num).W = W from (nakS_W r num).1.trans HRW.out)
        clear y7 st7 AK6
        refine hK.out _ _ (hS7) (fun hHeldx => ?_)
        clear hK K
        refine wpAnyH_take (i := 7) (oi := { dst := some 124, op := Go.Op.binOp Go.BinOp.neq 3 (Go.Operand.tmp 120) (Go.Operand.tmp 123) 3, type := 4, pos := "law.go:77", after := #[{ on := 3, ground := Go.Ground.data }, { on := 6, ground := Go.Ground.data }], guard := none }) (v := ?_) rfl (by kernel_rfl) (by kernel_rfl) (by kernel_rfl) (fun _ _ _ h => h) (Or.inl ⟨by rfl, ?_⟩) (by assumption) ?_
        rotate_left
        · (intro w hSw; (try dsimp only at hSw); go_simp; (try with_reducible rfl))
        simp only [Act.put, List.setIfInBounds_toArray, List.set_cons_zero, List.set_cons_succ]
        refine wpAnyH_done (by kernel_rfl) ?_ _
        go_wp2_with fail
        clear HRW BO HBA X6 Y6 ST6 B6
        generalize nakS p num = p7 at BN
        generalize nakS r num = r7 at BN HR7
        clear hS6 hS7 Q2 HMD
        have EQ := BN.out.sim.eqs
        have hok := BN.out.ok
        have hb1 := BN.out.b
        have hb2 := BN.out.ta
        have hL1 := hok.W
        have TT := box (ptotal_any _ _ gp v6 p7 w7 BN.out.x (by omega) (by omega))
        obtain ⟨A, hA⟩ : ∃ A, r7.ac = A := ⟨_, rfl⟩
        obtain ⟨L, hL⟩ : ∃ L, r7.ks.length = L := ⟨_, rfl⟩
        rw [EQ.2.2.2.1, EQ.2.2.1, hA, hL] at TT
        have EQL := box (show p7.ks.length = L from EQ.2.2.1.trans hL)
        have HTA := box (show ((r7.ta : Nat) : Int) = (A : Int) + (L : Int) from by omega)
        have HLA := box hL
        have HAA := box hA
        have l1 : L ≤ W := by have := HR7.out; omega
        have l2 : A + L ≤ 400 := by omega
        clear hA hL hok hb1 hb2 hL1 EQ
        go_wp2_with fail
        refine TT.out.mono ?_
        rintro e wM ⟨rfl, t, rfl⟩
        have BM := box (BN.out.keep (drewN_below w7 t))
        have HBM := box (HB7.out.trans ((drewN_below w7 t).mono HB7.out.size))
        clear BN HB7 TT
        (try clear q0 q1 q2)
        generalize w7.drewN t = wM at BM HBM ⊢
        have kD : Below wM.heap.size wM wM.drew := (Below.refl _ _).drew
        have KP := pkept_any _ _ gp v6 p7 wM.drew (BM.out.keep kD).x
        rw [EQL.out] at KP
        have KPq := box KP
        obtain ⟨ra, rc, hvr⟩ := BM.out.y.len
        have M := BM.out.y.m
        rw [hvr, HLA.out, HTA.out, HAA.out] at M
        obtain ⟨p0, p1, p2, p3, p4, p5, p6, p7, pz⟩ := M
        have b1 : ((L : Int) != (L : Int)) = false := by simp
        have b2 : ((A : Int) + (L : Int) != (A : Int) + (L : Int)) = false := by simp
        have b3 : ((A : Int) != (A : Int)) = false := by simp
        have d1 : decide ((W : Int) < (L : Int)) = false := decide_eq_false (by omega)
        have d2 : decide (W < L) = false := decide_eq_false (by omega)
        have s1 : IntKind.i64.wrap ((A : Int) + (L : Int) - (A : Int)) = (L : Int) := by rw [IntKind.wrap_i64]; omega
        have s2 : IntKind.i64.wrap (L : Int) = (L : Int) := by rw [IntKind.wrap_i64]; omega
        clear KP hvr p0 p1 p5 p6 p7 pz
        go_wp2_with fail
        refine wp_region_held_drew (S := (fun w' => w' = wM.drew)) (by kernel_rfl) (rfl) (fun hHeld => ?_)
        refine wpAnyH_take (i := 0) (oi := { dst := some 130, op := Go.Op.move (Go.Operand.tmp 7), type := 25, pos := "law.go:82", after := #[], guard := none }) (v := ?_) rfl (by kernel_rfl) (by kernel_rfl) (by kernel_rfl) (fun _ _ _ h => h) (Or.inl ⟨by rfl, ?_⟩) (by assumption) ?_
        rotate_left
        · (intro w hSw; (try dsimp only at hSw); subst hSw; go_simp; (try with_reducible rfl))
        simp only [Act.put, List.setIfInBounds_toArray, List.set_cons_zero, List.set_cons_succ]
        refine wpAnyH_take (i := 2) (oi := { dst := some 132, op := Go.Op.fieldAddr 31 (Go.Operand.tmp 9) 2, type := 0, pos := "law.go:82", after := #[], guard := none }) (v := ?_) rfl (by kernel_rfl) (by kernel_rfl) (by kernel_rfl) (fun _ _ _ h => h) (Or.inl ⟨by rfl, ?_⟩) (by assumption) ?_
        rotate_left
        · (intro w hSw; (try dsimp only at hSw); subst hSw; go_simp; (try with_reducible rfl))
        simp only [Act.put, List.setIfInBounds_toArray, List.set_cons_zero, List.set_cons_succ]
        refine wpAnyH_take (i := 3) (oi := { dst := some 133, op := Go.Op.load 29 (Go.Operand.tmp 132), type := 29, pos := "law.go:82", after := #[{ on := 2, ground := Go.Ground.data }], guard := none }) (v := ?_) rfl (by kernel_rfl) (by kernel_rfl) (by kernel_rfl) (fun _ _ _ h => h) (Or.inl ⟨by rfl, ?_⟩) (by assumption) ?_
        rotate_left
        · (intro w hSw; (try dsimp only at hSw); subst hSw; go_simp; (try with_reducible rfl))
        simp only [Act.put, List.setIfInBounds_toArray, List.set_cons_zero, List.set_cons_succ]
        refine wpAnyH_take (i := 4) (oi := { dst := some 134, op := Go.Op.call { callee := Go.Callee.builtin Go.Builtin.len, args := #[Go.Operand.tmp 133], argTypes := #[29] }, type := 3, pos := "law.go:82", after := #[{ on := 3, ground := Go.Ground.data }], guard := none }) (v := ?_) rfl (by kernel_rfl) (by kernel_rfl) (by kernel_rfl) (fun _ _ _ h => h) (Or.inl ⟨by rfl, ?_⟩) (by assumption) ?_
        rotate_left
        · (intro w hSw; (try dsimp only at hSw); subst hSw; go_simp; (try with_reducible rfl))
        simp only [Act.put, List.setIfInBounds_toArray, List.set_cons_zero, List.set_cons_succ]
        refine wpAnyH_ready (rs := [1]) (by kernel_rfl) (by simp) ?_
        refine (AllReadyH.cons (o := { dst := some 131, op := Go.Op.call { callee := Go.Callee.value (Go.Operand.func 23), args := #[Go.Operand.tmp 130], argTypes := #[25] }, type := 3, pos := "law.go:82", after := #[{ on := 0, ground := Go.Ground.data }], guard := none }) rfl (fun K hK => ?_) AllReadyH.nil)
        go_simp
        refine KPq.out.mono ?_
        rintro e wK ⟨rfl, hwK⟩
        subst hwK
        refine hK.out _ _ (rfl) (fun hHeldx => ?_)
        clear hK K
        refine wpAnyH_take (i := 5) (oi := { dst := some 135, op := Go.Op.binOp Go.BinOp.neq 3 (Go.Operand.tmp 131) (Go.Operand.tmp 134) 3, type := 4, pos := "law.go:82", after := #[{ on := 1, ground := Go.Ground.data }, { on := 4, ground := Go.Ground.data }], guard := none }) (v := ?_) rfl (by kernel_rfl) (by kernel_rfl) (by kernel_rfl) (fun _ _ _ h => h) (Or.inl ⟨by rfl, ?_⟩) (by assumption) ?_
        rotate_left
        · (intro w hSw; (try dsimp only at hSw); subst hSw; go_simp; (try with_reducible rfl))
        simp only [Act.put, List.setIfInBounds_toArray, List.set_cons_zero, List.set_cons_succ]
        refine wpAnyH_take (i := 6) (oi := { dst := some 136, op := Go.Op.move (Go.Operand.tmp 135), type := 4, pos := "law.go:82", after := #[{ on := 5, ground := Go.Ground.data }, { on := 1, ground := Go.Ground.chain }], guard := none }) (v := ?_) rfl (by kernel_rfl) (by kernel_rfl) (by kernel_rfl) (fun _ _ _ h => h) (Or.inl ⟨by rfl, ?_⟩) (by assumption) ?_
        rotate_left
        · (intro w hSw; (try dsimp only at hSw); subst hSw; go_simp; (try with_reducible rfl))
        simp only [Act.put, List.setIfInBounds_toArray, List.set_cons_zero, List.set_cons_succ]
        refine wpAnyH_take (i := 7) (oi := { dst := some 137, op := Go.Op.move (Go.Operand.tmp 18), type := 3, pos := "law.go:82", after := #[{ on := 6, ground := Go.Ground.guard }], guard := some (6, false) }) (v := ?_) rfl (by kernel_rfl) (by kernel_rfl) (by kernel_rfl) (fun _ _ _ h => h) (Or.inl ⟨by rfl, ?_⟩) (by assumption) ?_
        rotate_left
        · (intro w hSw; (try dsimp only at hSw); subst hSw; go_simp; (try with_reducible rfl))
        simp only [Act.put, List.setIfInBounds_toArray, List.set_cons_zero, List.set_cons_succ]
        refine wpAnyH_take (i := 8) (oi := { dst := some 138, op := Go.Op.fieldAddr 31 (Go.Operand.tmp 9) 3, type := 0, pos := "law.go:82", after := #[{ on := 6, ground := Go.Ground.guard }], guard := some (6, false) }) (v := ?_) rfl (by kernel_rfl) (by kernel_rfl) (by kernel_rfl) (fun _ _ _ h => h) (Or.inl ⟨by rfl, ?_⟩) (by assumption) ?_
        rotate_left
        · (intro w hSw; (try dsimp only at hSw); subst hSw; go_simp; (try with_reducible rfl))
        simp only [Act.put, List.setIfInBounds_toArray, List.set_cons_zero, List.set_cons_succ]
        refine wpAnyH_take (i := 9) (oi := { dst := some 139, op := Go.Op.load 3 (Go.Operand.tmp 138), type := 3, pos := "law.go:82", after := #[{ on := 8, ground := Go.Ground.data }, { on := 6, ground := Go.Ground.guard }], guard := some (6, false) }) (v := ?_) rfl (by kernel_rfl) (by kernel_rfl) (by kernel_rfl) (fun _ _ _ h => h) (Or.inl ⟨by rfl, ?_⟩) (by assumption) ?_
        rotate_left
        · (intro w hSw; (try dsimp only at hSw); subst hSw; go_simp; (try with_reducible rfl))
        simp only [Act.put, List.setIfInBounds_toArray, List.set_cons_zero, List.set_cons_succ]
        refine wpAnyH_take (i := 10) (oi := { dst := some 140, op := Go.Op.binOp Go.BinOp.neq 3 (Go.Operand.tmp 137) (Go.Operand.tmp 139) 3, type := 4, pos := "law.go:82", after := #[{ on := 7, ground := Go.Ground.data }, { on := 9, ground := Go.Ground.data }, { on := 6, ground := Go.Ground.guard }], guard := some (6, false) }) (v := ?_) rfl (by kernel_rfl) (by kernel_rfl) (by kernel_rfl) (fun _ _ _ h => h) (Or.inl ⟨by rfl, ?_⟩) (by assumption) ?_
        rotate_left
        · (intro w hSw; (try dsimp only at hSw); subst hSw; go_simp; (try with_reducible rfl))
        simp only [Act.put, List.setIfInBounds_toArray, List.set_cons_zero, List.set_cons_succ]
        refine wpAnyH_take (i := 11) (oi := { dst := some 141, op := Go.Op.pick (Go.Operand.tmp 136) (Go.Operand.const (Go.Value.bool true)) (Go.Operand.tmp 140), type := 4, pos := "law.go:82", after := #[{ on := 6, ground := Go.Ground.data }, { on := 10, ground := Go.Ground.data }], guard := none }) (v := ?_) rfl (by kernel_rfl) (by kernel_rfl) (by kernel_rfl) (fun _ _ _ h => h) (Or.inl ⟨by rfl, ?_⟩) (by assumption) ?_
        rotate_left
        · (intro w hSw; (try dsimp only at hSw); subst hSw; go_simp; (try with_reducible rfl))
        simp only [Act.put, List.setIfInBounds_toArray, List.set_cons_zero, List.set_cons_succ]
        refine wpAnyH_take (i := 12) (oi := { dst := some 142, op := Go.Op.move (Go.Operand.tmp 141), type := 4, pos := "law.go:82", after := #[{ on := 11, ground := Go.Ground.data }, { on := 6, ground := Go.Ground.chain }], guard := none }) (v := ?_) rfl (by kernel_rfl) (by kernel_rfl) (by kernel_rfl) (fun _ _ _ h => h) (Or.inl ⟨by rfl, ?_⟩) (by assumption) ?_
        rotate_left
        · (intro w hSw; (try dsimp only at hSw); subst hSw; go_simp; (try with_reducible rfl))
        simp only [Act.put, List.setIfInBounds_toArray, List.set_cons_zero, List.set_cons_succ]
        refine wpAnyH_take (i := 13) (oi := { dst := some 143, op := Go.Op.move (Go.Operand.tmp 19), type := 3, pos := "law.go:82", after := #[{ on := 12, ground := Go.Ground.guard }], guard := some (12, false) }) (v := ?_) rfl (by kernel_rfl) (by kernel_rfl) (by kernel_rfl) (fun _ _ _ h => h) (Or.inl ⟨by rfl, ?_⟩) (by assumption) ?_
        rotate_left
        · (intro w hSw; (try dsimp only at hSw); subst hSw; go_simp; (try with_reducible rfl))
        simp only [Act.put, List.setIfInBounds_toArray, List.set_cons_zero, List.set_cons_succ]
        refine wpAnyH_take (i := 14) (oi := { dst := some 144, op := Go.Op.fieldAddr 31 (Go.Operand.tmp 9) 4, type := 0, pos := "law.go:82", after := #[{ on := 12, ground := Go.Ground.guard }], guard := some (12, false) }) (v := ?_) rfl (by kernel_rfl) (by kernel_rfl) (by kernel_rfl) (fun _ _ _ h => h) (Or.inl ⟨by rfl, ?_⟩) (by assumption) ?_
        rotate_left
        · (intro w hSw; (try dsimp only at hSw); subst hSw; go_simp; (try with_reducible rfl))
        simp only [Act.put, List.setIfInBounds_toArray, List.set_cons_zero, List.set_cons_succ]
        refine wpAnyH_take (i := 15) (oi := { dst := some 145, op := Go.Op.load 3 (Go.Operand.tmp 144), type := 3, pos := "law.go:82", after := #[{ on := 14, ground := Go.Ground.data }, { on := 12, ground := Go.Ground.guard }], guard := some (12, false) }) (v := ?_) rfl (by kernel_rfl) (by kernel_rfl) (by kernel_rfl) (fun _ _ _ h => h) (Or.inl ⟨by rfl, ?_⟩) (by assumption) ?_
        rotate_left
        · (intro w hSw; (try dsimp only at hSw); subst hSw; go_simp; (try with_reducible rfl))
        simp only [Act.put, List.setIfInBounds_toArray, List.set_cons_zero, List.set_cons_succ]
        refine wpAnyH_take (i := 16) (oi := { dst := some 146, op := Go.Op.binOp Go.BinOp.neq 3 (Go.Operand.tmp 143) (Go.Operand.tmp 145) 3, type := 4, pos := "law.go:82", after := #[{ on := 13, ground := Go.Ground.data }, { on := 15, ground := Go.Ground.data }, { on := 12, ground := Go.Ground.guard }], guard := some (12, false) }) (v := ?_) rfl (by kernel_rfl) (by kernel_rfl) (by kernel_rfl) (fun _ _ _ h => h) (Or.inl ⟨by rfl, ?_⟩) (by assumption) ?_
        rotate_left
        · (intro w hSw; (try dsimp only at hSw); subst hSw; go_simp; (try with_reducible rfl))
        simp only [Act.put, List.setIfInBounds_toArray, List.set_cons_zero, List.set_cons_succ]
        refine wpAnyH_take (i := 17) (oi := { dst := some 147, op := Go.Op.pick (Go.Operand.tmp 142) (Go.Operand.const (Go.Value.bool true)) (Go.Operand.tmp 146), type := 4, pos := "law.go:82", after := #[{ on := 12, ground := Go.Ground.data }, { on := 16, ground := Go.Ground.data }], guard := none }) (v := ?_) rfl (by kernel_rfl) (by kernel_rfl) (by kernel_rfl) (fun _ _ _ h => h) (Or.inl ⟨by rfl, ?_⟩) (by assumption) ?_
        rotate_left
        · (intro w hSw; (try dsimp only at hSw); subst hSw; go_simp; (try with_reducible rfl))
        simp only [Act.put, List.setIfInBounds_toArray, List.set_cons_zero, List.set_cons_succ]
        refine wpAnyH_take (i := 18) (oi := { dst := some 148, op := Go.Op.move (Go.Operand.tmp 147), type := 4, pos := "law.go:82", after := #[{ on := 17, ground := Go.Ground.data }, { on := 12, ground := Go.Ground.chain }], guard := none }) (v := ?_) rfl (by kernel_rfl) (by kernel_rfl) (by kernel_rfl) (fun _ _ _ h => h) (Or.inl ⟨by rfl, ?_⟩) (by assumption) ?_
        rotate_left
        · (intro w hSw; (try dsimp only at hSw); subst hSw; go_simp; (try with_reducible rfl))
        simp only [Act.put, List.setIfInBounds_toArray, List.set_cons_zero, List.set_cons_succ]
        refine wpAnyH_take (i := 19) (oi := { dst := some 149, op := Go.Op.move (Go.Operand.tmp 7), type := 25, pos := "law.go:82", after := #[{ on := 18, ground := Go.Ground.guard }], guard := some (18, false) }) (v := ?_) rfl (by kernel_rfl) (by kernel_rfl) (by kernel_rfl) (fun _ _ _ h => h) (Or.inl ⟨by rfl, ?_⟩) (by assumption) ?_
        rotate_left
        · (intro w hSw; (try dsimp only at hSw); subst hSw; go_simp; (try with_reducible rfl))
        simp only [Act.put, List.setIfInBounds_toArray, List.set_cons_zero, List.set_cons_succ]
        refine wpAnyH_take (i := 21) (oi := { dst := some 151, op := Go.Op.move (Go.Operand.tmp 0), type := 3, pos := "law.go:82", after := #[{ on := 18, ground := Go.Ground.guard }], guard := some (18, false) }) (v := ?_) rfl (by kernel_rfl) (by kernel_rfl) (by kernel_rfl) (fun _ _ _ h => h) (Or.inl ⟨by rfl, ?_⟩) (by assumption) ?_
        rotate_left
        · (intro w hSw; (try dsimp only at hSw); subst hSw; go_simp; (try with_reducible rfl))
        simp only [Act.put, List.setIfInBounds_toArray, List.set_cons_zero, List.set_cons_succ]
        refine wpAnyH_ready (rs := [20]) (by kernel_rfl) (by simp) ?_
        refine (AllReadyH.cons (o := { dst := some 150, op := Go.Op.call { callee := Go.Callee.value (Go.Operand.func 23), args := #[Go.Operand.tmp 149], argTypes := #[25] }, type := 3, pos := "law.go:82", after := #[{ on := 19, ground := Go.Ground.data }, { on := 18, ground := Go.Ground.chain }, { on := 18, ground := Go.Ground.guard }], guard := some (18, false) }) rfl (fun K hK => ?_) AllReadyH.nil)
        go_simp
        refine KPq.out.mono ?_
        rintro e wK ⟨rfl, hwK⟩
        subst hwK
        refine hK.out _ _ (rfl) (fun hHeldx => ?_)
        clear hK K
        refine wpAnyH_take (i := 22) (oi := { dst := some 152, op := Go.Op.binOp Go.BinOp.gtr 3 (Go.Operand.tmp 150) (Go.Operand.tmp 151) 3, type := 4, pos := "law.go:82", after := #[{ on := 20, ground := Go.Ground.data }, { on := 21, ground := Go.Ground.data }, { on := 18, ground := Go.Ground.guard }], guard := some (18, false) }) (v := ?_) rfl (by kernel_rfl) (by kernel_rfl) (by kernel_rfl) (fun _ _ _ h => h) (Or.inl ⟨by rfl, ?_⟩) (by assumption) ?_
        rotate_left
        · (intro w hSw; (try dsimp only at hSw); subst hSw; go_simp; (try with_reducible rfl))
        simp only [Act.put, List.setIfInBounds_toArray, List.set_cons_zero, List.set_cons_succ]
        refine wpAnyH_take (i := 23) (oi := { dst := some 153, op := Go.Op.pick (Go.Operand.tmp 148) (Go.Operand.const (Go.Value.bool true)) (Go.Operand.tmp 152), type := 4, pos := "law.go:82", after := #[{ on := 18, ground := Go.Ground.data }, { on := 22, ground := Go.Ground.data }], guard := none }) (v := ?_) rfl (by kernel_rfl) (by kernel_rfl) (by kernel_rfl) (fun _ _ _ h => h) (Or.inl ⟨by rfl, ?_⟩) (by assumption) ?_
        rotate_left
        · (intro w hSw; (try dsimp only at hSw); subst hSw; go_simp; (try with_reducible rfl))
        simp only [Act.put, List.setIfInBounds_toArray, List.set_cons_zero, List.set_cons_succ]
        refine wpAnyH_take (i := 24) (oi := { dst := some 154, op := Go.Op.move (Go.Operand.tmp 153), type := 4, pos := "law.go:82", after := #[{ on := 23, ground := Go.Ground.data }, { on := 20, ground := Go.Ground.chain }], guard := none }) (v := ?_) rfl (by kernel_rfl) (by kernel_rfl) (by kernel_rfl) (fun _ _ _ h => h) (Or.inl ⟨by rfl, ?_⟩) (by assumption) ?_
        rotate_left
        · (intro w hSw; (try dsimp only at hSw); subst hSw; go_simp; (try with_reducible rfl))
        simp only [Act.put, List.setIfInBounds_toArray, List.set_cons_zero, List.set_cons_succ]
        refine wpAnyH_take (i := 25) (oi := { dst := some 155, op := Go.Op.move (Go.Operand.tmp 18), type := 3, pos := "law.go:82", after := #[{ on := 24, ground := Go.Ground.guard }], guard := some (24, false) }) (v := ?_) rfl (by kernel_rfl) (by kernel_rfl) (by kernel_rfl) (fun _ _ _ h => h) (Or.inl ⟨by rfl, ?_⟩) (by assumption) ?_
        rotate_left
        · (intro w hSw; (try dsimp only at hSw); subst hSw; go_simp; (try with_reducible rfl))
        simp only [Act.put, List.setIfInBounds_toArray, List.set_cons_zero, List.set_cons_succ]
        refine wpAnyH_take (i := 26) (oi := { dst := some 156, op := Go.Op.move (Go.Operand.tmp 19), type := 3, pos := "law.go:82", after := #[{ on := 24, ground := Go.Ground.guard }], guard := some (24, false) }) (v := ?_) rfl (by kernel_rfl) (by kernel_rfl) (by kernel_rfl) (fun _ _ _ h => h) (Or.inl ⟨by rfl, ?_⟩) (by assumption) ?_
        rotate_left
        · (intro w hSw; (try dsimp only at hSw); subst hSw; go_simp; (try with_reducible rfl))
        simp only [Act.put, List.setIfInBounds_toArray, List.set_cons_zero, List.set_cons_succ]
        refine wpAnyH_take (i := 27) (oi := { dst := some 157, op := Go.Op.binOp Go.BinOp.sub 3 (Go.Operand.tmp 155) (Go.Operand.tmp 156) 3, type := 3, pos := "law.go:82", after := #[{ on := 25, ground := Go.Ground.data }, { on := 26, ground := Go.Ground.data }, { on := 24, ground := Go.Ground.guard }], guard := some (24, false) }) (v := ?_) rfl (by kernel_rfl) (by kernel_rfl) (by kernel_rfl) (fun _ _ _ h => h) (Or.inl ⟨by rfl, ?_⟩) (by assumption) ?_
        rotate_left
        · (intro w hSw; (try dsimp only at hSw); subst hSw; go_simp; (try with_reducible rfl))
        simp only [Act.put, List.setIfInBounds_toArray, List.set_cons_zero, List.set_cons_succ]
        refine wpAnyH_take (i := 28) (oi := { dst := some 158, op := Go.Op.move (Go.Operand.tmp 7), type := 25, pos := "law.go:82", after := #[{ on := 24, ground := Go.Ground.guard }], guard := some (24, false) }) (v := ?_) rfl (by kernel_rfl) (by kernel_rfl) (by kernel_rfl) (fun _ _ _ h => h) (Or.inl ⟨by rfl, ?_⟩) (by assumption) ?_
        rotate_left
        · (intro w hSw; (try dsimp only at hSw); subst hSw; go_simp; (try with_reducible rfl))
        simp only [Act.put, List.setIfInBounds_toArray, List.set_cons_zero, List.set_cons_succ]
        refine wpAnyH_ready (rs := [29]) (by kernel_rfl) (by simp) ?_
        refine (AllReadyH.cons (o := { dst := some 159, op := Go.Op.call { callee := Go.Callee.value (Go.Operand.func 23), args := #[Go.Operand.tmp 158], argTypes := #[25] }, type := 3, pos := "law.go:82", after := #[{ on := 28, ground := Go.Ground.data }, { on := 24, ground := Go.Ground.chain }, { on := 24, ground := Go.Ground.guard }], guard := some (24, false) }) rfl (fun K hK => ?_) AllReadyH.nil)
        go_simp
        refine KPq.out.mono ?_
        rintro e wK ⟨rfl, hwK⟩
        subst hwK
        refine hK.out _ _ (rfl) (fun hHeldx => ?_)
        clear hK K
        refine wpAnyH_take (i := 30) (oi := { dst := some 160, op := Go.Op.binOp Go.BinOp.neq 3 (Go.Operand.tmp 157) (Go.Operand.tmp 159) 3, type := 4, pos := "law.go:82", after := #[{ on := 27, ground := Go.Ground.data }, { on := 29, ground := Go.Ground.data }, { on := 24, ground := Go.Ground.guard }], guard := some (24, false) }) (v := ?_) rfl (by kernel_rfl) (by kernel_rfl) (by kernel_rfl) (fun _ _ _ h => h) (Or.inl ⟨by rfl, ?_⟩) (by assumption) ?_
        rotate_left
        · (intro w hSw; (try dsimp only at hSw); subst hSw; go_simp; (try with_reducible rfl))
        simp only [Act.put, List.setIfInBounds_toArray, List.set_cons_zero, List.set_cons_succ]
        refine wpAnyH_take (i := 31) (oi := { dst := some 161, op := Go.Op.pick (Go.Operand.tmp 154) (Go.Operand.const (Go.Value.bool true)) (Go.Operand.tmp 160), type := 4, pos := "law.go:82", after := #[{ on := 24, ground := Go.Ground.data }, { on := 30, ground := Go.Ground.data }], guard := none }) (v := ?_) rfl (by kernel_rfl) (by kernel_rfl) (by kernel_rfl) (fun _ _ _ h => h) (Or.inl ⟨by rfl, ?_⟩) (by assumption) ?_
        rotate_left
        · (intro w hSw; (try dsimp only at hSw); subst hSw; go_simp; (try with_reducible rfl))
        simp only [Act.put, List.setIfInBounds_toArray, List.set_cons_zero, List.set_cons_succ]
        refine wpAnyH_done (by kernel_rfl) ?_ _
        go_wp2_with fail
        go_roundw
        case rel => exact ⟨k + 1, v6, v7, p7, r7, by omega, by go_num, box (BM.out.keep kD), HR7, box (HBM.out.trans (kD.mono HBM.out.size))⟩
        case measure => simp [intOf]; omega
      have d3 : (kd == 3) = false := by simp [h3]
      clear h3
      have BN := box (show Both B gp gr wa (k + 1) vp vr p r from ⟨BO.out.x, BO.out.y, BO.out.sim, BO.out.ok, BO.out.ta, Nat.le_succ_of_le BO.out.b⟩)
      clear HIN HMM BO
      have EQ := BN.out.sim.eqs
      have hok := BN.out.ok
      have hb1 := BN.out.b
      have hb2 := BN.out.ta
      have hL1 := hok.W
      have TT := box (ptotal_any _ _ gp vp p wa BN.out.x (by omega) (by omega))
      obtain ⟨A, hA⟩ : ∃ A, r.ac = A := ⟨_, rfl⟩
      obtain ⟨L, hL⟩ : ∃ L, r.ks.length = L := ⟨_, rfl⟩
      rw [EQ.2.2.2.1, EQ.2.2.1, hA, hL] at TT
      have EQL := box (show p.ks.length = L from EQ.2.2.1.trans hL)
      have HTA := box (show ((r.ta : Nat) : Int) = (A : Int) + (L : Int) from by omega)
      have HLA := box hL
      have HAA := box hA
      have l1 : L ≤ W := by have := HRW.out; omega
      have l2 : A + L ≤ 400 := by omega
      clear hA hL hok hb1 hb2 hL1 EQ
      go_wp2_with fail
      refine TT.out.mono ?_
      rintro e wM ⟨rfl, t, rfl⟩
      have BM := box (BN.out.keep (drewN_below wa t))
      have HBM := box (HBA.out.trans ((drewN_below wa t).mono HBA.out.size))
      clear BN HBA TT
      (try clear q0 q1 q2)
      generalize wa.drewN t = wM at BM HBM ⊢
      have kD : Below wM.heap.size wM wM.drew := (Below.refl _ _).drew
      have KP := pkept_any _ _ gp vp p wM.drew (BM.out.keep kD).x
      rw [EQL.out] at KP
      have KPq := box KP
      obtain ⟨ra, rc, hvr⟩ := BM.out.y.len
      have M := BM.out.y.m
      rw [hvr, HLA.out, HTA.out, HAA.out] at M
      obtain ⟨p0, p1, p2, p3, p4, p5, p6, p7, pz⟩ := M
      have b1 : ((L : Int) != (L : Int)) = false := by simp
      have b2 : ((A : Int) + (L : Int) != (A : Int) + (L : Int)) = false := by simp
      have b3 : ((A : Int) != (A : Int)) = false := by simp
      have d1 : decide ((W : Int) < (L : Int)) = false := decide_eq_false (by omega)
      have d2 : decide (W < L) = false := decide_eq_false (by omega)
      have s1 : IntKind.i64.wrap ((A : Int) + (L : Int) - (A : Int)) = (L : Int) := by rw [IntKind.wrap_i64]; omega
      have s2 : IntKind.i64.wrap (L : Int) = (L : Int) := by rw [IntKind.wrap_i64]; omega
      clear KP hvr p0 p1 p5 p6 p7 pz
      go_wp2_with fail
      refine wp_region_held_drew (S := (fun w' => w' = wM.drew)) (by kernel_rfl) (rfl) (fun hHeld => ?_)
      refine wpAnyH_take (i := 0) (oi := { dst := some 130, op := Go.Op.move (Go.Operand.tmp 7), type := 25, pos := "law.go:82", after := #[], guard := none }) (v := ?_) rfl (by kernel_rfl) (by kernel_rfl) (by kernel_rfl) (fun _ _ _ h => h) (Or.inl ⟨by rfl, ?_⟩) (by assumption) ?_
      rotate_left
      · (intro w hSw; (try dsimp only at hSw); subst hSw; go_simp; (try with_reducible rfl))
      simp only [Act.put, List.setIfInBounds_toArray, List.set_cons_zero, List.set_cons_succ]
      refine wpAnyH_take (i := 2) (oi := { dst := some 132, op := Go.Op.fieldAddr 31 (Go.Operand.tmp 9) 2, type := 0, pos := "law.go:82", after := #[], guard := none }) (v := ?_) rfl (by kernel_rfl) (by kernel_rfl) (by kernel_rfl) (fun _ _ _ h => h) (Or.inl ⟨by rfl, ?_⟩) (by assumption) ?_
      rotate_left
      · (intro w hSw; (try dsimp only at hSw); subst hSw; go_simp; (try with_reducible rfl))
      simp only [Act.put, List.setIfInBounds_toArray, List.set_cons_zero, List.set_cons_succ]
      refine wpAnyH_take (i := 3) (oi := { dst := some 133, op := Go.Op.load 29 (Go.Operand.tmp 132), type := 29, pos := "law.go:82", after := #[{ on := 2, ground := Go.Ground.data }], guard := none }) (v := ?_) rfl (by kernel_rfl) (by kernel_rfl) (by kernel_rfl) (fun _ _ _ h => h) (Or.inl ⟨by rfl, ?_⟩) (by assumption) ?_
      rotate_left
      · (intro w hSw; (try dsimp only at hSw); subst hSw; go_simp; (try with_reducible rfl))
      simp only [Act.put, List.setIfInBounds_toArray, List.set_cons_zero, List.set_cons_succ]
      refine wpAnyH_take (i := 4) (oi := { dst := some 134, op := Go.Op.call { callee := Go.Callee.builtin Go.Builtin.len, args := #[Go.Operand.tmp 133], argTypes := #[29] }, type := 3, pos := "law.go:82", after := #[{ on := 3, ground := Go.Ground.data }], guard := none }) (v := ?_) rfl (by kernel_rfl) (by kernel_rfl) (by kernel_rfl) (fun _ _ _ h => h) (Or.inl ⟨by rfl, ?_⟩) (by assumption) ?_
      rotate_left
      · (intro w hSw; (try dsimp only at hSw); subst hSw; go_simp; (try with_reducible rfl))
      simp only [Act.put, List.setIfInBounds_toArray, List.set_cons_zero, List.set_cons_succ]
      refine wpAnyH_ready (rs := [1]) (by kernel_rfl) (by simp) ?_
      refine (AllReadyH.cons (o := { dst := some 131, op := Go.Op.call { callee := Go.Callee.value (Go.Operand.func 23), args := #[Go.Operand.tmp 130], argTypes := #[25] }, type := 3, pos := "law.go:82", after := #[{ on := 0, ground := Go.Ground.data }], guard := none }) rfl (fun K hK => ?_) AllReadyH.nil)
      go_simp
      refine KPq.out.mono ?_
      rintro e wK ⟨rfl, hwK⟩
      subst hwK
      refine hK.out _ _ (rfl) (fun hHeldx => ?_)
      clear hK K
      refine wpAnyH_take (i := 5) (oi := { dst := some 135, op := Go.Op.binOp Go.BinOp.neq 3 (Go.Operand.tmp 131) (Go.Operand.tmp 134) 3, type := 4, pos := "law.go:82", after := #[{ on := 1, ground := Go.Ground.data }, { on := 4, ground := Go.Ground.data }], guard := none }) (v := ?_) rfl (by kernel_rfl) (by kernel_rfl) (by kernel_rfl) (fun _ _ _ h => h) (Or.inl ⟨by rfl, ?_⟩) (by assumption) ?_
      rotate_left
      · (intro w hSw; (try dsimp only at hSw); subst hSw; go_simp; (try with_reducible rfl))
      simp only [Act.put, List.setIfInBounds_toArray, List.set_cons_zero, List.set_cons_succ]
      refine wpAnyH_take (i := 6) (oi := { dst := some 136, op := Go.Op.move (Go.Operand.tmp 135), type := 4, pos := "law.go:82", after := #[{ on := 5, ground := Go.Ground.data }, { on := 1, ground := Go.Ground.chain }], guard := none }) (v := ?_) rfl (by kernel_rfl) (by kernel_rfl) (by kernel_rfl) (fun _ _ _ h => h) (Or.inl ⟨by rfl, ?_⟩) (by assumption) ?_
      rotate_left
      · (intro w hSw; (try dsimp only at hSw); subst hSw; go_simp; (try with_reducible rfl))
      simp only [Act.put, List.setIfInBounds_toArray, List.set_cons_zero, List.set_cons_succ]
      refine wpAnyH_take (i := 7) (oi := { dst := some 137, op := Go.Op.move (Go.Operand.tmp 18), type := 3, pos := "law.go:82", after := #[{ on := 6, ground := Go.Ground.guard }], guard := some (6, false) }) (v := ?_) rfl (by kernel_rfl) (by kernel_rfl) (by kernel_rfl) (fun _ _ _ h => h) (Or.inl ⟨by rfl, ?_⟩) (by assumption) ?_
      rotate_left
      · (intro w hSw; (try dsimp only at hSw); subst hSw; go_simp; (try with_reducible rfl))
      simp only [Act.put, List.setIfInBounds_toArray, List.set_cons_zero, List.set_cons_succ]
      refine wpAnyH_take (i := 8) (oi := { dst := some 138, op := Go.Op.fieldAddr 31 (Go.Operand.tmp 9) 3, type := 0, pos := "law.go:82", after := #[{ on := 6, ground := Go.Ground.guard }], guard := some (6, false) }) (v := ?_) rfl (by kernel_rfl) (by kernel_rfl) (by kernel_rfl) (fun _ _ _ h => h) (Or.inl ⟨by rfl, ?_⟩) (by assumption) ?_
      rotate_left
      · (intro w hSw; (try dsimp only at hSw); subst hSw; go_simp; (try with_reducible rfl))
      simp only [Act.put, List.setIfInBounds_toArray, List.set_cons_zero, List.set_cons_succ]
      refine wpAnyH_take (i := 9) (oi := { dst := some 139, op := Go.Op.load 3 (Go.Operand.tmp 138), type := 3, pos := "law.go:82", after := #[{ on := 8, ground := Go.Ground.data }, { on := 6, ground := Go.Ground.guard }], guard := some (6, false) }) (v := ?_) rfl (by kernel_rfl) (by kernel_rfl) (by kernel_rfl) (fun _ _ _ h => h) (Or.inl ⟨by rfl, ?_⟩) (by assumption) ?_
      rotate_left
      · (intro w hSw; (try dsimp only at hSw); subst hSw; go_simp; (try with_reducible rfl))
      simp only [Act.put, List.setIfInBounds_toArray, List.set_cons_zero, List.set_cons_succ]
      refine wpAnyH_take (i := 10) (oi := { dst := some 140, op := Go.Op.binOp Go.BinOp.neq 3 (Go.Operand.tmp 137) (Go.Operand.tmp 139) 3, type := 4, pos := "law.go:82", after := #[{ on := 7, ground := Go.Ground.data }, { on := 9, ground := Go.Ground.data }, { on := 6, ground := Go.Ground.guard }], guard := some (6, false) }) (v := ?_) rfl (by kernel_rfl) (by kernel_rfl) (by kernel_rfl) (fun _ _ _ h => h) (Or.inl ⟨by rfl, ?_⟩) (by assumption) ?_
      rotate_left
      · (intro w hSw; (try dsimp only at hSw); subst hSw; go_simp; (try with_reducible rfl))
      simp only [Act.put, List.setIfInBounds_toArray, List.set_cons_zero, List.set_cons_succ]
      refine wpAnyH_take (i := 11) (oi := { dst := some 141, op := Go.Op.pick (Go.Operand.tmp 136) (Go.Operand.const (Go.Value.bool true)) (Go.Operand.tmp 140), type := 4, pos := "law.go:82", after := #[{ on := 6, ground := Go.Ground.data }, { on := 10, ground := Go.Ground.data }], guard := none }) (v := ?_) rfl (by kernel_rfl) (by kernel_rfl) (by kernel_rfl) (fun _ _ _ h => h) (Or.inl ⟨by rfl, ?_⟩) (by assumption) ?_
      rotate_left
      · (intro w hSw; (try dsimp only at hSw); subst hSw; go_simp; (try with_reducible rfl))
      simp only [Act.put, List.setIfInBounds_toArray, List.set_cons_zero, List.set_cons_succ]
      refine wpAnyH_take (i := 12) (oi := { dst := some 142, op := Go.Op.move (Go.Operand.tmp 141), type := 4, pos := "law.go:82", after := #[{ on := 11, ground := Go.Ground.data }, { on := 6, ground := Go.Ground.chain }], guard := none }) (v := ?_) rfl (by kernel_rfl) (by kernel_rfl) (by kernel_rfl) (fun _ _ _ h => h) (Or.inl ⟨by rfl, ?_⟩) (by assumption) ?_
      rotate_left
      · (intro w hSw; (try dsimp only at hSw); subst hSw; go_simp; (try with_reducible rfl))
      simp only [Act.put, List.setIfInBounds_toArray, List.set_cons_zero, List.set_cons_succ]
      refine wpAnyH_take (i := 13) (oi := { dst := some 143, op := Go.Op.move (Go.Operand.tmp 19), type := 3, pos := "law.go:82", after := #[{ on := 12, ground := Go.Ground.guard }], guard := some (12, false) }) (v := ?_) rfl (by kernel_rfl) (by kernel_rfl) (by kernel_rfl) (fun _ _ _ h => h) (Or.inl ⟨by rfl, ?_⟩) (by assumption) ?_
      rotate_left
      · (intro w hSw; (try dsimp only at hSw); subst hSw; go_simp; (try with_reducible rfl))
      simp only [Act.put, List.setIfInBounds_toArray, List.set_cons_zero, List.set_cons_succ]
      refine wpAnyH_take (i := 14) (oi := { dst := some 144, op := Go.Op.fieldAddr 31 (Go.Operand.tmp 9) 4, type := 0, pos := "law.go:82", after := #[{ on := 12, ground := Go.Ground.guard }], guard := some (12, false) }) (v := ?_) rfl (by kernel_rfl) (by kernel_rfl) (by kernel_rfl) (fun _ _ _ h => h) (Or.inl ⟨by rfl, ?_⟩) (by assumption) ?_
      rotate_left
      · (intro w hSw; (try dsimp only at hSw); subst hSw; go_simp; (try with_reducible rfl))
      simp only [Act.put, List.setIfInBounds_toArray, List.set_cons_zero, List.set_cons_succ]
      refine wpAnyH_take (i := 15) (oi := { dst := some 145, op := Go.Op.load 3 (Go.Operand.tmp 144), type := 3, pos := "law.go:82", after := #[{ on := 14, ground := Go.Ground.data }, { on := 12, ground := Go.Ground.guard }], guard := some (12, false) }) (v := ?_) rfl (by kernel_rfl) (by kernel_rfl) (by kernel_rfl) (fun _ _ _ h => h) (Or.inl ⟨by rfl, ?_⟩) (by assumption) ?_
      rotate_left
      · (intro w hSw; (try dsimp only at hSw); subst hSw; go_simp; (try with_reducible rfl))
      simp only [Act.put, List.setIfInBounds_toArray, List.set_cons_zero, List.set_cons_succ]
      refine wpAnyH_take (i := 16) (oi := { dst := some 146, op := Go.Op.binOp Go.BinOp.neq 3 (Go.Operand.tmp 143) (Go.Operand.tmp 145) 3, type := 4, pos := "law.go:82", after := #[{ on := 13, ground := Go.Ground.data }, { on := 15, ground := Go.Ground.data }, { on := 12, ground := Go.Ground.guard }], guard := some (12, false) }) (v := ?_) rfl (by kernel_rfl) (by kernel_rfl) (by kernel_rfl) (fun _ _ _ h => h) (Or.inl ⟨by rfl, ?_⟩) (by assumption) ?_
      rotate_left
      · (intro w hSw; (try dsimp only at hSw); subst hSw; go_simp; (try with_reducible rfl))
      simp only [Act.put, List.setIfInBounds_toArray, List.set_cons_zero, List.set_cons_succ]
      refine wpAnyH_take (i := 17) (oi := { dst := some 147, op := Go.Op.pick (Go.Operand.tmp 142) (Go.Operand.const (Go.Value.bool true)) (Go.Operand.tmp 146), type := 4, pos := "law.go:82", after := #[{ on := 12, ground := Go.Ground.data }, { on := 16, ground := Go.Ground.data }], guard := none }) (v := ?_) rfl (by kernel_rfl) (by kernel_rfl) (by kernel_rfl) (fun _ _ _ h => h) (Or.inl ⟨by rfl, ?_⟩) (by assumption) ?_
      rotate_left
      · (intro w hSw; (try dsimp only at hSw); subst hSw; go_simp; (try with_reducible rfl))
      simp only [Act.put, List.setIfInBounds_toArray, List.set_cons_zero, List.set_cons_succ]
      refine wpAnyH_take (i := 18) (oi := { dst := some 148, op := Go.Op.move (Go.Operand.tmp 147), type := 4, pos := "law.go:82", after := #[{ on := 17, ground := Go.Ground.data }, { on := 12, ground := Go.Ground.chain }], guard := none }) (v := ?_) rfl (by kernel_rfl) (by kernel_rfl) (by kernel_rfl) (fun _ _ _ h => h) (Or.inl ⟨by rfl, ?_⟩) (by assumption) ?_
      rotate_left
      · (intro w hSw; (try dsimp only at hSw); subst hSw; go_simp; (try with_reducible rfl))
      simp only [Act.put, List.setIfInBounds_toArray, List.set_cons_zero, List.set_cons_succ]
      refine wpAnyH_take (i := 19) (oi := { dst := some 149, op := Go.Op.move (Go.Operand.tmp 7), type := 25, pos := "law.go:82", after := #[{ on := 18, ground := Go.Ground.guard }], guard := some (18, false) }) (v := ?_) rfl (by kernel_rfl) (by kernel_rfl) (by kernel_rfl) (fun _ _ _ h => h) (Or.inl ⟨by rfl, ?_⟩) (by assumption) ?_
      rotate_left
      · (intro w hSw; (try dsimp only at hSw); subst hSw; go_simp; (try with_reducible rfl))
      simp only [Act.put, List.setIfInBounds_toArray, List.set_cons_zero, List.set_cons_succ]
      refine wpAnyH_take (i := 21) (oi := { dst := some 151, op := Go.Op.move (Go.Operand.tmp 0), type := 3, pos := "law.go:82", after := #[{ on := 18, ground := Go.Ground.guard }], guard := some (18, false) }) (v := ?_) rfl (by kernel_rfl) (by kernel_rfl) (by kernel_rfl) (fun _ _ _ h => h) (Or.inl ⟨by rfl, ?_⟩) (by assumption) ?_
      rotate_left
      · (intro w hSw; (try dsimp only at hSw); subst hSw; go_simp; (try with_reducible rfl))
      simp only [Act.put, List.setIfInBounds_toArray, List.set_cons_zero, List.set_cons_succ]
      refine wpAnyH_ready (rs := [20]) (by kernel_rfl) (by simp) ?_
      refine (AllReadyH.cons (o := { dst := some 150, op := Go.Op.call { callee := Go.Callee.value (Go.Operand.func 23), args := #[Go.Operand.tmp 149], argTypes := #[25] }, type := 3, pos := "law.go:82", after := #[{ on := 19, ground := Go.Ground.data }, { on := 18, ground := Go.Ground.chain }, { on := 18, ground := Go.Ground.guard }], guard := some (18, false) }) rfl (fun K hK => ?_) AllReadyH.nil)
      go_simp
      refine KPq.out.mono ?_
      rintro e wK ⟨rfl, hwK⟩
      subst hwK
      refine hK.out _ _ (rfl) (fun hHeldx => ?_)
      clear hK K
      refine wpAnyH_take (i := 22) (oi := { dst := some 152, op := Go.Op.binOp Go.BinOp.gtr 3 (Go.Operand.tmp 150) (Go.Operand.tmp 151) 3, type := 4, pos := "law.go:82", after := #[{ on := 20, ground := Go.Ground.data }, { on := 21, ground := Go.Ground.data }, { on := 18, ground := Go.Ground.guard }], guard := some (18, false) }) (v := ?_) rfl (by kernel_rfl) (by kernel_rfl) (by kernel_rfl) (fun _ _ _ h => h) (Or.inl ⟨by rfl, ?_⟩) (by assumption) ?_
      rotate_left
      · (intro w hSw; (try dsimp only at hSw); subst hSw; go_simp; (try with_reducible rfl))
      simp only [Act.put, List.setIfInBounds_toArray, List.set_cons_zero, List.set_cons_succ]
      refine wpAnyH_take (i := 23) (oi := { dst := some 153, op := Go.Op.pick (Go.Operand.tmp 148) (Go.Operand.const (Go.Value.bool true)) (Go.Operand.tmp 152), type := 4, pos := "law.go:82", after := #[{ on := 18, ground := Go.Ground.data }, { on := 22, ground := Go.Ground.data }], guard := none }) (v := ?_) rfl (by kernel_rfl) (by kernel_rfl) (by kernel_rfl) (fun _ _ _ h => h) (Or.inl ⟨by rfl, ?_⟩) (by assumption) ?_
      rotate_left
      · (intro w hSw; (try dsimp only at hSw); subst hSw; go_simp; (try with_reducible rfl))
      simp only [Act.put, List.setIfInBounds_toArray, List.set_cons_zero, List.set_cons_succ]
      refine wpAnyH_take (i := 24) (oi := { dst := some 154, op := Go.Op.move (Go.Operand.tmp 153), type := 4, pos := "law.go:82", after := #[{ on := 23, ground := Go.Ground.data }, { on := 20, ground := Go.Ground.chain }], guard := none }) (v := ?_) rfl (by kernel_rfl) (by kernel_rfl) (by kernel_rfl) (fun _ _ _ h => h) (Or.inl ⟨by rfl, ?_⟩) (by assumption) ?_
      rotate_left
      · (intro w hSw; (try dsimp only at hSw); subst hSw; go_simp; (try with_reducible rfl))
      simp only [Act.put, List.setIfInBounds_toArray, List.set_cons_zero, List.set_cons_succ]
      refine wpAnyH_take (i := 25) (oi := { dst := some 155, op := Go.Op.move (Go.Operand.tmp 18), type := 3, pos := "law.go:82", after := #[{ on := 24, ground := Go.Ground.guard }], guard := some (24, false) }) (v := ?_) rfl (by kernel_rfl) (by kernel_rfl) (by kernel_rfl) (fun _ _ _ h => h) (Or.inl ⟨by rfl, ?_⟩) (by assumption) ?_
      rotate_left
      · (intro w hSw; (try dsimp only at hSw); subst hSw; go_simp; (try with_reducible rfl))
      simp only [Act.put, List.setIfInBounds_toArray, List.set_cons_zero, List.set_cons_succ]
      refine wpAnyH_take (i := 26) (oi := { dst := some 156, op := Go.Op.move (Go.Operand.tmp 19), type := 3, pos := "law.go:82", after := #[{ on := 24, ground := Go.Ground.guard }], guard := some (24, false) }) (v := ?_) rfl (by kernel_rfl) (by kernel_rfl) (by kernel_rfl) (fun _ _ _ h => h) (Or.inl ⟨by rfl, ?_⟩) (by assumption) ?_
      rotate_left
      · (intro w hSw; (try dsimp only at hSw); subst hSw; go_simp; (try with_reducible rfl))
      simp only [Act.put, List.setIfInBounds_toArray, List.set_cons_zero, List.set_cons_succ]
      refine wpAnyH_take (i := 27) (oi := { dst := some 157, op := Go.Op.binOp Go.BinOp.sub 3 (Go.Operand.tmp 155) (Go.Operand.tmp 156) 3, type := 3, pos := "law.go:82", after := #[{ on := 25, ground := Go.Ground.data }, { on := 26, ground := Go.Ground.data }, { on := 24, ground := Go.Ground.guard }], guard := some (24, false) }) (v := ?_) rfl (by kernel_rfl) (by kernel_rfl) (by kernel_rfl) (fun _ _ _ h => h) (Or.inl ⟨by rfl, ?_⟩) (by assumption) ?_
      rotate_left
      · (intro w hSw; (try dsimp only at hSw); subst hSw; go_simp; (try with_reducible rfl))
      simp only [Act.put, List.setIfInBounds_toArray, List.set_cons_zero, List.set_cons_succ]
      refine wpAnyH_take (i := 28) (oi := { dst := some 158, op := Go.Op.move (Go.Operand.tmp 7), type := 25, pos := "law.go:82", after := #[{ on := 24, ground := Go.Ground.guard }], guard := some (24, false) }) (v := ?_) rfl (by kernel_rfl) (by kernel_rfl) (by kernel_rfl) (fun _ _ _ h => h) (Or.inl ⟨by rfl, ?_⟩) (by assumption) ?_
      rotate_left
      · (intro w hSw; (try dsimp only at hSw); subst hSw; go_simp; (try with_reducible rfl))
      simp only [Act.put, List.setIfInBounds_toArray, List.set_cons_zero, List.set_cons_succ]
      refine wpAnyH_ready (rs := [29]) (by kernel_rfl) (by simp) ?_
      refine (AllReadyH.cons (o := { dst := some 159, op := Go.Op.call { callee := Go.Callee.value (Go.Operand.func 23), args := #[Go.Operand.tmp 158], argTypes := #[25] }, type := 3, pos := "law.go:82", after := #[{ on := 28, ground := Go.Ground.data }, { on := 24, ground := Go.Ground.chain }, { on := 24, ground := Go.Ground.guard }], guard := some (24, false) }) rfl (fun K hK => ?_) AllReadyH.nil)
      go_simp
      refine KPq.out.mono ?_
      rintro e wK ⟨rfl, hwK⟩
      subst hwK
      refine hK.out _ _ (rfl) (fun hHeldx => ?_)
      clear hK K
      refine wpAnyH_take (i := 30) (oi := { dst := some 160, op := Go.Op.binOp Go.BinOp.neq 3 (Go.Operand.tmp 157) (Go.Operand.tmp 159) 3, type := 4, pos := "law.go:82", after := #[{ on := 27, ground := Go.Ground.data }, { on := 29, ground := Go.Ground.data }, { on := 24, ground := Go.Ground.guard }], guard := some (24, false) }) (v := ?_) rfl (by kernel_rfl) (by kernel_rfl) (by kernel_rfl) (fun _ _ _ h => h) (Or.inl ⟨by rfl, ?_⟩) (by assumption) ?_
      rotate_left
      · (intro w hSw; (try dsimp only at hSw); subst hSw; go_simp; (try with_reducible rfl))
      simp only [Act.put, List.setIfInBounds_toArray, List.set_cons_zero, List.set_cons_succ]
      refine wpAnyH_take (i := 31) (oi := { dst := some 161, op := Go.Op.pick (Go.Operand.tmp 154) (Go.Operand.const (Go.Value.bool true)) (Go.Operand.tmp 160), type := 4, pos := "law.go:82", after := #[{ on := 24, ground := Go.Ground.data }, { on := 30, ground := Go.Ground.data }], guard := none }) (v := ?_) rfl (by kernel_rfl) (by kernel_rfl) (by kernel_rfl) (fun _ _ _ h => h) (Or.inl ⟨by rfl, ?_⟩) (by assumption) ?_
      rotate_left
      · (intro w hSw; (try dsimp only at hSw); subst hSw; go_simp; (try with_reducible rfl))
      simp only [Act.put, List.setIfInBounds_toArray, List.set_cons_zero, List.set_cons_succ]
      refine wpAnyH_done (by kernel_rfl) ?_ _
      go_wp2_with fail
      go_roundw
      case rel => exact ⟨k + 1, vp, vr, p, r, by omega, by go_num, box (BM.out.keep kD), HRW, box (HBM.out.trans (kD.mono HBM.out.size))⟩
      case measure => simp [intOf]; omega
    · go_wp2_with fail
      go_ret
      exact ⟨rfl, hbel.out⟩
end Go.Proofs.Ytfpicobjnpjhlaa
