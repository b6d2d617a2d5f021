/- CreditRaises: its walk. -/
import Derived.Test.YtoolphpideicoaaCreG
import Derived.Deep.DeepCutAuto
namespace Go.Proofs.Ytoolphpideicoaa
open Go.RowKit

/-- A limit that counts; the greatest of a list. -/
def vm (z : Int) : Nat := if z < 0 ∨ 1099511627776 < z then 0 else z.toNat
def mx : List Int → Nat
  | [] => 0
  | z :: zs => max (vm z) (mx zs)
theorem mx_snoc (zs : List Int) (z : Int) : mx (zs ++ [z]) = max (mx zs) (vm z) := by
  induction zs with
  | nil => show max (vm z) 0 = max 0 (vm z); omega
  | cons y ys ih => show max (vm y) (mx (ys ++ [z])) = max (max (vm y) (mx ys)) (vm z); rw [ih]; omega
theorem vm_le (z : Int) : vm z ≤ LIM := by unfold vm LIM; split <;> omega
theorem mx_le (zs : List Int) : mx zs ≤ LIM := by
  induction zs with
  | nil => exact Nat.zero_le _
  | cons y ys ih => have := vm_le y; show max (vm y) (mx ys) ≤ LIM; omega
theorem rsC_vm (c : Tc) (z : Int) : c.rsC z = ⟨max c.l (vm z), c.s⟩ := by
  unfold Tc.rsC vm
  split
  · show c = ⟨max c.l 0, c.s⟩
    rw [show max c.l 0 = c.l by omega]
  · rfl
theorem mx_take {zs : List Int} {i : Nat} (h : i < zs.length) : mx (zs.take (i + 1)) = max (mx (zs.take i)) (vm zs[i]) := by
  rw [List.take_succ_eq_append_getElem h, mx_snoc]
theorem mx_drop {zs : List Int} {i : Nat} (h : i < zs.length) : mx (zs.drop i) = max (vm zs[i]) (mx (zs.drop (i + 1))) := by
  rw [List.drop_eq_getElem_cons h]; rfl

/-- Two takers of one class. -/
structure T2 (B : Nat) (w0 w : World) (ga ha : Nat) (ca : Tc) (gb hb : Nat) (cb : Tc) : Prop where
  xa : TkAt w ga ha [ca]
  xb : TkAt w gb hb [cb]
  bel : Below B w0 w
  sz : B ≤ w.heap.size
  ba : B ≤ ha
  bb : B ≤ hb
  n1 : gb ≠ ha
  n2 : hb ≠ ha
  n3 : ga ≠ hb
section
variable {B : Nat} {w0 w w' : World} {ga ha : Nat} {ca ca' : Tc} {gb hb : Nat} {cb cb' : Tc}
theorem T2.keep (x : T2 B w0 w ga ha ca gb hb cb) (b : Below w.heap.size w w') : T2 B w0 w' ga ha ca gb hb cb :=
  ⟨x.xa.keep b, x.xb.keep b, x.bel.trans (b.mono x.sz), Nat.le_trans x.sz b.size, x.ba, x.bb, x.n1, x.n2, x.n3⟩
theorem T2.stepA (x : T2 B w0 w ga ha ca gb hb cb) (x' : TkAt w' ga ha ([ca].set 0 ca')) (a : Apart ha none w w') : T2 B w0 w' ga ha ca' gb hb cb :=
  ⟨x', x.xb.apart a x.n1 x.n2, a.below x.bel x.sz x.ba (fun k hk => by cases hk), Nat.le_trans x.sz a.size, x.ba, x.bb, x.n1, x.n2, x.n3⟩
theorem T2.stepB (x : T2 B w0 w ga ha ca gb hb cb) (x' : TkAt w' gb hb ([cb].set 0 cb')) (a : Apart hb none w w') : T2 B w0 w' ga ha ca gb hb cb' :=
  ⟨x.xa.apart a x.n3 (fun e => x.n2 e.symm), x', a.below x.bel x.sz x.bb (fun k hk => by cases hk), Nat.le_trans x.sz a.size, x.ba, x.bb, x.n1, x.n2, x.n3⟩
end
theorem ok_tc (m : Nat) (h : m ≤ LIM) : (⟨m, 0⟩ : Tc).Ok := ⟨Nat.zero_le _, h⟩

set_option maxRecDepth 100000 in
set_option maxHeartbeats 8000000 in
theorem raises_any (a : Option Addr) (n c : Nat) (zs : List Int) (hn : zs.length = n) (hz : ∀ z ∈ zs, -9223372036854775808 ≤ z ∧ z ≤ 9223372036854775807) (hbig : n ≤ maxLen) (w : World) (hi : Ints w a zs) :
    Calls Try.prog 8 #[.slice a n c] w fun e w' => e = .returned (.bool true) ∧ Below w.heap.size w w' := by
  have hbig2 : n ≤ 9223372036854775807 := by unfold maxLen at hbig; exact hbig
  have AW := box (awake_any w)
  go_enter Try.func8, Try.ntmps8
  go_wp2_with fail
  refine AW.out.mono ?_
  rintro e w1 ⟨rfl, b1⟩
  have B1 := box b1
  clear AW b1
  by_cases h20 : 20 < n
  · go_wp2_with fail
    go_ret
    exact ⟨rfl, B1.out⟩
  · have NA := box (newt_any 1 (by decide) (by decide) 1 rfl w1)
    go_wp2_with fail
    refine NA.out.mono ?_
    rintro e w2 ⟨ga, ha, rfl, xa, hga, hha, b2⟩
    have NB := box (newt_any 1 (by decide) (by decide) 1 rfl w2)
    have B2 := box (B1.out.trans (b2.mono B1.out.size))
    have XA := box (And.intro xa (Nat.le_trans B1.out.size hha))
    clear NA xa hga hha b2
    go_wp2_with fail
    refine NB.out.mono ?_
    rintro e w3 ⟨gb, hb, rfl, xb, hgb, hhb, b3⟩
    have E0 := box (show T2 w.heap.size w w3 ga ha ⟨0, 0⟩ gb hb ⟨0, 0⟩ from
      ⟨XA.out.1.keep b3, xb, B2.out.trans (b3.mono B2.out.size), Nat.le_trans B2.out.size b3.size, XA.out.2, Nat.le_trans B2.out.size hhb, by have := XA.out.1.lt; omega, by have := XA.out.1.lt; omega, by have := XA.out.1.glt; omega⟩)
    have HI := box hi
    have HZ := box hz
    have HN := box hn
    clear NB xb hgb hhb b3 B2 B1 XA hi hz hn
    go_wp2_with fail
    go_loopw [7, 41] (fun t7 t41 wr => ∃ i : Nat, i ≤ n ∧ t41 = .int .i64 i ∧ t7 = .int .i64 (mx (zs.take i) : Nat) ∧ Box (T2 w.heap.size w wr ga ha ⟨max (mx (zs.take i)) (mx (zs.drop (n - i))), 0⟩ gb hb ⟨mx (zs.drop (n - i)), 0⟩)) (fun _ t41 _ => n - (intOf t41).toNat)
    case atStart => exact ⟨0, by omega, rfl, rfl, by rw [Nat.sub_zero, ← HN.out, List.drop_length]; exact E0⟩
    case round =>
      clear E0
      obtain ⟨i, hi, rfl, rfl, hE⟩ := hrel
      by_cases hin : i < n
      · have hiz : i < zs.length := by rw [HN.out]; exact hin
        have hjz : n - (i + 1) < zs.length := by rw [HN.out]; omega
        obtain ⟨g, o, rfl, cz0⟩ := HI.out.at_ hiz
        obtain ⟨g', o', eq', cy0⟩ := HI.out.at_ hjz
        have cz := keepc hE.out.bel cz0
        have cy := keepc hE.out.bel cy0
        obtain ⟨rfl, rfl⟩ : g = g' ∧ o = o' := by injection eq' with e; injection e with e1 e2 _; exact ⟨e1, e2⟩
        have hidx : (n : Int) - 1 - (i : Int) = ((n - (i + 1) : Nat) : Int) := by omega
        have hJ := box (show n - (i + 1) < n ∧ n - (i + 1) + 1 = n - i from by omega)
        have MT := box (mx_take hiz)
        have MD := box (mx_drop hjz)
        have MB := box (And.intro (mx_le (zs.take i)) (mx_le (zs.drop (n - i))))
        obtain ⟨j, hj⟩ : ∃ j, n - (i + 1) = j := ⟨_, rfl⟩
        have HJE := box hj
        simp only [hj] at cy cy0 hidx hJ MD
        rw [hJ.out.2] at MD
        have hjn : j < n := hJ.out.1
        obtain ⟨z, hz⟩ : ∃ z, zs[i] = z := ⟨_, rfl⟩
        obtain ⟨y, hy⟩ : ∃ y, zs[j]'(by rw [← hj]; exact hjz) = y := ⟨_, rfl⟩
        have IZ := box (HZ.out zs[i] (List.getElem_mem _))
        have IY := box (HZ.out (zs[j]'(by rw [← hj]; exact hjz)) (List.getElem_mem _))
        rw [hz] at cz cz0 MT IZ
        rw [hy] at cy cy0 MD IY
        clear hz hy eq' hj hjz hiz
        obtain ⟨ma, hma⟩ : ∃ ma, mx (zs.take i) = ma := ⟨_, rfl⟩
        obtain ⟨mb, hmb⟩ : ∃ mb, mx (zs.drop (n - i)) = mb := ⟨_, rfl⟩
        rw [hma, hmb] at hE MB
        rw [hma] at MT ⊢
        rw [hmb] at MD
        clear hma hmb
        have hmaL : ma ≤ 1099511627776 := MB.out.1
        have CA := box (raise_any z 0 0 rfl ga ha [⟨max ma mb, 0⟩] _ hE.out.xa ⟨max ma mb, 0⟩ rfl (ok_tc _ (by have := MB.out; omega)))
        rw [rsC_vm] at CA
        go_wp2_with fail
        refine CA.out.mono ?_
        rintro e w4 ⟨rfl, x, ap⟩
        have E4 := box (hE.out.stepA x ap)
        have OK4 := box (ok_tc (max (max ma mb) (vm z)) (by have := MB.out; have := vm_le z; omega))
        have CB := box (raise_any y 0 0 rfl ga ha [⟨max (max ma mb) (vm z), 0⟩] _ E4.out.xa ⟨max (max ma mb) (vm z), 0⟩ rfl OK4.out)
        rw [rsC_vm] at CB
        have cy4 := keepc E4.out.bel cy0
        clear CA x ap hE cz cy
        go_wp2_with fail
        refine CB.out.mono ?_
        rintro e w5 ⟨rfl, x, ap⟩
        have E5 := box (E4.out.stepA x ap)
        have CC := box (raise_any y 0 0 rfl gb hb [⟨mb, 0⟩] _ E5.out.xb ⟨mb, 0⟩ rfl (ok_tc mb MB.out.2))
        rw [rsC_vm] at CC
        have cy5 := keepc E5.out.bel cy0
        clear CB x ap E4 cy4 OK4
        go_wp2_with fail
        refine CC.out.mono ?_
        rintro e w6 ⟨rfl, x, ap⟩
        have E6 := box (E5.out.stepB x ap)
        have cy6 := keepc E6.out.bel cy0
        have cz6 := keepc E6.out.bel cz0
        have E7 := box (show T2 w.heap.size w w6 ga ha ⟨max (max ma (vm z)) (max (vm y) mb), 0⟩ gb hb ⟨max (vm y) mb, 0⟩ from by
          rw [show max (max ma (vm z)) (max (vm y) mb) = max (max (max ma mb) (vm z)) (vm y) by omega, show max (vm y) mb = max mb (vm y) by omega]
          exact E6.out)
        clear CC x ap E5 cy5 E6 cz0 cy0
        go_upto_region 16 with fail
        by_cases z1 : z < 0
        · have ez : Tc.rsE z = 2 := if_pos (.inl z1)
          have vz : vm z = 0 := if_pos (.inl z1)
          by_cases y1 : y < 0
          · have ey : Tc.rsE y = 2 := if_pos (.inl y1)
            rw [ez, ey]
            have VZ := box vz
            clear vz ez ey
            go_wp2_with fail
            all_goals
              go_roundw
              case rel => exact ⟨i + 1, by omega, by go_num, by rw [MT.out]; exact congrArg (Value.int .i64) (by have := VZ.out; omega), by rw [HJE.out, MT.out, MD.out]; exact E7⟩
              case measure => simp [intOf]; omega
          · by_cases y2 : 1099511627776 < y
            · have ey : Tc.rsE y = 2 := if_pos (.inr y2)
              rw [ez, ey]
              have VZ := box vz
              clear vz ez ey
              go_wp2_with fail
              all_goals
                go_roundw
                case rel => exact ⟨i + 1, by omega, by go_num, by rw [MT.out]; exact congrArg (Value.int .i64) (by have := VZ.out; omega), by rw [HJE.out, MT.out, MD.out]; exact E7⟩
                case measure => simp [intOf]; omega
            · have ey : Tc.rsE y = 0 := if_neg (by omega)
              rw [ez, ey]
              have VZ := box vz
              clear vz ez ey
              go_wp2_with fail
              all_goals
                go_roundw
                case rel => exact ⟨i + 1, by omega, by go_num, by rw [MT.out]; exact congrArg (Value.int .i64) (by have := VZ.out; omega), by rw [HJE.out, MT.out, MD.out]; exact E7⟩
                case measure => simp [intOf]; omega
        · by_cases z2 : 1099511627776 < z
          · have ez : Tc.rsE z = 2 := if_pos (.inr z2)
            have vz : vm z = 0 := if_pos (.inr z2)
            by_cases y1 : y < 0
            · have ey : Tc.rsE y = 2 := if_pos (.inl y1)
              rw [ez, ey]
              have VZ := box vz
              clear vz ez ey
              go_wp2_with fail
              all_goals
                go_roundw
                case rel => exact ⟨i + 1, by omega, by go_num, by rw [MT.out]; exact congrArg (Value.int .i64) (by have := VZ.out; omega), by rw [HJE.out, MT.out, MD.out]; exact E7⟩
                case measure => simp [intOf]; omega
            · by_cases y2 : 1099511627776 < y
              · have ey : Tc.rsE y = 2 := if_pos (.inr y2)
                rw [ez, ey]
                have VZ := box vz
                clear vz ez ey
                go_wp2_with fail
                all_goals
                  go_roundw
                  case rel => exact ⟨i + 1, by omega, by go_num, by rw [MT.out]; exact congrArg (Value.int .i64) (by have := VZ.out; omega), by rw [HJE.out, MT.out, MD.out]; exact E7⟩
                  case measure => simp [intOf]; omega
              · have ey : Tc.rsE y = 0 := if_neg (by omega)
                rw [ez, ey]
                have VZ := box vz
                clear vz ez ey
                go_wp2_with fail
                all_goals
                  go_roundw
                  case rel => exact ⟨i + 1, by omega, by go_num, by rw [MT.out]; exact congrArg (Value.int .i64) (by have := VZ.out; omega), by rw [HJE.out, MT.out, MD.out]; exact E7⟩
                  case measure => simp [intOf]; omega
          · have ez : Tc.rsE z = 0 := if_neg (by omega)
            have vz : vm z = z.toNat := if_neg (by omega)
            by_cases y1 : y < 0
            · have ey : Tc.rsE y = 2 := if_pos (.inl y1)
              rw [ez, ey]
              have VZ := box vz
              clear vz ez ey
              go_wp2_with fail
              all_goals
                go_roundw
                case rel => exact ⟨i + 1, by omega, by go_num, by rw [MT.out]; exact congrArg (Value.int .i64) (by have := VZ.out; omega), by rw [HJE.out, MT.out, MD.out]; exact E7⟩
                case measure => simp [intOf]; omega
            · by_cases y2 : 1099511627776 < y
              · have ey : Tc.rsE y = 2 := if_pos (.inr y2)
                rw [ez, ey]
                have VZ := box vz
                clear vz ez ey
                go_wp2_with fail
                all_goals
                  go_roundw
                  case rel => exact ⟨i + 1, by omega, by go_num, by rw [MT.out]; exact congrArg (Value.int .i64) (by have := VZ.out; omega), by rw [HJE.out, MT.out, MD.out]; exact E7⟩
                  case measure => simp [intOf]; omega
              · have ey : Tc.rsE y = 0 := if_neg (by omega)
                rw [ez, ey]
                have VZ := box vz
                clear vz ez ey
                go_wp2_with fail
                all_goals
                  go_roundw
                  case rel => exact ⟨i + 1, by omega, by go_num, by rw [MT.out]; exact congrArg (Value.int .i64) (by have := VZ.out; omega), by rw [HJE.out, MT.out, MD.out]; exact E7⟩
                  case measure => simp [intOf]; omega
      · obtain rfl : i = n := by omega
        have EQ := box (show zs.take i = zs ∧ zs.drop (i - i) = zs from ⟨by rw [← HN.out, List.take_length], by rw [Nat.sub_self, List.drop_zero]⟩)
        rw [EQ.out.1, EQ.out.2] at hE
        rw [EQ.out.1]
        have ML := box (mx_le zs)
        generalize mx zs = m at hE ML ⊢
        have mm : max m m = m := by omega
        rw [mm] at hE
        have CL := box (left_b 0 0 rfl ga ha [⟨m, 0⟩] _ hE.out.xa ⟨m, 0⟩ rfl (ok_tc m ML.out))
        rw [show (((⟨m, 0⟩ : Tc).l : Int) - ((⟨m, 0⟩ : Tc).s : Int)) = (m : Int) by show (m : Int) - ((0 : Nat) : Int) = m; omega] at CL
        clear mm
        go_wp2_with fail
        refine CL.out.mono ?_
        rintro e w4 ⟨rfl, b4⟩
        have E4 := box (hE.out.keep b4)
        have CR := box (left_b 0 0 rfl gb hb [⟨m, 0⟩] _ E4.out.xb ⟨m, 0⟩ rfl (ok_tc m ML.out))
        rw [show (((⟨m, 0⟩ : Tc).l : Int) - ((⟨m, 0⟩ : Tc).s : Int)) = (m : Int) by show (m : Int) - ((0 : Nat) : Int) = m; omega] at CR
        clear CL b4 hE
        go_wp2_with fail
        refine CR.out.mono ?_
        rintro e w5 ⟨rfl, b5⟩
        have E5 := box (E4.out.keep b5)
        have CS := box (sent_b 0 0 rfl ga ha [⟨m, 0⟩] _ E5.out.xa ⟨m, 0⟩ rfl (ok_tc m ML.out))
        rw [show ((⟨m, 0⟩ : Tc).s : Int) = 0 from rfl] at CS
        clear CR b5 E4
        go_wp2_with fail
        refine CS.out.mono ?_
        rintro e w6 ⟨rfl, b6⟩
        have FB := box (E5.out.keep b6).bel
        clear CS b6 E5
        go_wp2_with fail
        go_ret
        exact ⟨rfl, FB.out⟩
end Go.Proofs.Ytoolphpideicoaa
