/- FrameFlips: its walk. -/
import Derived.Test.YthfoakomapmkeaaDoorMrE
import Derived.Test.YthfoakomapmkeaaDoorMrD
import Derived.Test.YthfoakomapmkeaaDoorMrC
namespace Go.Proofs.YthfoakomapmkeaaDoor
open Go.RowKit

theorem pks_lit (w : World) (k : Nat) (c n v : Int) (a : Option Addr) (l cap : Nat) (pay : List Nat) (hl : pay.length = l) (g : Nat) (hg : g = w.heap.size) (hin : In (w.alloc (.cells (pkC k c n v a l cap) 24)) a pay) :
    PksIn (w.alloc (.cells (pkC k c n v a l cap) 24)) (some ⟨g, 0, none⟩) [⟨k, c, n, v, pay⟩] := by
  obtain ⟨q0, q1, q2, q3, q4, _⟩ := pk5_new w k c n v a l cap g hg
  refine .inr ⟨g, 0, rfl, fun j hj => ?_⟩
  obtain rfl : j = 0 := by simpa using hj
  exact ⟨a, l, cap, q0, q1, q2, q3, q4, hl, hin⟩

set_option maxRecDepth 100000 in
set_option maxHeartbeats 8000000 in
theorem flips_walk (kd : Nat) (c n v : Int) (a : Option Addr) (l cap : Nat) (pay : List Nat) (hl : pay.length = l) (hk : kd < 256) (hp : ∀ x ∈ pay, x < 256) (hnil : a = none → cap = 0) (kd2 : Nat) (c2 n2 v2 : Int) (a2 : Option Addr) (l2 cap2 : Nat) (pay2 : List Nat) (hl2 : pay2.length = l2) (hk2 : kd2 < 256) (hp2 : ∀ x ∈ pay2, x < 256) (hnil2 : a2 = none → cap2 = 0) (bit : Nat) (hbit : bit < 65536) (w : World) (hin : In w a pay) (hin2 : In w a2 pay2) (hT : Crc.HasTab w) (hT2 : HasTab w) :
    Calls Tryd.prog 9 #[pkV kd c n v a l cap, pkV kd2 c2 n2 v2 a2 l2 cap2, .int .u16 bit] w fun e w' => e = .returned (.bool true) ∧ Below w.heap.size w w' := by
  have HP := box hp
  have HI := box hin
  have HNIL := box hnil
  have HT := box hT
  have HT2 := box hT2
  have HP2 := box hp2
  have HI2 := box hin2
  have HNIL2 := box hnil2
  clear hp hin hnil hT hT2 hp2 hin2 hnil2
  go_enter Tryd.func9, Tryd.ntmps9
  go_wp2_with fail
  have ks0 : (w.alloc (.cells (pkC kd c n v a l cap) 24)).heap.size = w.heap.size + 1 := by show (w.heap.push _).size = _; rw [Array.size_push]
  have k0 : Below w.heap.size w (w.alloc (.cells (pkC kd c n v a l cap) 24)) := (Below.refl _ _).alloc (Nat.le_refl _) _
  have P0 := pk5_new w kd c n v a l cap w.heap.size rfl
  change Calls _ _ _ ((w.alloc (.cells (pkC kd c n v a l cap) 24)).alloc (.cells (pkC kd2 c2 n2 v2 a2 l2 cap2) 24)) _
  generalize w.alloc (.cells (pkC kd c n v a l cap) 24) = wP at ks0 k0 P0 ⊢
  have kQ := (Below.refl wP.heap.size wP).alloc (Nat.le_refl _) (.cells (pkC kd2 c2 n2 v2 a2 l2 cap2) 24)
  have Q := box (pk5_new wP kd2 c2 n2 v2 a2 l2 cap2 (w.heap.size + 1) ks0.symm)
  have P := box (P0.keep kQ)
  generalize wP.alloc (.cells (pkC kd2 c2 n2 v2 a2 l2 cap2) 24) = w0 at kQ Q P ⊢
  have k := k0.trans (kQ.mono k0.size)
  clear k0 kQ ks0 P0
  refine (awake_any _ (HT.out.below k) (HT2.out.below k)).mono ?_
  rintro e w1 ⟨rfl, hb⟩
  replace k := k.trans (hb.mono k.size)
  replace P := box (P.out.keep hb)
  replace Q := box (Q.out.keep hb)
  clear hb
  obtain ⟨r1, hr1⟩ : ∃ r, okP kd c n v l = r := ⟨_, rfl⟩
  obtain ⟨r2, hr2⟩ : ∃ r, okP kd2 c2 n2 v2 l2 = r := ⟨_, rfl⟩
  cases r1
  · obtain ⟨Pq0, Pq1, Pq2, Pq3, Pq4, Pz⟩ := P.out
    go_wp2_with fail
    clear Pq0 Pq1 Pq2 Pq3 Pq4 Pz
    refine (fsymbols_bad kd c n v a l cap hr1 _).mono ?_
    rintro e w2 ⟨rfl, hb⟩
    replace k := k.trans (hb.mono k.size)
    replace P := box (P.out.keep hb)
    replace Q := box (Q.out.keep hb)
    clear hb
    cases r2
    · obtain ⟨Qq0, Qq1, Qq2, Qq3, Qq4, Qz⟩ := Q.out
      go_wp2_with fail
      clear Qq0 Qq1 Qq2 Qq3 Qq4 Qz
      refine (fsymbols_bad kd2 c2 n2 v2 a2 l2 cap2 hr2 _).mono ?_
      rintro e w3 ⟨rfl, hb⟩
      replace k := k.trans (hb.mono k.size)
      replace P := box (P.out.keep hb)
      replace Q := box (Q.out.keep hb)
      clear hb
      go_wp2_with fail
      go_ret
      exact ⟨by simp, k⟩
    · obtain ⟨_, c0b, c1b, n0b, n1b, v0b, v1b, l1b⟩ := of_decide_eq_true hr2
      obtain ⟨Cb, rfl⟩ := Int.eq_ofNat_of_zero_le c0b
      obtain ⟨Nb, rfl⟩ := Int.eq_ofNat_of_zero_le n0b
      obtain ⟨Vb, rfl⟩ := Int.eq_ofNat_of_zero_le v0b
      clear c0b n0b n1b v0b v1b
      obtain ⟨Qq0, Qq1, Qq2, Qq3, Qq4, Qz⟩ := Q.out
      go_wp2_with fail
      clear Qq0 Qq1 Qq2 Qq3 Qq4 Qz
      refine (fsymbols_pk kd2 Cb Nb Vb a2 l2 cap2 pay2 hl2 hk2 hr2 HP2.out HNIL2.out _ (HI2.out.below k) (HT.out.below k) (HT2.out.below k)).mono ?_
      rintro e w3 ⟨u, rfl, ho, hb⟩
      replace k := k.trans (hb.mono k.size)
      replace P := box (P.out.keep hb)
      replace Q := box (Q.out.keep hb)
      clear hb
      obtain ⟨sa, sc, rfl, HS, _, _⟩ := own_any ho
      clear ho HS
      go_wp2_with fail
      go_ret
      exact ⟨by simp, k⟩
  · obtain ⟨_, c0a, c1a, n0a, n1a, v0a, v1a, l1a⟩ := of_decide_eq_true hr1
    obtain ⟨Ca, rfl⟩ := Int.eq_ofNat_of_zero_le c0a
    obtain ⟨Na, rfl⟩ := Int.eq_ofNat_of_zero_le n0a
    obtain ⟨Va, rfl⟩ := Int.eq_ofNat_of_zero_le v0a
    clear c0a n0a n1a v0a v1a
    obtain ⟨Pq0, Pq1, Pq2, Pq3, Pq4, Pz⟩ := P.out
    go_wp2_with fail
    clear Pq0 Pq1 Pq2 Pq3 Pq4 Pz
    refine (fsymbols_pk kd Ca Na Va a l cap pay hl hk hr1 HP.out HNIL.out _ (HI.out.below k) (HT.out.below k) (HT2.out.below k)).mono ?_
    rintro e w2 ⟨u, rfl, ho, hb⟩
    replace k := k.trans (hb.mono k.size)
    replace P := box (P.out.keep hb)
    replace Q := box (Q.out.keep hb)
    clear hb
    obtain ⟨gs, sc, rfl, HS, hsc, _⟩ := own_row ho (by omega)
    clear ho
    cases r2
    · obtain ⟨Qq0, Qq1, Qq2, Qq3, Qq4, Qz⟩ := Q.out
      go_wp2_with fail
      clear Qq0 Qq1 Qq2 Qq3 Qq4 Qz
      refine (fsymbols_bad kd2 c2 n2 v2 a2 l2 cap2 hr2 _).mono ?_
      rintro e w3 ⟨rfl, hb⟩
      replace k := k.trans (hb.mono k.size)
      replace P := box (P.out.keep hb)
      replace Q := box (Q.out.keep hb)
      replace HS := box (HS.out.below hb)
      clear hb
      go_wp2_with fail
      go_ret
      exact ⟨by simp, k⟩
    · obtain ⟨_, c0b, c1b, n0b, n1b, v0b, v1b, l1b⟩ := of_decide_eq_true hr2
      obtain ⟨Cb, rfl⟩ := Int.eq_ofNat_of_zero_le c0b
      obtain ⟨Nb, rfl⟩ := Int.eq_ofNat_of_zero_le n0b
      obtain ⟨Vb, rfl⟩ := Int.eq_ofNat_of_zero_le v0b
      clear c0b n0b n1b v0b v1b
      obtain ⟨Qq0, Qq1, Qq2, Qq3, Qq4, Qz⟩ := Q.out
      go_wp2_with fail
      clear Qq0 Qq1 Qq2 Qq3 Qq4 Qz
      refine (fsymbols_pk kd2 Cb Nb Vb a2 l2 cap2 pay2 hl2 hk2 hr2 HP2.out HNIL2.out _ (HI2.out.below k) (HT.out.below k) (HT2.out.below k)).mono ?_
      rintro e w3 ⟨u, rfl, ho, hb⟩
      replace k := k.trans (hb.mono k.size)
      replace P := box (P.out.keep hb)
      replace Q := box (Q.out.keep hb)
      replace HS := box (HS.out.below hb)
      clear hb
      obtain ⟨gt, tc, rfl, HU, htc, _⟩ := own_row ho (by omega)
      clear ho
      obtain ⟨q, hq⟩ : ∃ q, bit % (6 * (36 + 2 * l)) = q := ⟨_, rfl⟩
      have hq2 : q < 6 * (36 + 2 * l) := by rw [← hq]; exact Nat.mod_lt _ (by omega)
      have eq1 : (bit : Int) % (6 * (36 + 2 * (l : Int))) = (q : Int) := by rw [← hq]; push_cast; rfl
      have eq2 : Int.tmod (bit : Int) (6 * (36 + 2 * (l : Int))) = (q : Int) := by rw [Int.tmod_eq_emod_of_nonneg (by omega)]; exact eq1
      have ne0 : ¬ ((6 : Int) * (36 + 2 * (l : Int)) = 0) := by omega
      have hlen1 : (symsP kd Ca Na Va pay).length = 36 + 2 * l := by rw [symsP_length, hl]
      have hlen2 : (symsP kd2 Cb Nb Vb pay2).length = 36 + 2 * l2 := by rw [symsP_length, hl2]
      have HL1 := box (symsP_lt (n := Na) (v := Va) (pay := pay) hk (show Ca < 256 by omega) HP.out (by omega))
      have HL2 := box (symsP_lt (n := Nb) (v := Vb) (pay := pay2) hk2 (show Cb < 256 by omega) HP2.out (by omega))
      have hfl : (flipS (symsP kd Ca Na Va pay) q).length = 36 + 2 * l := by rw [flipS_length, hlen1]
      have HF := box (flipS_lt HL1.out (show q / 6 < (symsP kd Ca Na Va pay).length by omega))
      obtain ⟨bad, hbad, hrun⟩ := run_flipped kd Ca Na Va pay hk HP.out (by rw [hl]; exact hr1) q (by rw [hl]; exact hq2)
      have hrun2 : scanTo (flipS (symsP kd Ca Na Va pay) q ++ symsP kd2 Cb Nb Vb pay2) (36 + 2 * l + (36 + 2 * l2)) = (⟨false, [], bad⟩, [⟨kd2, Cb, Nb, Vb, pay2⟩]) := by
        rw [scan_run (by rw [List.length_append, hfl, hlen2]), runS_append, hrun]
        simp only [run_packet kd2 Cb Nb Vb pay2 hk2 HP2.out (by rw [hl2]; exact hr2)]
        rfl
      have HR := box hrun2
      have HRF := box (fun x hx => (List.mem_append.1 hx).elim (HF.out x) (HL2.out x) : ∀ x ∈ flipS (symsP kd Ca Na Va pay) q ++ symsP kd2 Cb Nb Vb pay2, x < 256)
      have FLP := fun (w' : World) (hi : At w' ⟨gs, 0, none⟩ (symsP kd Ca Na Va pay)) => flip_any ⟨gs, 0, none⟩ (36 + 2 * l) sc q (symsP kd Ca Na Va pay) hlen1 HL1.out (by omega) (by omega) w' hi
      generalize flipS (symsP kd Ca Na Va pay) q = fs at hfl HF HR HRF FLP
      clear hq hrun hrun2
      have FB := box FLP
      clear FLP
      have HAT := box (fun i hi => by rw [add_off]; exact HS.out.cell i hi : At _ ⟨gs, 0, none⟩ (symsP kd Ca Na Va pay))
      go_wp2_with fail
      refine (FB.out _ HAT.out).mono ?_
      rintro e w4 ⟨u, rfl, ho, hb⟩
      replace k := k.trans (hb.mono k.size)
      replace P := box (P.out.keep hb)
      replace Q := box (Q.out.keep hb)
      replace HS := box (HS.out.below hb)
      replace HU := box (HU.out.below hb)
      clear hb
      obtain ⟨fa, fc, rfl, HV, hvn, hfc⟩ := own_any ho
      clear ho HAT FB eq1 eq2 ne0
      go_wp2_with fail
      change Calls _ _ _ (w4.alloc (.cells #[.slice fa (36 + 2 * l) fc, .slice (some ⟨gt, 0, none⟩) (36 + 2 * l2) tc] 22)) _
      have c0 := World.cell?_alloc_mark w4 #[.slice fa (36 + 2 * l) fc, .slice (some ⟨gt, 0, none⟩) (36 + 2 * l2) tc] 22 (0, 0) 0
      have c1 := World.cell?_alloc_mark w4 #[.slice fa (36 + 2 * l) fc, .slice (some ⟨gt, 0, none⟩) (36 + 2 * l2) tc] 22 (0, 0) 1
      have kB := (Below.refl w4.heap.size w4).alloc (Nat.le_refl _) (.cells #[.slice fa (36 + 2 * l) fc, .slice (some ⟨gt, 0, none⟩) (36 + 2 * l2) tc] 22)
      generalize w4.alloc (.cells #[.slice fa (36 + 2 * l) fc, .slice (some ⟨gt, 0, none⟩) (36 + 2 * l2) tc] 22) = wB at c0 c1 kB ⊢
      have hb := kB
      replace k := k.trans (hb.mono k.size)
      replace P := box (P.out.keep hb)
      replace Q := box (Q.out.keep hb)
      replace HS := box (HS.out.below hb)
      replace HU := box (HU.out.below hb)
      replace HV := box (HV.out.below hb)
      clear hb
      clear kB
      refine (concat_two w4.heap.size fa (some ⟨gt, 0, none⟩) (36 + 2 * l) (36 + 2 * l2) fc tc fs (symsP kd2 Cb Nb Vb pay2) hfl hlen2 (by omega) (by omega) hvn (fun h => by cases h) wB c0 c1 HV.out HU.out.inn).mono ?_
      rintro e w5 ⟨u, rfl, ho, hb⟩
      replace k := k.trans (hb.mono k.size)
      replace P := box (P.out.keep hb)
      replace Q := box (Q.out.keep hb)
      replace HS := box (HS.out.below hb)
      replace HU := box (HU.out.below hb)
      replace HV := box (HV.out.below hb)
      clear hb
      obtain ⟨xa, xc, rfl, HX, _, _⟩ := own_any ho
      clear ho c0 c1
      have hxl : (fs ++ symsP kd2 Cb Nb Vb pay2).length = 36 + 2 * l + (36 + 2 * l2) := by rw [List.length_append, hfl, hlen2]
      go_wp2_with fail
      have SC := scan_any xa (36 + 2 * l + (36 + 2 * l2)) xc _ hxl HRF.out (by omega) _ HX.out (HT.out.below k) (HT2.out.below k)
      rw [HR.out] at SC
      refine (SC).mono ?_
      rintro e w6 ⟨u, rfl, ho, hb⟩
      replace k := k.trans (hb.mono k.size)
      replace P := box (P.out.keep hb)
      replace Q := box (Q.out.keep hb)
      replace HS := box (HS.out.below hb)
      replace HU := box (HU.out.below hb)
      replace HV := box (HV.out.below hb)
      replace HX := box (HX.out.below hb)
      clear hb
      obtain ⟨ga, gc, rfl, hpk, _⟩ := ho.form
      have HG := box hpk
      clear ho hpk
      have db : decide ((bad : Int) ≤ 1) = true := decide_eq_true (by omega)
      obtain ⟨Qq0, Qq1, Qq2, Qq3, Qq4, Qz⟩ := Q.out
      go_wp2_with fail
      clear Qq0 Qq1 Qq2 Qq3 Qq4 Qz
      have kC := (Below.refl w6.heap.size w6).alloc (Nat.le_refl _) (.cells (pkC kd2 (Cb : Nat) (Nb : Nat) (Vb : Nat) a2 l2 cap2) 24)
      have HLIT := pks_lit w6 kd2 (Cb : Nat) (Nb : Nat) (Vb : Nat) a2 l2 cap2 pay2 hl2 w6.heap.size rfl (HI2.out.below (k.trans (kC.mono k.size)))
      have HG2 := HG.out.below kC
      change Calls _ _ _ (w6.alloc (.cells (pkC kd2 (Cb : Nat) (Nb : Nat) (Vb : Nat) a2 l2 cap2) 24)) _
      generalize w6.alloc (.cells (pkC kd2 (Cb : Nat) (Nb : Nat) (Vb : Nat) a2 l2 cap2) 24) = wC at kC HLIT HG2 ⊢
      have hb := kC
      replace k := k.trans (hb.mono k.size)
      replace P := box (P.out.keep hb)
      replace Q := box (Q.out.keep hb)
      replace HS := box (HS.out.below hb)
      replace HU := box (HU.out.below hb)
      replace HV := box (HV.out.below hb)
      replace HX := box (HX.out.below hb)
      clear hb
      clear kC
      refine (lsame_any ga (some ⟨_, 0, none⟩) 1 gc 1 [⟨kd2, Cb, Nb, Vb, pay2⟩] rfl (by omega) wC HG2 HLIT).mono ?_
      rintro e w7 ⟨rfl, hb⟩
      replace k := k.trans (hb.mono k.size)
      replace P := box (P.out.keep hb)
      replace Q := box (Q.out.keep hb)
      replace HS := box (HS.out.below hb)
      replace HU := box (HU.out.below hb)
      replace HV := box (HV.out.below hb)
      replace HX := box (HX.out.below hb)
      clear hb
      go_wp2_with fail
      go_ret
      exact ⟨by simp, k⟩
end Go.Proofs.YthfoakomapmkeaaDoor
