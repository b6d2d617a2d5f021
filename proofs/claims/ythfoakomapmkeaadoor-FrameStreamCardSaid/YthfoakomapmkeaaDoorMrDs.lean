/- FrameStream: its walk. -/
import Derived.Test.YthfoakomapmkeaaDoorMrDm
import Derived.Maps.AppendAt
namespace Go.Proofs.YthfoakomapmkeaaDoor
open Go.RowKit

theorem OwnPks.form3 {B : Nat} {E : Nat → Prop} {w : World} {v : Value} {ps : List Pkt} (x : OwnPks B E w v ps) (n : Nat) (hn : ps.length = n) : ∃ (a : Option Addr) (c : Nat), v = .slice a n c ∧ PksIn w a ps ∧ (a = none → c = 0) := by
  subst hn; exact x.form
theorem Pk5.grown {w w' : World} {g : Nat} {y0 y1 y2 y3 y4 : Value} (h : Pk5 w g y0 y1 y2 y3 y4) {o : Option Nat} (hb : w.grownBy w' o) (hne : o ≠ some g) : Pk5 w' g y0 y1 y2 y3 y4 := by
  have hlt : g < w.heap.size := World.block_lt_of_cell? w ⟨g, 0, none⟩ h.q0
  have e := hb.block g hlt (fun e => hne e.symm)
  exact ⟨(World.cell?_of_block (a := ⟨g, 0, none⟩) e).trans h.q0, (World.cell?_of_block (a := ⟨g, 1, none⟩) e).trans h.q1, (World.cell?_of_block (a := ⟨g, 2, none⟩) e).trans h.q2, (World.cell?_of_block (a := ⟨g, 3, none⟩) e).trans h.q3, (World.cell?_of_block (a := ⟨g, 4, none⟩) e).trans h.q4, fun j => (World.frozen?_of_block (a := ⟨g, j, none⟩) e).trans (h.zq j)⟩

set_option maxRecDepth 100000 in
set_option maxHeartbeats 2000000 in
theorem stream_walk (a : Option Addr) (n c : Nat) (ps : List Pkt) (hn : ps.length = n) (hf : ∀ p ∈ ps, p.fine) (a2 : Option Addr) (n2 c2 : Nat) (xs : List Nat) (hn2 : xs.length = n2) (hx : ∀ x ∈ xs, x < 256) (w : World) (hin : ArgPks w a ps) (hin2 : In w a2 xs) (hT : Crc.HasTab w) (hT2 : HasTab w) :
    Calls Tryd.prog 7 #[.slice a n c, .slice a2 n2 c2] w fun e w' => e = .returned (.bool true) ∧ Below w.heap.size w w' := by
  have HT := box hT
  have HT2 := box hT2
  have HA := box hin
  have HI2 := box hin2
  have HF := box hf
  have HX := box hx
  clear hT hT2 hin hin2 hf hx
  obtain ⟨i0, hi0, hz0, hz1, hz2⟩ := info_parts Tryd.infoU8
  go_enter Tryd.func7, Tryd.ntmps7
  go_wp2_with fail
  refine (awake_any _ HT.out HT2.out).mono ?_
  rintro e w1 ⟨rfl, k⟩
  by_cases h8 : 8 < n
  · have d1 : decide ((8 : Int) < (n : Int)) = true := decide_eq_true (by omega)
    go_wp2_with fail
    go_ret
    exact ⟨rfl, k⟩
  have d1 : decide ((8 : Int) < (n : Int)) = false := decide_eq_false (by omega)
  by_cases h20 : 20 < n2
  · have d2 : decide ((20 : Int) < (n2 : Int)) = true := decide_eq_true (by omega)
    go_wp2_with fail
    go_ret
    exact ⟨rfl, k⟩
  have d2 : decide ((20 : Int) < (n2 : Int)) = false := decide_eq_false (by omega)
  have S2 : Box (Calls Tryd.prog 29 #[.int .i64 2] w1 fun e w' => e = .returned (.tuple #[nU8 52, .int .i64 0]) ∧ w1 = w') := box (control_ok 2 (by omega) w1 (HT2.out.below k))
  go_wp2_with fail
  refine S2.out.mono ?_
  rintro e w2 ⟨rfl, rfl⟩
  clear S2 d1 d2
  go_wp2_with fail
  go_loopw [7, 32] (fun t7 t32 wr => ∃ i : Nat, i ≤ n ∧ t32 = .int .i64 i ∧ (∀ j, j < i → okK (ps.getD j default) = true) ∧ Box (Own w.heap.size wr t7 (strTo ps xs i).length (strTo ps xs i)) ∧ Below w.heap.size w wr) (fun _ t32 _ => n - (intOf t32).toNat)
  case atStart => exact ⟨0, by omega, rfl, fun j hj => absurd hj (Nat.not_lt_zero _), box (World.ownsRow_nil _ _ _ _), k⟩
  case round =>
    obtain ⟨i, hi, rfl, hok, hown, kr⟩ := hrel
    have HOK := box hok
    clear k hok
    by_cases hlt : i < n
    · have hz : (i : Int) < (n : Int) := by omega
      rcases HA.out with h | ⟨g, o, rfl, hat⟩
      · subst h; simp at hn; omega
      have hpf := HF.out _ (List.getElem_mem (show i < ps.length by omega))
      obtain ⟨pa, pl, pc, x0, x1, x2, x3, x4, x5, x6, x7⟩ := hat i (by omega)
      have hpe : ps.getD i default = ps[i]'(by omega) := by simp [List.getD_eq_getElem?_getD, List.getElem?_eq_getElem (show i < ps.length by omega)]
      have HSTR := box (show strTo ps xs (i + 1) = strTo ps xs i ++ List.replicate (idleN xs i) 52 ++ symsK (ps[i]'(by omega)) from by rw [strTo, hpe])
      have HOKP := box (show okK (ps.getD i default) = okK (ps[i]'(by omega)) from by rw [hpe])
      have hbd := (str_run (idle := xs) HF.out i (by omega) HOK.out).2.1
      clear hpe hat
      generalize ps[i]'(by omega) = p at hpf x0 x1 x2 x3 x4 x5 x6 HSTR HOKP
      obtain ⟨pk, pcl, pn, pv, pp⟩ := p
      obtain ⟨hpk, hpp⟩ := hpf
      have HPP := box hpp
      have HPN := box x7
      have HPI := box x6
      have HPL := box (show pp.length = pl from x5)
      have hpk : pk < 256 := hpk
      generalize strTo ps xs i = S at hown HSTR hbd
      obtain ⟨L, hL⟩ : ∃ L, S.length = L := ⟨_, rfl⟩
      rw [hL] at hown hbd
      replace x0 := keepc kr x0
      replace x1 := keepc kr x1
      replace x2 := keepc kr x2
      replace x3 := keepc kr x3
      replace x4 := keepc kr x4
      clear x5 x6 x7 hpp
      have hob := fun q hq => (row_blk hown.out q hq).2
      have kA := (Below.refl wr.heap.size wr).alloc (Nat.le_refl _) (.cells (pkC pk pcl pn pv pa pl pc) 24)
      have P9 := box (pk5_new wr pk pcl pn pv pa pl pc wr.heap.size rfl)
      have HO := box (own_later hown.out kA)
      have kz := kr.trans (kA.mono kr.size)
      obtain ⟨qb, hqb⟩ : ∃ q, wr.heap.size = q := ⟨_, rfl⟩
      have hne : u7.ownBlock ≠ some qb := fun e => by have := hob _ e; omega
      rw [hqb] at P9
      clear kA hown hob
      by_cases hid : i < n2
      · have hz2' : (i : Int) < (n2 : Int) := by omega
        obtain ⟨b2, rfl, cx⟩ := in_some (HI2.out.below kz) (show i < xs.length by omega)
        have lx := getD_lt HX.out (show i < xs.length by omega)
        have hidl : idleN xs i = xs.getD i 0 % 16 := by unfold idleN; rw [if_pos (by omega)]
        obtain ⟨m, hm⟩ : ∃ m, xs.getD i 0 % 16 = m := ⟨_, rfl⟩
        have em : ((xs.getD i 0 : Nat) : Int) % 16 = (m : Int) := by omega
        have em2 : Int.tmod ((xs.getD i 0 : Nat) : Int) 16 = (m : Int) := by rw [Int.tmod_eq_emod_of_nonneg (by omega)]; exact em
        have hm16 : m < 16 := by omega
        rw [hm] at hidl
        rw [hidl] at HSTR
        generalize xs.getD i 0 = y at cx lx em em2 hm
        clear hidl
        go_wp2_with fail
        clear cx em em2 x0 x1 x2 x3 x4
        generalize wr.alloc (.cells (pkC pk pcl pn pv pa pl pc) 24) = wA at P9 HO kz ⊢
        go_loopw [7, 46] (fun t7 t46 wq => ∃ j : Nat, j ≤ m ∧ t46 = .int .u8 j ∧ Box (Own w.heap.size wq t7 (L + j) (S ++ List.replicate j 52)) ∧ t7.ownBlock ≠ some qb ∧ Box (Pk5 wq qb (nU8 pk) (.int .i64 pcl) (.int .i64 pn) (.int .i64 pv) (.slice pa pl pc)) ∧ Below w.heap.size w wq) (fun _ t46 _ => m - (intOf t46).toNat)
        case atStart => exact ⟨0, by omega, rfl, box (by simpa using HO.out), hne, P9, kz⟩
        case round =>
          obtain ⟨j, hj, rfl, hoj, hnj, P9j, kj⟩ := hrel
          clear HO hne P9 kz
          by_cases hjm : j < m
          · have hzj : (j : Int) < (m : Int) := by omega
            have kL := (Below.refl wr.heap.size wr).alloc (Nat.le_refl _) (.cells #[nU8 52] 5)
            have HOL := box (own_later hoj.out kL)
            have P9L := box (P9j.out.keep kL)
            have kjL := kj.trans (kL.mono kj.size)
            have HLIT := box (Crc.lit_at wr [nU8 52] 5 wr.heap.size rfl)
            have hq9 : qb < wr.heap.size := World.block_lt_of_cell? wr ⟨qb, 0, none⟩ P9j.out.q0
            have hsL : (wr.alloc (.cells #[nU8 52] 5)).heap.size = wr.heap.size + 1 := by show (wr.heap.push _).size = _; rw [Array.size_push]
            have hnj2 := hnj
            have HGE := box (show ∀ q, u7.ownBlock = some q → w.heap.size ≤ q from fun q hq => (row_blk hoj.out q hq).1)
            clear P9j hoj kL
            go_wp2_with (at_builtin; refine wpList_append_own_at (o := ⟨some 51, _, _, _, _, _⟩) _ rfl (.tmp 48) (.tmp 50) 22 rfl w.heap.size 5 i0 (.int .u8 0) 1 1 Tryd.underlying22 hi0 hz0 hz1 hz2 rfl (by decide) u7 (L + j) ((S ++ List.replicate j 52).map nU8) rfl HOL.out ⟨wr.heap.size, 0, none⟩ 1 1 [nU8 52] rfl rfl HLIT.out (by intro u hu; simp at hu; subst hu; rfl) (by unfold maxLen; omega) (by omega) kjL.size ?_; intro v4 w4 o4 g4 _ e4)
            go_roundw
            case rel => exact ⟨j + 1, by omega, by go_num, box (by
              rw [List.replicate_succ', ← List.append_assoc]
              show w4.ownsRow _ _ _ _ (L + j + 1) ((S ++ List.replicate j 52 ++ [52]).map nU8)
              rw [List.map_append (l₂ := [52])]
              exact o4), (by
              rcases e4 with e4 | e4
              · rw [e4]; exact hnj2
              · rw [e4]; intro e; cases e; omega), box (P9L.out.grown g4 hnj2), kjL.grown g4 kjL.size HGE.out⟩
            case measure => simp [intOf]; omega
          · obtain rfl : j = m := by omega
            have HSTR2 := HSTR
            have P9 := P9j
            clear P9j HSTR
            obtain ⟨r, hr⟩ : ∃ r, okP pk pcl pn pv pl = r := ⟨_, rfl⟩
            have HOKR := box (show okK (ps.getD i default) = r from HOKP.out.trans (by unfold okK; rw [← hr, ← HPL.out]))
            clear HOKP
            obtain ⟨q0, q1, q2, q3, q4, qz⟩ := P9.out
            cases r
            · go_wp2_with fail
              clear q0 q1 q2 q3 q4 qz
              refine (fsymbols_bad pk pcl pn pv pa pl pc hr _).mono ?_
              rintro e w5 ⟨rfl, hb5⟩
              have k5 := kj.trans (hb5.mono kj.size)
              obtain ⟨q0, q1, q2, q3, q4, qz⟩ := P9.out.keep hb5
              go_wp2_with fail
              clear q0 q1 q2 q3 q4 qz
              refine (fvalid_any pk pcl pn pv pa pl pc false hr _).mono ?_
              rintro e w6 ⟨rfl, hb6⟩
              go_wp2_with fail
              go_ret
              exact ⟨by simp, k5.trans (hb6.mono k5.size)⟩
            · obtain ⟨_, c0, c1, n0, n1, v0, v1, l1⟩ := of_decide_eq_true hr
              obtain ⟨C, rfl⟩ := Int.eq_ofNat_of_zero_le c0
              obtain ⟨N, rfl⟩ := Int.eq_ofNat_of_zero_le n0
              obtain ⟨V, rfl⟩ := Int.eq_ofNat_of_zero_le v0
              clear c0 c1 n0 n1 v0 v1
              go_wp2_with fail
              clear q0 q1 q2 q3 q4 qz
              refine (fsymbols_pk pk C N V pa pl pc pp HPL.out hpk hr HPP.out HPN.out _ (HPI.out.below kj) (HT.out.below kj) (HT2.out.below kj)).mono ?_
              rintro e w5 ⟨u, rfl, ho, hb5⟩
              obtain ⟨sa, sc, rfl, HS, hsn, _⟩ := own_any ho
              have HSN := box hsn
              have HO5 := box (own_later hoj.out hb5)
              have k5 := kj.trans (hb5.mono kj.size)
              have hsl : (symsP pk C N V pp).length = 36 + 2 * pl := by rw [symsP_length, HPL.out]
              have HST := box (show strTo ps xs (i + 1) = S ++ List.replicate j 52 ++ symsP pk C N V pp from HSTR2.out)
              have HL9 := box (show (S ++ List.replicate j 52 ++ symsP pk C N V pp).length = L + j + (36 + 2 * pl) from by rw [List.length_append, hsl]; simp [hL])
              have h63 : L + j + (36 + 2 * pl) ≤ 10000 := by omega
              have HTEST : w5.ownsRow w.heap.size 5 1 u7 (L + j) ((S ++ List.replicate j 52).map nU8) := HO5.out
              clear HTEST
              clear P9 ho hb5 HSTR2 hsn
              go_wp2_with (at_builtin; refine wpList_append_in (o := ⟨some 65, _, _, _, _, _⟩) rfl (.tmp 63) (.tmp 64) rfl w.heap.size i0 hi0 hz0 hz1 hz2 u7 (L + j) ((S ++ List.replicate j 52).map nU8) rfl HO5.out sa (36 + 2 * pl) sc (symsP pk C N V pp) rfl hsl HS.out HSN.out h63 w.heap.size w (Nat.le_refl _) k5 k5.size ?_; intro v6 w6 ho6 hb6 hs6)
              go_roundw
              case rel => exact ⟨i + 1, by omega, by go_num, fun j hj => by
                rcases Nat.lt_succ_iff_lt_or_eq.1 hj with h | rfl
                · exact HOK.out j h
                · exact HOKR.out, box (by
                have h := ho6.out
                rw [← List.map_append] at h
                rw [HST.out, HL9.out]
                exact h), hb6⟩
              case measure => simp [intOf]; omega
      · have hz2' : ¬ ((i : Int) < (n2 : Int)) := by omega
        have hidl : idleN xs i = 0 := by unfold idleN; rw [if_neg (by omega)]
        rw [hidl] at HSTR
        have HSTR2 := box (show strTo ps xs (i + 1) = S ++ symsK ⟨pk, pcl, pn, pv, pp⟩ from by rw [HSTR.out]; simp)
        clear hidl
        obtain ⟨r, hr⟩ : ∃ r, okP pk pcl pn pv pl = r := ⟨_, rfl⟩
        have HOKR := box (show okK (ps.getD i default) = r from HOKP.out.trans (by unfold okK; rw [← hr, ← HPL.out]))
        clear HOKP
        obtain ⟨q0, q1, q2, q3, q4, qz⟩ := P9.out
        cases r
        · go_wp2_with fail
          clear q0 q1 q2 q3 q4 qz
          refine (fsymbols_bad pk pcl pn pv pa pl pc hr _).mono ?_
          rintro e w5 ⟨rfl, hb5⟩
          have k5 := kz.trans (hb5.mono kz.size)
          obtain ⟨q0, q1, q2, q3, q4, qz⟩ := P9.out.keep hb5
          go_wp2_with fail
          clear q0 q1 q2 q3 q4 qz
          refine (fvalid_any pk pcl pn pv pa pl pc false hr _).mono ?_
          rintro e w6 ⟨rfl, hb6⟩
          go_wp2_with fail
          go_ret
          exact ⟨by simp, k5.trans (hb6.mono k5.size)⟩
        · obtain ⟨_, c0, c1, n0, n1, v0, v1, l1⟩ := of_decide_eq_true hr
          obtain ⟨C, rfl⟩ := Int.eq_ofNat_of_zero_le c0
          obtain ⟨N, rfl⟩ := Int.eq_ofNat_of_zero_le n0
          obtain ⟨V, rfl⟩ := Int.eq_ofNat_of_zero_le v0
          clear c0 c1 n0 n1 v0 v1
          go_wp2_with fail
          clear q0 q1 q2 q3 q4 qz
          refine (fsymbols_pk pk C N V pa pl pc pp HPL.out hpk hr HPP.out HPN.out _ (HPI.out.below kz) (HT.out.below kz) (HT2.out.below kz)).mono ?_
          rintro e w5 ⟨u, rfl, ho, hb5⟩
          obtain ⟨sa, sc, rfl, HS, hsn, _⟩ := own_any ho
          have HSN := box hsn
          have HO5 := box (own_later HO.out hb5)
          have k5 := kz.trans (hb5.mono kz.size)
          have hsl : (symsP pk C N V pp).length = 36 + 2 * pl := by rw [symsP_length, HPL.out]
          have HST := box (show strTo ps xs (i + 1) = S ++ symsP pk C N V pp from HSTR2.out)
          have HL9 := box (show (S ++ symsP pk C N V pp).length = L + (36 + 2 * pl) from by rw [List.length_append, hsl]; simp [hL])
          have h63 : L + (36 + 2 * pl) ≤ 10000 := by omega
          have HTEST : w5.ownsRow w.heap.size 5 1 u7 (L) ((S).map nU8) := HO5.out
          clear HTEST
          clear P9 ho hb5 HSTR HSTR2 hsn
          go_wp2_with (at_builtin; refine wpList_append_in (o := ⟨some 65, _, _, _, _, _⟩) rfl (.tmp 63) (.tmp 64) rfl w.heap.size i0 hi0 hz0 hz1 hz2 u7 (L) ((S).map nU8) rfl HO5.out sa (36 + 2 * pl) sc (symsP pk C N V pp) rfl hsl HS.out HSN.out h63 w.heap.size w (Nat.le_refl _) k5 k5.size ?_; intro v6 w6 ho6 hb6 hs6)
          go_roundw
          case rel => exact ⟨i + 1, by omega, by go_num, fun j hj => by
            rcases Nat.lt_succ_iff_lt_or_eq.1 hj with h | rfl
            · exact HOK.out j h
            · exact HOKR.out, box (by
            have h := ho6.out
            rw [← List.map_append] at h
            rw [HST.out, HL9.out]
            exact h), hb6⟩
          case measure => simp [intOf]; omega
    · obtain rfl : i = n := by omega
      obtain ⟨hrun, hlen, hlt2⟩ := str_run (idle := xs) HF.out i (by omega) HOK.out
      rw [List.take_of_length_le (by omega)] at hrun
      obtain ⟨L, hL⟩ : ∃ L, (strTo ps xs i).length = L := ⟨_, rfl⟩
      rw [hL] at hown hlen
      obtain ⟨sa, sc, rfl, HS, _, _⟩ := own_any hown.out
      have SC := scan_any sa L sc (strTo ps xs i) hL hlt2 (by omega) wr HS.out (HT.out.below kr) (HT2.out.below kr)
      obtain ⟨b, hb⟩ : ∃ b : Nat, b = 0 := ⟨_, rfl⟩
      have e1 : (scanTo (strTo ps xs i) L).1.bad = b := by rw [scan_run hL, hrun, hb]
      have e2 : (scanTo (strTo ps xs i) L).2 = ps := by rw [scan_run hL, hrun]
      rw [e1, e2] at SC
      have SCB := box SC
      have eb : ((b : Int) == 0) = true := by rw [hb]; rfl
      clear hrun hlt2 SC e1 e2 hb hown
      go_wp2_with fail
      refine SCB.out.mono ?_
      rintro e w2 ⟨u, rfl, ho, hb2⟩
      obtain ⟨ga, gc, rfl, hpk, _⟩ := ho.form3 i hn
      have HG := box hpk
      have k2 := kr.trans (hb2.mono kr.size)
      clear ho hpk SCB
      go_wp2_with fail
      refine (lsame_any ga a i gc c ps hn (by omega) w2 HG.out (HA.out.below k2).pks).mono ?_
      rintro e w3 ⟨rfl, hb3⟩
      go_wp2_with fail
      go_ret
      exact ⟨by simp, k2.trans (hb3.mono k2.size)⟩
end Go.Proofs.YthfoakomapmkeaaDoor
