/- FrameRecovers: its walk. -/
import Derived.Test.YthfoakomapmkeaaDoorMrCd
import Derived.Deep.RegionHeld3
import Derived.Deep.RegionLaw
namespace Go.Proofs.YthfoakomapmkeaaDoor
open Go.RowKit

theorem OwnPks.form2 {B : Nat} {E : Nat → Prop} {w : World} {v : Value} {ps : List Pkt} (x : OwnPks B E w v ps) (n : Nat) (hn : ps.length = n) : ∃ (a : Option Addr) (c : Nat), v = .slice a n c ∧ PksIn w a ps ∧ (a = none → c = 0) := by
  subst hn; exact x.form

theorem pkCells_one {w : World} {E : Nat → Prop} : ∀ {ps : List Pkt} {cs : List Value}, PkCells w E cs ps → ∀ u ∈ cs, u.oneCell' = true
  | [], cs, h, u, hu => by have h : cs = [] := h; subst h; cases hu
  | p :: ps, cs, ⟨a, l, cap, rest, hc, _, _, _, _, hr⟩, u, hu => by
    subst hc
    rcases List.mem_append.1 hu with hu | hu
    · simp at hu
      rcases hu with rfl | rfl | rfl | rfl | rfl <;> rfl
    · exact pkCells_one hr u hu
/-- An append of one packet to a slice of the call's own, as a step of a region that draws. -/
theorem step_pks {ops : Array Oper} {o : Oper} {a : Act} {w : World} {K : Act → World → Prop} {Q : Exit → Act → World → Prop} {E : Prop} (hg : o.guard = none) (s x : Operand)
    (hop : o.op = .call { callee := .builtin .append, args := #[s, x], argTypes := #[49, 49] })
    (B : Nat) (va : Option Addr) (n cv : Nat) (ps : List Pkt) (hn : ps.length = n) (hs : a.eval s = .slice va n cv) (hown : OwnPks B (fun _ => False) w (.slice va n cv) ps)
    (ad : Addr) (pk : Nat) (pc pn pv : Int) (pa : Option Addr) (pl pcap : Nat) (pay : List Nat) (hx : a.eval x = .slice (some ad) 1 1) (hlit : ∀ j u, (pkC pk pc pn pv pa pl pcap).toList[j]? = some u → w.cell? (ad.add j) = some u)
    (hpl : pay.length = pl) (hpi : In w pa pay) (hpn : pa = none → pcap = 0) (hpb : ∀ q, pay ≠ [] → pa = some q → q.block < B) (h63 : n ≤ 1000) (w0 : World) (hb : Below B w0 w) (hbase : B ≤ w.heap.size)
    (hK : ∀ va' cv' w', Box (PksIn w' va' (ps ++ [⟨pk, pc, pn, pv, pay⟩])) → Below B w0 w' → B ≤ w'.heap.size → w.grownBy w' (Value.slice va n cv).ownBlock → K (a.put o.dst (.slice va' (n + 1) cv')) w') :
    if Region.wanted o (yielded ops a.tmps) = true then Oper.wp Tryd.prog o a w K Q else E := by
  have hw : Region.wanted o (yielded ops a.tmps) = true := by simp [Region.wanted, hg]
  rw [if_pos hw]
  obtain ⟨i0, hi0, hz0, hz1, hz2⟩ := info_parts Tryd.infoPk
  obtain ⟨cs, h1, h2⟩ := hown
  rw [hn] at h1
  obtain ⟨v', w', hrun, r1, r2, _, r5⟩ := run_append_own_at (P := Tryd.prog) w B 49 o.type 24 i0 pk0 5 56 Tryd.underlying49 hi0 hz0 hz1 hz2 rfl (by decide) (.slice va n cv) n cs h1 ad 1 1 (pkC pk pc pn pv pa pl pcap).toList rfl hlit (by intro u hu; simp at hu; rcases hu with rfl | rfl | rfl | rfl | rfl <;> rfl) (by unfold maxLen; omega) (by omega) hbase
  have c1 := PkCells.add (p := ⟨pk, pc, pn, pv, pay⟩) hpl hpi hpn (fun hne q hq hE => by
    have hq2 := hpb q hne hq
    rcases hE with hE | hE
    · exact hE
    · have := (row_blk h1 q.block hE.symm).1
      omega) h2
  have a2 : PkCells w (fun b => some b = (Value.slice va n cv).ownBlock ∨ some b = v'.ownBlock) _ _ := c1.excl (fun k hk hE => by
    rcases hE with hE | hE
    · exact .inr hE
    · rcases r5 with h5 | h5
      · rw [h5] at hE; exact .inr hE
      · rw [h5] at hE; cases hE; omega)
  have a3 := a2.keep (w' := w') (fun k hk hE => r2.block k hk (fun e => hE (.inl e)))
  have own' : OwnPks B (fun _ => False) w' v' (ps ++ [⟨pk, pc, pn, pv, pay⟩]) := ⟨_, by rw [List.length_append, hn]; exact r1, a3.excl (fun k _ hE => .inr (hE.resolve_left id))⟩
  obtain ⟨va', cv', rfl, hpin, _⟩ := own'.form2 (n + 1) (by rw [List.length_append, hn]; rfl)
  have kb : Below B w0 w' := hb.grown r2 hbase (fun q hq => (row_blk h1 q hq).1)
  unfold Oper.wp
  simp [execOp, hop, resolve, invoke, builtin, hs, hx, hrun, Result.andThen]
  exact hK va' cv' w' (box hpin) kb (Nat.le_trans hbase r2.size) r2

set_option maxRecDepth 100000 in
set_option maxHeartbeats 8000000 in
theorem clonePk_any (va : Option Addr) (n c : Nat) (ps : List Pkt) (hn : ps.length = n) (hbig : n ≤ 1000) (hnil : va = none → c = 0) (B : Nat) (w : World) (hc : OwnPks B (fun _ => False) w (.slice va n c) ps) :
    Calls Tryd.prog 33 #[.slice va n c] w fun e w' => ∃ va' c', e = .returned (.slice va' n c') ∧ (va' = none → c' = 0) ∧ OwnPks w.heap.size (fun _ => False) w' (.slice va' n c') ps ∧ Below w.heap.size w w' := by
  have q49 : ∀ (w : World) (a : Option Addr) (n c n' c' : Nat), (binOp .eql 49 (.slice a n c) (.slice none n' c')).run Tryd.prog w = .ok (.bool a.isNone) w := fun w a n c n' c' => Lib.run_eql_slice_nil w _ _ a n c n' c' Tryd.underlying49
  rcases va with _ | b
  · obtain rfl := hnil rfl
    have hp : ps = [] := by
      obtain ⟨cs, h1, _⟩ := hc
      rcases h1.2 with ⟨_, h0⟩ | ⟨g', cap, cur, hv, _⟩
      · exact List.length_eq_zero_iff.1 h0
      · cases hv
    subst hp
    obtain rfl : n = 0 := by simpa using hn.symm
    clear hc hnil
    go_enter Tryd.func33, Tryd.ntmps33
    go_wp2_with fail
    go_ret
    exact ⟨none, 0, rfl, fun _ => rfl, ⟨[], World.ownsRow_nil _ _ _ _, rfl⟩, Below.refl _ _⟩
  · obtain ⟨cs, h1, h2⟩ := hc
    rw [hn] at h1
    have kA := (Below.refl w.heap.size w).alloc (Nat.le_refl _) (.cells #[] 24)
    have O0 := box (World.ownsRow_made (e := 24) (size := 5) (base := w.heap.size) w #[] 0 (Nat.le_refl _) (Nat.zero_le _) rfl)
    have HCS := box (show ∀ j u, cs[j]? = some u → (w.alloc (.cells #[] 24)).cell? (b.add j) = some u from fun j u hu => by
      rcases h1.2 with ⟨hv, _⟩ | ⟨g', cap, cur, hv, hb', _⟩
      · cases hv
      · cases hv
        have hj : j < cs.length := (List.getElem?_eq_some_iff.1 hu).1
        rw [add_off]
        exact keepa _ (by rw [h1.cellAt j (by rw [← h1.1]; exact hj)]; exact hu))
    have HONE := box (show ∀ u ∈ cs, u.oneCell' = true from pkCells_one h2)
    have C2 := box ((h2.excl (E' := fun b => w.heap.size ≤ b) (fun k hk h => absurd h (by omega))).keep (w' := w.alloc (.cells #[] 24)) (fun k hk _ => kA.block k hk))
    have HL := box h1.1
    have KA := box kA
    clear h1 h2 kA
    obtain ⟨i0, hi0, hz0, hz1, hz2⟩ := info_parts Tryd.infoPk
    go_enter Tryd.func33, Tryd.ntmps33
    go_wp2_with (at_builtin; refine wpList_append_own_at (o := ⟨some 7, _, _, _, _, _⟩) _ rfl (.tmp 5) (.tmp 6) 49 rfl w.heap.size 24 i0 pk0 5 56 Tryd.underlying49 hi0 hz0 hz1 hz2 rfl (by decide) (.slice (some ⟨w.heap.size, 0, none⟩) 0 0) 0 [] rfl O0.out b n c cs rfl HL.out HCS.out HONE.out (by unfold maxLen; omega) (by omega) KA.out.size ?_; intro v4 w4 o4 g4 _ e4)
    go_ret
    have o5 : w4.ownsRow w.heap.size 24 5 v4 ps.length cs := by rw [hn]; simpa using o4
    have c5 := (C2.out.keep (w' := w4) (fun k hk h => g4.block k hk (fun e => h (by cases e; exact Nat.le_refl _)))).excl (E' := fun b => False ∨ some b = v4.ownBlock) (fun k _ hE => by
      rcases hE with hE | hE
      · cases hE
      · rcases e4 with e4 | e4
        · rw [e4] at hE; cases hE; exact Nat.le_refl _
        · rw [e4] at hE; cases hE; exact KA.out.size)
    have own5 : OwnPks w.heap.size (fun _ => False) w4 v4 ps := ⟨cs, o5, c5⟩
    obtain ⟨va', cv', rfl, _, hnl⟩ := own5.form2 n hn
    exact ⟨va', cv', rfl, hnl, own5, KA.out.grown g4 KA.out.size (fun q hq => by cases hq; exact Nat.le_refl _)⟩

set_option maxRecDepth 100000 in
set_option maxHeartbeats 8000000 in
theorem recovers_walk (a1 : Option Addr) (n1 cap1 : Nat) (xs : List Nat) (hn1 : xs.length = n1) (hx1 : ∀ x ∈ xs, x < 256) (hnil1 : a1 = none → cap1 = 0) (kd : Nat) (c n v : Int) (a : Option Addr) (l cap : Nat) (pay : List Nat) (hl : pay.length = l) (hk : kd < 256) (hp : ∀ x ∈ pay, x < 256) (hnil : a = none → cap = 0) (w : World) (hin1 : In w a1 xs) (hin : In w a pay) (hT : Crc.HasTab w) (hT2 : HasTab w) :
    Calls Tryd.prog 8 #[.slice a1 n1 cap1, pkV kd c n v a l cap] w fun e w' => e = .returned (.bool true) ∧ Below w.heap.size w w' := by
  have HP := box hp
  have HI := box hin
  have HNIL := box hnil
  have HT := box hT
  have HT2 := box hT2
  have HX1 := box hx1
  have HI1 := box hin1
  have HNIL1 := box hnil1
  clear hp hin hnil hT hT2 hx1 hin1 hnil1
  go_enter Tryd.func8, Tryd.ntmps8
  go_wp2_with fail
  have P := box (pk5_new w kd c n v a l cap w.heap.size rfl)
  have k : Below w.heap.size w (w.alloc (.cells (pkC kd c n v a l cap) 24)) := (Below.refl _ _).alloc (Nat.le_refl _) _
  generalize w.alloc (.cells (pkC kd c n v a l cap) 24) = w0 at P k ⊢
  refine (awake_any _ (HT.out.below k) (HT2.out.below k)).mono ?_
  rintro e w1 ⟨rfl, hb⟩
  replace k := k.trans (hb.mono k.size)
  replace P := box (P.out.keep hb)
  clear hb
  obtain ⟨r, hr⟩ : ∃ r, okP kd c n v l = r := ⟨_, rfl⟩
  by_cases hb1 : 400 < n1
  · have d1 : decide ((400 : Int) < (n1 : Int)) = true := decide_eq_true (by omega)
    cases r
    · obtain ⟨Pq0, Pq1, Pq2, Pq3, Pq4, Pz⟩ := P.out
      go_wp2_with fail
      clear Pq0 Pq1 Pq2 Pq3 Pq4 Pz
      refine (fsymbols_bad kd c n v a l cap hr _).mono ?_
      rintro e w2 ⟨rfl, hb⟩
      replace k := k.trans (hb.mono k.size)
      replace P := box (P.out.keep hb)
      clear hb
      go_wp2_with fail
      go_ret
      exact ⟨rfl, k⟩
    · obtain ⟨_, c0, c1, n0, n1', v0, v1, l1⟩ := of_decide_eq_true hr
      obtain ⟨C, rfl⟩ := Int.eq_ofNat_of_zero_le c0
      obtain ⟨N, rfl⟩ := Int.eq_ofNat_of_zero_le n0
      obtain ⟨V, rfl⟩ := Int.eq_ofNat_of_zero_le v0
      clear c0 n0 n1' v0 v1
      obtain ⟨Pq0, Pq1, Pq2, Pq3, Pq4, Pz⟩ := P.out
      go_wp2_with fail
      clear Pq0 Pq1 Pq2 Pq3 Pq4 Pz
      refine (fsymbols_pk kd C N V a l cap pay hl hk hr HP.out HNIL.out _ (HI.out.below k) (HT.out.below k) (HT2.out.below k)).mono ?_
      rintro e w2 ⟨u, rfl, ho, hb⟩
      replace k := k.trans (hb.mono k.size)
      replace P := box (P.out.keep hb)
      clear hb
      obtain ⟨sa, sc, rfl, HS, _, _⟩ := own_any ho
      clear ho HS
      go_wp2_with fail
      go_ret
      exact ⟨rfl, k⟩
  have d1 : decide ((400 : Int) < (n1 : Int)) = false := decide_eq_false (by omega)
  cases r
  · obtain ⟨Pq0, Pq1, Pq2, Pq3, Pq4, Pz⟩ := P.out
    go_wp2_with fail
    clear Pq0 Pq1 Pq2 Pq3 Pq4 Pz
    refine (fsymbols_bad kd c n v a l cap hr _).mono ?_
    rintro e w2 ⟨rfl, hb⟩
    replace k := k.trans (hb.mono k.size)
    replace P := box (P.out.keep hb)
    clear hb
    go_wp2_with fail
    go_ret
    exact ⟨rfl, k⟩
  · obtain ⟨_, c0, c1, n0, n1', v0, v1, l1⟩ := of_decide_eq_true hr
    obtain ⟨C, rfl⟩ := Int.eq_ofNat_of_zero_le c0
    obtain ⟨N, rfl⟩ := Int.eq_ofNat_of_zero_le n0
    obtain ⟨V, rfl⟩ := Int.eq_ofNat_of_zero_le v0
    clear c0 n0 n1' v0 v1
    obtain ⟨Pq0, Pq1, Pq2, Pq3, Pq4, Pz⟩ := P.out
    go_wp2_with fail
    clear Pq0 Pq1 Pq2 Pq3 Pq4 Pz
    refine (fsymbols_pk kd C N V a l cap pay hl hk hr HP.out HNIL.out _ (HI.out.below k) (HT.out.below k) (HT2.out.below k)).mono ?_
    rintro e w2 ⟨u, rfl, ho, hb⟩
    replace k := k.trans (hb.mono k.size)
    replace P := box (P.out.keep hb)
    clear hb
    obtain ⟨gt, tc, rfl, HU, htc, _⟩ := own_row ho (by omega)
    clear ho
    have hlen : (symsP kd C N V pay).length = 36 + 2 * l := by rw [symsP_length, hl]
    have HL := box (symsP_lt (n := N) (v := V) (pay := pay) hk (show C < 256 by omega) HP.out (by omega))
    obtain ⟨⟨i1, y1, b1⟩, ps, hrun⟩ : ∃ s ps, runS sc0 xs = (s, ps) := ⟨_, _, rfl⟩
    have hb1 : b1 ≤ n1 ∧ ps.length ≤ n1 := by
      have h := scanTo_ok HX1.out n1 (by omega)
      rw [scan_run hn1, hrun] at h
      exact ⟨h.2.1, h.2.2⟩
    have HR1 := box (show scanTo xs n1 = (⟨i1, y1, b1⟩, ps) from (scan_run hn1).trans hrun)
    have HR2 := box (show scanTo (xs ++ symsP kd C N V pay) (n1 + (36 + 2 * l)) = (⟨false, [], if i1 then b1 + 1 else b1⟩, ps ++ [⟨kd, C, N, V, pay⟩]) by
      rw [scan_run (by rw [List.length_append, hn1, hlen]), runS_append, hrun]
      simp only [run_packet kd C N V pay hk HP.out (by rw [hl]; exact hr)])
    clear hrun
    obtain ⟨L, hL⟩ : ∃ L, ps.length = L := ⟨_, rfl⟩
    have SC := scan_any a1 n1 cap1 xs hn1 HX1.out (by omega) _ (HI1.out.below k) (HT.out.below k) (HT2.out.below k)
    rw [HR1.out] at SC
    have SCB := box SC
    clear SC
    go_wp2_with fail
    refine (SCB.out).mono ?_
    rintro e w3 ⟨u, rfl, ho, hb⟩
    replace k := k.trans (hb.mono k.size)
    replace P := box (P.out.keep hb)
    replace HU := box (HU.out.below hb)
    clear hb
    clear SCB
    obtain ⟨fa, fc, rfl, _, hfn⟩ := ho.form2 L hL
    have HO := box ho
    clear ho
    go_wp2_with fail
    change Calls _ _ _ (w3.alloc (.cells #[.slice a1 n1 cap1, .slice (some ⟨gt, 0, none⟩) (36 + 2 * l) tc] 22)) _
    have c0 := World.cell?_alloc_mark w3 #[.slice a1 n1 cap1, .slice (some ⟨gt, 0, none⟩) (36 + 2 * l) tc] 22 (0, 0) 0
    have c1 := World.cell?_alloc_mark w3 #[.slice a1 n1 cap1, .slice (some ⟨gt, 0, none⟩) (36 + 2 * l) tc] 22 (0, 0) 1
    have kB := (Below.refl w3.heap.size w3).alloc (Nat.le_refl _) (.cells #[.slice a1 n1 cap1, .slice (some ⟨gt, 0, none⟩) (36 + 2 * l) tc] 22)
    generalize w3.alloc (.cells #[.slice a1 n1 cap1, .slice (some ⟨gt, 0, none⟩) (36 + 2 * l) tc] 22) = wB at c0 c1 kB ⊢
    have hb := kB
    replace k := k.trans (hb.mono k.size)
    replace P := box (P.out.keep hb)
    replace HU := box (HU.out.below hb)
    replace HO := box (HO.out.below hb)
    clear hb
    clear kB
    refine (concat_two w3.heap.size a1 (some ⟨gt, 0, none⟩) n1 (36 + 2 * l) cap1 tc xs (symsP kd C N V pay) hn1 hlen (by omega) (by omega) HNIL1.out (fun h => by cases h) wB c0 c1 (HI1.out.below k) HU.out.inn).mono ?_
    rintro e w4 ⟨u, rfl, ho, hb⟩
    replace k := k.trans (hb.mono k.size)
    replace P := box (P.out.keep hb)
    replace HU := box (HU.out.below hb)
    replace HO := box (HO.out.below hb)
    clear hb
    obtain ⟨xa, xc, rfl, HX, _, _⟩ := own_any ho
    clear ho c0 c1
    have hxl : (xs ++ symsP kd C N V pay).length = n1 + (36 + 2 * l) := by rw [List.length_append, hn1, hlen]
    have HXX := box (fun x hx => (List.mem_append.1 hx).elim (HX1.out x) (HL.out x) : ∀ x ∈ xs ++ symsP kd C N V pay, x < 256)
    have SC := scan_any xa (n1 + (36 + 2 * l)) xc _ hxl HXX.out (by omega) _ HX.out (HT.out.below k) (HT2.out.below k)
    rw [HR2.out] at SC
    obtain ⟨m, hm⟩ : ∃ m, (if i1 = true then b1 + 1 else b1) = m := ⟨_, rfl⟩
    rw [show (⟨false, [], if i1 then b1 + 1 else b1⟩ : Sc) = ⟨false, [], m⟩ by rw [← hm]] at SC
    have SCB := box SC
    have hm2 : m = b1 ∨ m = b1 + 1 := by rw [← hm]; cases i1 <;> simp
    clear SC hm
    go_wp2_with fail
    refine (SCB.out).mono ?_
    rintro e w5 ⟨u, rfl, ho, hb⟩
    replace k := k.trans (hb.mono k.size)
    replace P := box (P.out.keep hb)
    replace HU := box (HU.out.below hb)
    replace HO := box (HO.out.below hb)
    replace HX := box (HX.out.below hb)
    clear hb
    clear SCB
    obtain ⟨ga, gc, rfl, hpk, _⟩ := ho.form2 (L + 1) (by rw [List.length_append, hL]; rfl)
    have HG := box hpk
    clear ho hpk
    obtain ⟨W0, hW0⟩ : ∃ W0, W0 = w5 := ⟨_, rfl⟩
    subst hW0
    have CL := fun w' (h : Below W0.heap.size W0 w') => box (clonePk_any fa L fc ps hL (by omega) hfn _ w' (HO.out.below h))
    have PF := fun w' (h : Below W0.heap.size W0 w') => box (P.out.keep h)
    have SM := fun w' (h : Below W0.heap.size W0 w') (a' : Option Addr) (c' : Nat) (hp : PksIn w' a' (ps ++ [⟨kd, C, N, V, pay⟩])) => box (lsame_any ga a' (L + 1) gc c' (ps ++ [⟨kd, C, N, V, pay⟩]) (by rw [List.length_append, hL]; rfl) (by omega) w' (HG.out.below h) hp)
    have bd : Below W0.heap.size W0 W0.drew := (Below.refl _ _).drew
    have KW := box k
    have HIB := box (fun q (hne : pay ≠ []) (hq : a = some q) => Nat.lt_of_lt_of_le (in_lt (by have h := HI.out; rw [hq] at h; exact h) hne) k.size : ∀ q, pay ≠ [] → a = some q → q.block < W0.heap.size)
    have PQ := P.out
    have g0 : ∀ w' : World, Below W0.heap.size W0 w' → w'.cell? ⟨w.heap.size, 0, none⟩ = some (nU8 kd) := fun w' h => keepc h PQ.q0
    have g1 : ∀ w' : World, Below W0.heap.size W0 w' → w'.cell? ⟨w.heap.size, 1, none⟩ = some (.int .i64 C) := fun w' h => keepc h PQ.q1
    have g2 : ∀ w' : World, Below W0.heap.size W0 w' → w'.cell? ⟨w.heap.size, 2, none⟩ = some (.int .i64 N) := fun w' h => keepc h PQ.q2
    have g3 : ∀ w' : World, Below W0.heap.size W0 w' → w'.cell? ⟨w.heap.size, 3, none⟩ = some (.int .i64 V) := fun w' h => keepc h PQ.q3
    have g4 : ∀ w' : World, Below W0.heap.size W0 w' → w'.cell? ⟨w.heap.size, 4, none⟩ = some (.slice a l cap) := fun w' h => keepc h PQ.q4
    clear PQ HX hxl HXX HR1 HR2 HL HT HT2 HP HX1 HI1 HNIL1 HU htc hlen hfn P HO HG k
    skip
    rcases hm2 with hm2 | hm2
    · subst hm2
      have e1 : ((m : Int) == (m : Int)) = true := by simp
      go_wp2_with fail
      refine wp_region_held_drew (S := fun w' => Below W0.heap.size W0 w') (by kernel_rfl) (by exact bd) (fun hHeld => ?_)
      refine wpAnyH_take (i := 0) (oi := { dst := some 38, op := Go.Op.move (Go.Operand.tmp 9), type := 49, pos := "law.go:166", after := #[], guard := none }) (v := ?_) rfl (by kernel_rfl) (by kernel_rfl) (by kernel_rfl) (fun _ _ _ h => h) (Or.inl ⟨by rfl, ?_⟩) (by assumption) ?_
      rotate_left
      · (intro w hSw; (try dsimp only at hSw); go_simp; (try with_reducible rfl))
      simp only [Act.put, List.setIfInBounds_toArray, List.set_cons_zero, List.set_cons_succ]
      refine wpAnyH_take (i := 1) (oi := { dst := some 39, op := Go.Op.move (Go.Operand.tmp 7), type := 49, pos := "law.go:166", after := #[], guard := none }) (v := ?_) rfl (by kernel_rfl) (by kernel_rfl) (by kernel_rfl) (fun _ _ _ h => h) (Or.inl ⟨by rfl, ?_⟩) (by assumption) ?_
      rotate_left
      · (intro w hSw; (try dsimp only at hSw); go_simp; (try with_reducible rfl))
      simp only [Act.put, List.setIfInBounds_toArray, List.set_cons_zero, List.set_cons_succ]
      refine wpAnyH_take (i := 3) (oi := { dst := some 41, op := Go.Op.load 24 (Go.Operand.tmp 3), type := 24, pos := "law.go:166", after := #[], guard := none }) (v := ?_) rfl (by kernel_rfl) (by kernel_rfl) (by kernel_rfl) (fun _ _ _ h => h) (Or.inl ⟨by rfl, ?_⟩) (by assumption) ?_
      rotate_left
      · (intro w hSw; (try dsimp only at hSw); have f0 := g0 w hSw; have f1 := g1 w hSw; have f2 := g2 w hSw; have f3 := g3 w hSw; have f4 := g4 w hSw; go_simp; (try with_reducible rfl))
      simp only [Act.put, List.setIfInBounds_toArray, List.set_cons_zero, List.set_cons_succ]
      refine wpAnyH_ready (rs := [2, 4]) (by kernel_rfl) (by simp) ?_
      refine (AllReadyH.cons (o := { dst := some 40, op := Go.Op.call { callee := Go.Callee.value (Go.Operand.func 33), args := #[Go.Operand.tmp 39], argTypes := #[49] }, type := 49, pos := "law.go:166", after := #[{ on := 1, ground := Go.Ground.data }], guard := none }) rfl (fun K hK => ?_) (AllReadyH.cons (o := { dst := some 42, op := Go.Op.buildSlice 49 1 #[(0, Go.Operand.tmp 41)], type := 49, pos := "law.go:166", after := #[{ on := 3, ground := Go.Ground.data }], guard := none }) rfl (fun K hK => ?_) AllReadyH.nil))
      · go_simp
        refine (CL _ hHeld).out.mono ?_
        rintro e wc ⟨vc, cc, rfl, hvc, hoc, hbc⟩
        have kc : Below W0.heap.size W0 wc := hHeld.trans (hbc.mono hHeld.size)
        have HOC := box (hoc.low (B' := W0.heap.size) hHeld.size)
        clear hoc hvc hbc
        refine hK.out _ _ (by exact kc) (fun hHeld2 => ?_)
        clear hK K
        refine wpAnyH_ready (rs := [4]) (by kernel_rfl) (by simp) ?_
        refine (AllReadyH.cons (o := { dst := some 42, op := Go.Op.buildSlice 49 1 #[(0, Go.Operand.tmp 41)], type := 49, pos := "law.go:166", after := #[{ on := 3, ground := Go.Ground.data }], guard := none }) rfl (fun K hK => ?_) AllReadyH.nil)
        go_simp
        have kl := kc.alloc kc.size (.cells (pkC kd (C : Nat) (N : Nat) (V : Nat) a l cap) 24)
        refine hK.out _ _ (by exact kl) (fun hHeld3 => ?_)
        clear hK K
        refine wpAnyH_ready (rs := [5]) (by kernel_rfl) (by simp) ?_
        refine (AllReadyH.cons (o := { dst := some 43, op := Go.Op.call { callee := Go.Callee.builtin Go.Builtin.append, args := #[Go.Operand.tmp 40, Go.Operand.tmp 42], argTypes := #[49, 49] }, type := 49, pos := "law.go:166", after := #[{ on := 2, ground := Go.Ground.data }, { on := 4, ground := Go.Ground.data }, { on := 2, ground := Go.Ground.chain }], guard := none }) rfl (fun K hK => ?_) AllReadyH.nil)
        refine step_pks rfl (.tmp 40) (.tmp 42) rfl W0.heap.size vc L cc ps hL rfl (HOC.out.below ((Below.refl _ _).alloc (Nat.le_refl _) _)) ⟨wc.heap.size, 0, none⟩ kd C N V a l cap pay rfl (Crc.lit_at wc (pkC kd (C : Nat) (N : Nat) (V : Nat) a l cap).toList 24 wc.heap.size rfl) hl (HI.out.below (KW.out.trans (kl.mono KW.out.size))) HNIL.out HIB.out (by omega) W0 kl kl.size ?_
        intro va9 cv9 w9 hbox hb9 hs9 hg9
        refine hK.out _ _ (by exact hb9) (fun hHeld4 => ?_)
        clear hK K
        refine wpAnyH_ready (rs := [6]) (by kernel_rfl) (by simp) ?_
        refine (AllReadyH.cons (o := { dst := some 44, op := Go.Op.call { callee := Go.Callee.value (Go.Operand.func 31), args := #[Go.Operand.tmp 38, Go.Operand.tmp 43], argTypes := #[49, 49] }, type := 4, pos := "law.go:166", after := #[{ on := 0, ground := Go.Ground.data }, { on := 5, ground := Go.Ground.data }, { on := 5, ground := Go.Ground.chain }], guard := none }) rfl (fun K hK => ?_) AllReadyH.nil)
        go_simp
        refine (SM _ hb9 _ _ hbox.out).out.mono ?_
        rintro e wz ⟨rfl, hbz⟩
        have kz : Below W0.heap.size W0 wz := hb9.trans (hbz.mono hb9.size)
        refine hK.out _ _ (by exact kz) (fun hHeld9 => ?_)
        clear hK K
        refine wpAnyH_take (i := 7) (oi := { dst := some 45, op := Go.Op.move (Go.Operand.tmp 44), type := 4, pos := "law.go:166", after := #[{ on := 6, ground := Go.Ground.data }, { on := 6, ground := Go.Ground.chain }], guard := none }) (v := ?_) rfl (by kernel_rfl) (by kernel_rfl) (by kernel_rfl) (fun _ _ _ h => h) (Or.inl ⟨by rfl, ?_⟩) (by assumption) ?_
        rotate_left
        · (intro w hSw; (try dsimp only at hSw); go_simp; (try with_reducible rfl))
        simp only [Act.put, List.setIfInBounds_toArray, List.set_cons_zero, List.set_cons_succ]
        refine wpAnyH_take (i := 8) (oi := { dst := some 46, op := Go.Op.move (Go.Operand.tmp 10), type := 3, pos := "law.go:166", after := #[{ on := 7, ground := Go.Ground.guard }], guard := some (7, true) }) (v := ?_) rfl (by kernel_rfl) (by kernel_rfl) (by kernel_rfl) (fun _ _ _ h => h) (Or.inl ⟨by rfl, ?_⟩) (by assumption) ?_
        rotate_left
        · (intro w hSw; (try dsimp only at hSw); go_simp; (try with_reducible rfl))
        simp only [Act.put, List.setIfInBounds_toArray, List.set_cons_zero, List.set_cons_succ]
        refine wpAnyH_take (i := 9) (oi := { dst := some 47, op := Go.Op.move (Go.Operand.tmp 8), type := 3, pos := "law.go:166", after := #[{ on := 7, ground := Go.Ground.guard }], guard := some (7, true) }) (v := ?_) rfl (by kernel_rfl) (by kernel_rfl) (by kernel_rfl) (fun _ _ _ h => h) (Or.inl ⟨by rfl, ?_⟩) (by assumption) ?_
        rotate_left
        · (intro w hSw; (try dsimp only at hSw); go_simp; (try with_reducible rfl))
        simp only [Act.put, List.setIfInBounds_toArray, List.set_cons_zero, List.set_cons_succ]
        refine wpAnyH_take (i := 10) (oi := { dst := some 48, op := Go.Op.binOp Go.BinOp.eql 3 (Go.Operand.tmp 46) (Go.Operand.tmp 47) 3, type := 4, pos := "law.go:166", after := #[{ on := 8, ground := Go.Ground.data }, { on := 9, ground := Go.Ground.data }, { on := 7, ground := Go.Ground.guard }], guard := some (7, true) }) (v := ?_) rfl (by kernel_rfl) (by kernel_rfl) (by kernel_rfl) (fun _ _ _ h => h) (Or.inl ⟨by rfl, ?_⟩) (by assumption) ?_
        rotate_left
        · (intro w hSw; (try dsimp only at hSw); go_simp; (try with_reducible rfl))
        simp only [Act.put, List.setIfInBounds_toArray, List.set_cons_zero, List.set_cons_succ]
        refine wpAnyH_take (i := 11) (oi := { dst := some 49, op := Go.Op.move (Go.Operand.tmp 48), type := 4, pos := "law.go:166", after := #[{ on := 10, ground := Go.Ground.data }, { on := 7, ground := Go.Ground.chain }, { on := 7, ground := Go.Ground.guard }], guard := some (7, true) }) (v := ?_) rfl (by kernel_rfl) (by kernel_rfl) (by kernel_rfl) (fun _ _ _ h => h) (Or.inl ⟨by rfl, ?_⟩) (by assumption) ?_
        rotate_left
        · (intro w hSw; (try dsimp only at hSw); go_simp; (try with_reducible rfl))
        simp only [Act.put, List.setIfInBounds_toArray, List.set_cons_zero, List.set_cons_succ]
        refine wpAnyH_take (i := 12) (oi := { dst := some 50, op := Go.Op.move (Go.Operand.tmp 10), type := 3, pos := "law.go:166", after := #[{ on := 11, ground := Go.Ground.guard }], guard := some (11, false) }) (v := undef) rfl (by kernel_rfl) (by kernel_rfl) (by kernel_rfl) (fun _ _ _ h => h) (Or.inr ⟨by rfl, rfl⟩) (by assumption) ?_
        simp only [Act.put, List.setIfInBounds_toArray, List.set_cons_zero, List.set_cons_succ]
        refine wpAnyH_take (i := 13) (oi := { dst := some 51, op := Go.Op.move (Go.Operand.tmp 8), type := 3, pos := "law.go:166", after := #[{ on := 11, ground := Go.Ground.guard }], guard := some (11, false) }) (v := undef) rfl (by kernel_rfl) (by kernel_rfl) (by kernel_rfl) (fun _ _ _ h => h) (Or.inr ⟨by rfl, rfl⟩) (by assumption) ?_
        simp only [Act.put, List.setIfInBounds_toArray, List.set_cons_zero, List.set_cons_succ]
        refine wpAnyH_take (i := 14) (oi := { dst := some 52, op := Go.Op.binOp Go.BinOp.add 3 (Go.Operand.tmp 51) (Go.Operand.const (Go.Value.int Go.IntKind.i64 1)) 3, type := 3, pos := "law.go:166", after := #[{ on := 13, ground := Go.Ground.data }, { on := 11, ground := Go.Ground.guard }], guard := some (11, false) }) (v := undef) rfl (by kernel_rfl) (by kernel_rfl) (by kernel_rfl) (fun _ _ _ h => h) (Or.inr ⟨by rfl, rfl⟩) (by assumption) ?_
        simp only [Act.put, List.setIfInBounds_toArray, List.set_cons_zero, List.set_cons_succ]
        refine wpAnyH_take (i := 15) (oi := { dst := some 53, op := Go.Op.binOp Go.BinOp.eql 3 (Go.Operand.tmp 50) (Go.Operand.tmp 52) 3, type := 4, pos := "law.go:166", after := #[{ on := 12, ground := Go.Ground.data }, { on := 14, ground := Go.Ground.data }, { on := 11, ground := Go.Ground.guard }], guard := some (11, false) }) (v := undef) rfl (by kernel_rfl) (by kernel_rfl) (by kernel_rfl) (fun _ _ _ h => h) (Or.inr ⟨by rfl, rfl⟩) (by assumption) ?_
        simp only [Act.put, List.setIfInBounds_toArray, List.set_cons_zero, List.set_cons_succ]
        refine wpAnyH_take (i := 16) (oi := { dst := some 54, op := Go.Op.pick (Go.Operand.tmp 49) (Go.Operand.const (Go.Value.bool true)) (Go.Operand.tmp 53), type := 4, pos := "law.go:166", after := #[{ on := 11, ground := Go.Ground.data }, { on := 15, ground := Go.Ground.data }, { on := 7, ground := Go.Ground.guard }], guard := some (7, true) }) (v := ?_) rfl (by kernel_rfl) (by kernel_rfl) (by kernel_rfl) (fun _ _ _ h => h) (Or.inl ⟨by rfl, ?_⟩) (by assumption) ?_
        rotate_left
        · (intro w hSw; (try dsimp only at hSw); go_simp; (try with_reducible rfl))
        simp only [Act.put, List.setIfInBounds_toArray, List.set_cons_zero, List.set_cons_succ]
        refine wpAnyH_take (i := 17) (oi := { dst := some 55, op := Go.Op.pick (Go.Operand.tmp 45) (Go.Operand.tmp 54) (Go.Operand.const (Go.Value.bool false)), type := 4, pos := "law.go:166", after := #[{ on := 7, ground := Go.Ground.data }, { on := 16, ground := Go.Ground.data }], guard := none }) (v := ?_) rfl (by kernel_rfl) (by kernel_rfl) (by kernel_rfl) (fun _ _ _ h => h) (Or.inl ⟨by rfl, ?_⟩) (by assumption) ?_
        rotate_left
        · (intro w hSw; (try dsimp only at hSw); go_simp; (try with_reducible rfl))
        simp only [Act.put, List.setIfInBounds_toArray, List.set_cons_zero, List.set_cons_succ]
        refine wpAnyH_take (i := 18) (oi := { dst := some 4, op := Go.Op.assign (Go.Operand.tmp 55), type := 4, pos := "law.go:166", after := #[{ on := 17, ground := Go.Ground.data }, { on := 11, ground := Go.Ground.chain }, { on := 0, ground := Go.Ground.phase }, { on := 1, ground := Go.Ground.phase }, { on := 2, ground := Go.Ground.phase }, { on := 3, ground := Go.Ground.phase }, { on := 4, ground := Go.Ground.phase }, { on := 5, ground := Go.Ground.phase }, { on := 6, ground := Go.Ground.phase }, { on := 7, ground := Go.Ground.phase }, { on := 8, ground := Go.Ground.phase }, { on := 9, ground := Go.Ground.phase }, { on := 10, ground := Go.Ground.phase }, { on := 11, ground := Go.Ground.phase }, { on := 12, ground := Go.Ground.phase }, { on := 13, ground := Go.Ground.phase }, { on := 14, ground := Go.Ground.phase }, { on := 15, ground := Go.Ground.phase }, { on := 16, ground := Go.Ground.phase }, { on := 17, ground := Go.Ground.phase }], guard := none }) (v := ?_) rfl (by kernel_rfl) (by kernel_rfl) (by kernel_rfl) (fun _ _ _ h => h) (Or.inl ⟨by rfl, ?_⟩) (by assumption) ?_
        rotate_left
        · (intro w hSw; (try dsimp only at hSw); go_simp; (try with_reducible rfl))
        simp only [Act.put, List.setIfInBounds_toArray, List.set_cons_zero, List.set_cons_succ]
        refine wpAnyH_done (by kernel_rfl) ?_ _
        go_wp2_with fail
        go_ret
        exact ⟨by simp, KW.out.trans (kz.mono KW.out.size)⟩
      · go_simp
        have kl := bd.alloc bd.size (.cells (pkC kd (C : Nat) (N : Nat) (V : Nat) a l cap) 24)
        refine hK.out _ _ (by exact kl) (fun hHeld2 => ?_)
        clear hK K
        have LITC := Crc.lit_at W0.drew (pkC kd (C : Nat) (N : Nat) (V : Nat) a l cap).toList 24 W0.heap.size rfl
        refine wpAnyH_ready (rs := [2]) (by kernel_rfl) (by simp) ?_
        refine (AllReadyH.cons (o := { dst := some 40, op := Go.Op.call { callee := Go.Callee.value (Go.Operand.func 33), args := #[Go.Operand.tmp 39], argTypes := #[49] }, type := 49, pos := "law.go:166", after := #[{ on := 1, ground := Go.Ground.data }], guard := none }) rfl (fun K hK => ?_) AllReadyH.nil)
        go_simp
        refine (CL _ kl).out.mono ?_
        rintro e wc ⟨vc, cc, rfl, hvc, hoc, hbc⟩
        have kc : Below W0.heap.size W0 wc := kl.trans (hbc.mono kl.size)
        have HOC := box (hoc.low (B' := W0.heap.size) kl.size)
        have HLB := box (fun j u hu => keepc hbc (LITC j u hu) : ∀ j u, (pkC kd (C : Nat) (N : Nat) (V : Nat) a l cap).toList[j]? = some u → wc.cell? ((⟨W0.heap.size, 0, none⟩ : Addr).add j) = some u)
        clear hoc hvc hbc
        refine hK.out _ _ (by exact kc) (fun hHeld3 => ?_)
        clear hK K
        refine wpAnyH_ready (rs := [5]) (by kernel_rfl) (by simp) ?_
        refine (AllReadyH.cons (o := { dst := some 43, op := Go.Op.call { callee := Go.Callee.builtin Go.Builtin.append, args := #[Go.Operand.tmp 40, Go.Operand.tmp 42], argTypes := #[49, 49] }, type := 49, pos := "law.go:166", after := #[{ on := 2, ground := Go.Ground.data }, { on := 4, ground := Go.Ground.data }, { on := 2, ground := Go.Ground.chain }], guard := none }) rfl (fun K hK => ?_) AllReadyH.nil)
        refine step_pks rfl (.tmp 40) (.tmp 42) rfl W0.heap.size vc L cc ps hL rfl HOC.out ⟨W0.heap.size, 0, none⟩ kd C N V a l cap pay rfl HLB.out hl (HI.out.below (KW.out.trans (kc.mono KW.out.size))) HNIL.out HIB.out (by omega) W0 kc kc.size ?_
        intro va9 cv9 w9 hbox hb9 hs9 hg9
        refine hK.out _ _ (by exact hb9) (fun hHeld4 => ?_)
        clear hK K
        refine wpAnyH_ready (rs := [6]) (by kernel_rfl) (by simp) ?_
        refine (AllReadyH.cons (o := { dst := some 44, op := Go.Op.call { callee := Go.Callee.value (Go.Operand.func 31), args := #[Go.Operand.tmp 38, Go.Operand.tmp 43], argTypes := #[49, 49] }, type := 4, pos := "law.go:166", after := #[{ on := 0, ground := Go.Ground.data }, { on := 5, ground := Go.Ground.data }, { on := 5, ground := Go.Ground.chain }], guard := none }) rfl (fun K hK => ?_) AllReadyH.nil)
        go_simp
        refine (SM _ hb9 _ _ hbox.out).out.mono ?_
        rintro e wz ⟨rfl, hbz⟩
        have kz : Below W0.heap.size W0 wz := hb9.trans (hbz.mono hb9.size)
        refine hK.out _ _ (by exact kz) (fun hHeld9 => ?_)
        clear hK K
        refine wpAnyH_take (i := 7) (oi := { dst := some 45, op := Go.Op.move (Go.Operand.tmp 44), type := 4, pos := "law.go:166", after := #[{ on := 6, ground := Go.Ground.data }, { on := 6, ground := Go.Ground.chain }], guard := none }) (v := ?_) rfl (by kernel_rfl) (by kernel_rfl) (by kernel_rfl) (fun _ _ _ h => h) (Or.inl ⟨by rfl, ?_⟩) (by assumption) ?_
        rotate_left
        · (intro w hSw; (try dsimp only at hSw); go_simp; (try with_reducible rfl))
        simp only [Act.put, List.setIfInBounds_toArray, List.set_cons_zero, List.set_cons_succ]
        refine wpAnyH_take (i := 8) (oi := { dst := some 46, op := Go.Op.move (Go.Operand.tmp 10), type := 3, pos := "law.go:166", after := #[{ on := 7, ground := Go.Ground.guard }], guard := some (7, true) }) (v := ?_) rfl (by kernel_rfl) (by kernel_rfl) (by kernel_rfl) (fun _ _ _ h => h) (Or.inl ⟨by rfl, ?_⟩) (by assumption) ?_
        rotate_left
        · (intro w hSw; (try dsimp only at hSw); go_simp; (try with_reducible rfl))
        simp only [Act.put, List.setIfInBounds_toArray, List.set_cons_zero, List.set_cons_succ]
        refine wpAnyH_take (i := 9) (oi := { dst := some 47, op := Go.Op.move (Go.Operand.tmp 8), type := 3, pos := "law.go:166", after := #[{ on := 7, ground := Go.Ground.guard }], guard := some (7, true) }) (v := ?_) rfl (by kernel_rfl) (by kernel_rfl) (by kernel_rfl) (fun _ _ _ h => h) (Or.inl ⟨by rfl, ?_⟩) (by assumption) ?_
        rotate_left
        · (intro w hSw; (try dsimp only at hSw); go_simp; (try with_reducible rfl))
        simp only [Act.put, List.setIfInBounds_toArray, List.set_cons_zero, List.set_cons_succ]
        refine wpAnyH_take (i := 10) (oi := { dst := some 48, op := Go.Op.binOp Go.BinOp.eql 3 (Go.Operand.tmp 46) (Go.Operand.tmp 47) 3, type := 4, pos := "law.go:166", after := #[{ on := 8, ground := Go.Ground.data }, { on := 9, ground := Go.Ground.data }, { on := 7, ground := Go.Ground.guard }], guard := some (7, true) }) (v := ?_) rfl (by kernel_rfl) (by kernel_rfl) (by kernel_rfl) (fun _ _ _ h => h) (Or.inl ⟨by rfl, ?_⟩) (by assumption) ?_
        rotate_left
        · (intro w hSw; (try dsimp only at hSw); go_simp; (try with_reducible rfl))
        simp only [Act.put, List.setIfInBounds_toArray, List.set_cons_zero, List.set_cons_succ]
        refine wpAnyH_take (i := 11) (oi := { dst := some 49, op := Go.Op.move (Go.Operand.tmp 48), type := 4, pos := "law.go:166", after := #[{ on := 10, ground := Go.Ground.data }, { on := 7, ground := Go.Ground.chain }, { on := 7, ground := Go.Ground.guard }], guard := some (7, true) }) (v := ?_) rfl (by kernel_rfl) (by kernel_rfl) (by kernel_rfl) (fun _ _ _ h => h) (Or.inl ⟨by rfl, ?_⟩) (by assumption) ?_
        rotate_left
        · (intro w hSw; (try dsimp only at hSw); go_simp; (try with_reducible rfl))
        simp only [Act.put, List.setIfInBounds_toArray, List.set_cons_zero, List.set_cons_succ]
        refine wpAnyH_take (i := 12) (oi := { dst := some 50, op := Go.Op.move (Go.Operand.tmp 10), type := 3, pos := "law.go:166", after := #[{ on := 11, ground := Go.Ground.guard }], guard := some (11, false) }) (v := undef) rfl (by kernel_rfl) (by kernel_rfl) (by kernel_rfl) (fun _ _ _ h => h) (Or.inr ⟨by rfl, rfl⟩) (by assumption) ?_
        simp only [Act.put, List.setIfInBounds_toArray, List.set_cons_zero, List.set_cons_succ]
        refine wpAnyH_take (i := 13) (oi := { dst := some 51, op := Go.Op.move (Go.Operand.tmp 8), type := 3, pos := "law.go:166", after := #[{ on := 11, ground := Go.Ground.guard }], guard := some (11, false) }) (v := undef) rfl (by kernel_rfl) (by kernel_rfl) (by kernel_rfl) (fun _ _ _ h => h) (Or.inr ⟨by rfl, rfl⟩) (by assumption) ?_
        simp only [Act.put, List.setIfInBounds_toArray, List.set_cons_zero, List.set_cons_succ]
        refine wpAnyH_take (i := 14) (oi := { dst := some 52, op := Go.Op.binOp Go.BinOp.add 3 (Go.Operand.tmp 51) (Go.Operand.const (Go.Value.int Go.IntKind.i64 1)) 3, type := 3, pos := "law.go:166", after := #[{ on := 13, ground := Go.Ground.data }, { on := 11, ground := Go.Ground.guard }], guard := some (11, false) }) (v := undef) rfl (by kernel_rfl) (by kernel_rfl) (by kernel_rfl) (fun _ _ _ h => h) (Or.inr ⟨by rfl, rfl⟩) (by assumption) ?_
        simp only [Act.put, List.setIfInBounds_toArray, List.set_cons_zero, List.set_cons_succ]
        refine wpAnyH_take (i := 15) (oi := { dst := some 53, op := Go.Op.binOp Go.BinOp.eql 3 (Go.Operand.tmp 50) (Go.Operand.tmp 52) 3, type := 4, pos := "law.go:166", after := #[{ on := 12, ground := Go.Ground.data }, { on := 14, ground := Go.Ground.data }, { on := 11, ground := Go.Ground.guard }], guard := some (11, false) }) (v := undef) rfl (by kernel_rfl) (by kernel_rfl) (by kernel_rfl) (fun _ _ _ h => h) (Or.inr ⟨by rfl, rfl⟩) (by assumption) ?_
        simp only [Act.put, List.setIfInBounds_toArray, List.set_cons_zero, List.set_cons_succ]
        refine wpAnyH_take (i := 16) (oi := { dst := some 54, op := Go.Op.pick (Go.Operand.tmp 49) (Go.Operand.const (Go.Value.bool true)) (Go.Operand.tmp 53), type := 4, pos := "law.go:166", after := #[{ on := 11, ground := Go.Ground.data }, { on := 15, ground := Go.Ground.data }, { on := 7, ground := Go.Ground.guard }], guard := some (7, true) }) (v := ?_) rfl (by kernel_rfl) (by kernel_rfl) (by kernel_rfl) (fun _ _ _ h => h) (Or.inl ⟨by rfl, ?_⟩) (by assumption) ?_
        rotate_left
        · (intro w hSw; (try dsimp only at hSw); go_simp; (try with_reducible rfl))
        simp only [Act.put, List.setIfInBounds_toArray, List.set_cons_zero, List.set_cons_succ]
        refine wpAnyH_take (i := 17) (oi := { dst := some 55, op := Go.Op.pick (Go.Operand.tmp 45) (Go.Operand.tmp 54) (Go.Operand.const (Go.Value.bool false)), type := 4, pos := "law.go:166", after := #[{ on := 7, ground := Go.Ground.data }, { on := 16, ground := Go.Ground.data }], guard := none }) (v := ?_) rfl (by kernel_rfl) (by kernel_rfl) (by kernel_rfl) (fun _ _ _ h => h) (Or.inl ⟨by rfl, ?_⟩) (by assumption) ?_
        rotate_left
        · (intro w hSw; (try dsimp only at hSw); go_simp; (try with_reducible rfl))
        simp only [Act.put, List.setIfInBounds_toArray, List.set_cons_zero, List.set_cons_succ]
        refine wpAnyH_take (i := 18) (oi := { dst := some 4, op := Go.Op.assign (Go.Operand.tmp 55), type := 4, pos := "law.go:166", after := #[{ on := 17, ground := Go.Ground.data }, { on := 11, ground := Go.Ground.chain }, { on := 0, ground := Go.Ground.phase }, { on := 1, ground := Go.Ground.phase }, { on := 2, ground := Go.Ground.phase }, { on := 3, ground := Go.Ground.phase }, { on := 4, ground := Go.Ground.phase }, { on := 5, ground := Go.Ground.phase }, { on := 6, ground := Go.Ground.phase }, { on := 7, ground := Go.Ground.phase }, { on := 8, ground := Go.Ground.phase }, { on := 9, ground := Go.Ground.phase }, { on := 10, ground := Go.Ground.phase }, { on := 11, ground := Go.Ground.phase }, { on := 12, ground := Go.Ground.phase }, { on := 13, ground := Go.Ground.phase }, { on := 14, ground := Go.Ground.phase }, { on := 15, ground := Go.Ground.phase }, { on := 16, ground := Go.Ground.phase }, { on := 17, ground := Go.Ground.phase }], guard := none }) (v := ?_) rfl (by kernel_rfl) (by kernel_rfl) (by kernel_rfl) (fun _ _ _ h => h) (Or.inl ⟨by rfl, ?_⟩) (by assumption) ?_
        rotate_left
        · (intro w hSw; (try dsimp only at hSw); go_simp; (try with_reducible rfl))
        simp only [Act.put, List.setIfInBounds_toArray, List.set_cons_zero, List.set_cons_succ]
        refine wpAnyH_done (by kernel_rfl) ?_ _
        go_wp2_with fail
        go_ret
        exact ⟨by simp, KW.out.trans (kz.mono KW.out.size)⟩
    · subst hm2
      have e1 : ((b1 : Int) + 1 == (b1 : Int)) = false := by simp; omega
      have e2 : ((b1 : Int) + 1 == (b1 : Int) + 1) = true := by simp
      have e4 : IntKind.i64.wrap ((b1 : Int) + 1) = (b1 : Int) + 1 := by rw [IntKind.wrap_i64]; omega
      go_wp2_with fail
      refine wp_region_held_drew (S := fun w' => Below W0.heap.size W0 w') (by kernel_rfl) (by exact bd) (fun hHeld => ?_)
      refine wpAnyH_take (i := 0) (oi := { dst := some 38, op := Go.Op.move (Go.Operand.tmp 9), type := 49, pos := "law.go:166", after := #[], guard := none }) (v := ?_) rfl (by kernel_rfl) (by kernel_rfl) (by kernel_rfl) (fun _ _ _ h => h) (Or.inl ⟨by rfl, ?_⟩) (by assumption) ?_
      rotate_left
      · (intro w hSw; (try dsimp only at hSw); go_simp; (try with_reducible rfl))
      simp only [Act.put, List.setIfInBounds_toArray, List.set_cons_zero, List.set_cons_succ]
      refine wpAnyH_take (i := 1) (oi := { dst := some 39, op := Go.Op.move (Go.Operand.tmp 7), type := 49, pos := "law.go:166", after := #[], guard := none }) (v := ?_) rfl (by kernel_rfl) (by kernel_rfl) (by kernel_rfl) (fun _ _ _ h => h) (Or.inl ⟨by rfl, ?_⟩) (by assumption) ?_
      rotate_left
      · (intro w hSw; (try dsimp only at hSw); go_simp; (try with_reducible rfl))
      simp only [Act.put, List.setIfInBounds_toArray, List.set_cons_zero, List.set_cons_succ]
      refine wpAnyH_take (i := 3) (oi := { dst := some 41, op := Go.Op.load 24 (Go.Operand.tmp 3), type := 24, pos := "law.go:166", after := #[], guard := none }) (v := ?_) rfl (by kernel_rfl) (by kernel_rfl) (by kernel_rfl) (fun _ _ _ h => h) (Or.inl ⟨by rfl, ?_⟩) (by assumption) ?_
      rotate_left
      · (intro w hSw; (try dsimp only at hSw); have f0 := g0 w hSw; have f1 := g1 w hSw; have f2 := g2 w hSw; have f3 := g3 w hSw; have f4 := g4 w hSw; go_simp; (try with_reducible rfl))
      simp only [Act.put, List.setIfInBounds_toArray, List.set_cons_zero, List.set_cons_succ]
      refine wpAnyH_ready (rs := [2, 4]) (by kernel_rfl) (by simp) ?_
      refine (AllReadyH.cons (o := { dst := some 40, op := Go.Op.call { callee := Go.Callee.value (Go.Operand.func 33), args := #[Go.Operand.tmp 39], argTypes := #[49] }, type := 49, pos := "law.go:166", after := #[{ on := 1, ground := Go.Ground.data }], guard := none }) rfl (fun K hK => ?_) (AllReadyH.cons (o := { dst := some 42, op := Go.Op.buildSlice 49 1 #[(0, Go.Operand.tmp 41)], type := 49, pos := "law.go:166", after := #[{ on := 3, ground := Go.Ground.data }], guard := none }) rfl (fun K hK => ?_) AllReadyH.nil))
      · go_simp
        refine (CL _ hHeld).out.mono ?_
        rintro e wc ⟨vc, cc, rfl, hvc, hoc, hbc⟩
        have kc : Below W0.heap.size W0 wc := hHeld.trans (hbc.mono hHeld.size)
        have HOC := box (hoc.low (B' := W0.heap.size) hHeld.size)
        clear hoc hvc hbc
        refine hK.out _ _ (by exact kc) (fun hHeld2 => ?_)
        clear hK K
        refine wpAnyH_ready (rs := [4]) (by kernel_rfl) (by simp) ?_
        refine (AllReadyH.cons (o := { dst := some 42, op := Go.Op.buildSlice 49 1 #[(0, Go.Operand.tmp 41)], type := 49, pos := "law.go:166", after := #[{ on := 3, ground := Go.Ground.data }], guard := none }) rfl (fun K hK => ?_) AllReadyH.nil)
        go_simp
        have kl := kc.alloc kc.size (.cells (pkC kd (C : Nat) (N : Nat) (V : Nat) a l cap) 24)
        refine hK.out _ _ (by exact kl) (fun hHeld3 => ?_)
        clear hK K
        refine wpAnyH_ready (rs := [5]) (by kernel_rfl) (by simp) ?_
        refine (AllReadyH.cons (o := { dst := some 43, op := Go.Op.call { callee := Go.Callee.builtin Go.Builtin.append, args := #[Go.Operand.tmp 40, Go.Operand.tmp 42], argTypes := #[49, 49] }, type := 49, pos := "law.go:166", after := #[{ on := 2, ground := Go.Ground.data }, { on := 4, ground := Go.Ground.data }, { on := 2, ground := Go.Ground.chain }], guard := none }) rfl (fun K hK => ?_) AllReadyH.nil)
        refine step_pks rfl (.tmp 40) (.tmp 42) rfl W0.heap.size vc L cc ps hL rfl (HOC.out.below ((Below.refl _ _).alloc (Nat.le_refl _) _)) ⟨wc.heap.size, 0, none⟩ kd C N V a l cap pay rfl (Crc.lit_at wc (pkC kd (C : Nat) (N : Nat) (V : Nat) a l cap).toList 24 wc.heap.size rfl) hl (HI.out.below (KW.out.trans (kl.mono KW.out.size))) HNIL.out HIB.out (by omega) W0 kl kl.size ?_
        intro va9 cv9 w9 hbox hb9 hs9 hg9
        refine hK.out _ _ (by exact hb9) (fun hHeld4 => ?_)
        clear hK K
        refine wpAnyH_ready (rs := [6]) (by kernel_rfl) (by simp) ?_
        refine (AllReadyH.cons (o := { dst := some 44, op := Go.Op.call { callee := Go.Callee.value (Go.Operand.func 31), args := #[Go.Operand.tmp 38, Go.Operand.tmp 43], argTypes := #[49, 49] }, type := 4, pos := "law.go:166", after := #[{ on := 0, ground := Go.Ground.data }, { on := 5, ground := Go.Ground.data }, { on := 5, ground := Go.Ground.chain }], guard := none }) rfl (fun K hK => ?_) AllReadyH.nil)
        go_simp
        refine (SM _ hb9 _ _ hbox.out).out.mono ?_
        rintro e wz ⟨rfl, hbz⟩
        have kz : Below W0.heap.size W0 wz := hb9.trans (hbz.mono hb9.size)
        refine hK.out _ _ (by exact kz) (fun hHeld9 => ?_)
        clear hK K
        refine wpAnyH_take (i := 7) (oi := { dst := some 45, op := Go.Op.move (Go.Operand.tmp 44), type := 4, pos := "law.go:166", after := #[{ on := 6, ground := Go.Ground.data }, { on := 6, ground := Go.Ground.chain }], guard := none }) (v := ?_) rfl (by kernel_rfl) (by kernel_rfl) (by kernel_rfl) (fun _ _ _ h => h) (Or.inl ⟨by rfl, ?_⟩) (by assumption) ?_
        rotate_left
        · (intro w hSw; (try dsimp only at hSw); go_simp; (try with_reducible rfl))
        simp only [Act.put, List.setIfInBounds_toArray, List.set_cons_zero, List.set_cons_succ]
        refine wpAnyH_take (i := 8) (oi := { dst := some 46, op := Go.Op.move (Go.Operand.tmp 10), type := 3, pos := "law.go:166", after := #[{ on := 7, ground := Go.Ground.guard }], guard := some (7, true) }) (v := ?_) rfl (by kernel_rfl) (by kernel_rfl) (by kernel_rfl) (fun _ _ _ h => h) (Or.inl ⟨by rfl, ?_⟩) (by assumption) ?_
        rotate_left
        · (intro w hSw; (try dsimp only at hSw); go_simp; (try with_reducible rfl))
        simp only [Act.put, List.setIfInBounds_toArray, List.set_cons_zero, List.set_cons_succ]
        refine wpAnyH_take (i := 9) (oi := { dst := some 47, op := Go.Op.move (Go.Operand.tmp 8), type := 3, pos := "law.go:166", after := #[{ on := 7, ground := Go.Ground.guard }], guard := some (7, true) }) (v := ?_) rfl (by kernel_rfl) (by kernel_rfl) (by kernel_rfl) (fun _ _ _ h => h) (Or.inl ⟨by rfl, ?_⟩) (by assumption) ?_
        rotate_left
        · (intro w hSw; (try dsimp only at hSw); go_simp; (try with_reducible rfl))
        simp only [Act.put, List.setIfInBounds_toArray, List.set_cons_zero, List.set_cons_succ]
        refine wpAnyH_take (i := 10) (oi := { dst := some 48, op := Go.Op.binOp Go.BinOp.eql 3 (Go.Operand.tmp 46) (Go.Operand.tmp 47) 3, type := 4, pos := "law.go:166", after := #[{ on := 8, ground := Go.Ground.data }, { on := 9, ground := Go.Ground.data }, { on := 7, ground := Go.Ground.guard }], guard := some (7, true) }) (v := ?_) rfl (by kernel_rfl) (by kernel_rfl) (by kernel_rfl) (fun _ _ _ h => h) (Or.inl ⟨by rfl, ?_⟩) (by assumption) ?_
        rotate_left
        · (intro w hSw; (try dsimp only at hSw); go_simp; (try with_reducible rfl))
        simp only [Act.put, List.setIfInBounds_toArray, List.set_cons_zero, List.set_cons_succ]
        refine wpAnyH_take (i := 11) (oi := { dst := some 49, op := Go.Op.move (Go.Operand.tmp 48), type := 4, pos := "law.go:166", after := #[{ on := 10, ground := Go.Ground.data }, { on := 7, ground := Go.Ground.chain }, { on := 7, ground := Go.Ground.guard }], guard := some (7, true) }) (v := ?_) rfl (by kernel_rfl) (by kernel_rfl) (by kernel_rfl) (fun _ _ _ h => h) (Or.inl ⟨by rfl, ?_⟩) (by assumption) ?_
        rotate_left
        · (intro w hSw; (try dsimp only at hSw); go_simp; (try with_reducible rfl))
        simp only [Act.put, List.setIfInBounds_toArray, List.set_cons_zero, List.set_cons_succ]
        refine wpAnyH_take (i := 12) (oi := { dst := some 50, op := Go.Op.move (Go.Operand.tmp 10), type := 3, pos := "law.go:166", after := #[{ on := 11, ground := Go.Ground.guard }], guard := some (11, false) }) (v := ?_) rfl (by kernel_rfl) (by kernel_rfl) (by kernel_rfl) (fun _ _ _ h => h) (Or.inl ⟨by rfl, ?_⟩) (by assumption) ?_
        rotate_left
        · (intro w hSw; (try dsimp only at hSw); go_simp; (try with_reducible rfl))
        simp only [Act.put, List.setIfInBounds_toArray, List.set_cons_zero, List.set_cons_succ]
        refine wpAnyH_take (i := 13) (oi := { dst := some 51, op := Go.Op.move (Go.Operand.tmp 8), type := 3, pos := "law.go:166", after := #[{ on := 11, ground := Go.Ground.guard }], guard := some (11, false) }) (v := ?_) rfl (by kernel_rfl) (by kernel_rfl) (by kernel_rfl) (fun _ _ _ h => h) (Or.inl ⟨by rfl, ?_⟩) (by assumption) ?_
        rotate_left
        · (intro w hSw; (try dsimp only at hSw); go_simp; (try with_reducible rfl))
        simp only [Act.put, List.setIfInBounds_toArray, List.set_cons_zero, List.set_cons_succ]
        refine wpAnyH_take (i := 14) (oi := { dst := some 52, op := Go.Op.binOp Go.BinOp.add 3 (Go.Operand.tmp 51) (Go.Operand.const (Go.Value.int Go.IntKind.i64 1)) 3, type := 3, pos := "law.go:166", after := #[{ on := 13, ground := Go.Ground.data }, { on := 11, ground := Go.Ground.guard }], guard := some (11, false) }) (v := ?_) rfl (by kernel_rfl) (by kernel_rfl) (by kernel_rfl) (fun _ _ _ h => h) (Or.inl ⟨by rfl, ?_⟩) (by assumption) ?_
        rotate_left
        · (intro w hSw; (try dsimp only at hSw); go_simp; (try with_reducible rfl))
        simp only [Act.put, List.setIfInBounds_toArray, List.set_cons_zero, List.set_cons_succ]
        refine wpAnyH_take (i := 15) (oi := { dst := some 53, op := Go.Op.binOp Go.BinOp.eql 3 (Go.Operand.tmp 50) (Go.Operand.tmp 52) 3, type := 4, pos := "law.go:166", after := #[{ on := 12, ground := Go.Ground.data }, { on := 14, ground := Go.Ground.data }, { on := 11, ground := Go.Ground.guard }], guard := some (11, false) }) (v := ?_) rfl (by kernel_rfl) (by kernel_rfl) (by kernel_rfl) (fun _ _ _ h => h) (Or.inl ⟨by rfl, ?_⟩) (by assumption) ?_
        rotate_left
        · (intro w hSw; (try dsimp only at hSw); go_simp; (try with_reducible rfl))
        simp only [Act.put, List.setIfInBounds_toArray, List.set_cons_zero, List.set_cons_succ]
        refine wpAnyH_take (i := 16) (oi := { dst := some 54, op := Go.Op.pick (Go.Operand.tmp 49) (Go.Operand.const (Go.Value.bool true)) (Go.Operand.tmp 53), type := 4, pos := "law.go:166", after := #[{ on := 11, ground := Go.Ground.data }, { on := 15, ground := Go.Ground.data }, { on := 7, ground := Go.Ground.guard }], guard := some (7, true) }) (v := ?_) rfl (by kernel_rfl) (by kernel_rfl) (by kernel_rfl) (fun _ _ _ h => h) (Or.inl ⟨by rfl, ?_⟩) (by assumption) ?_
        rotate_left
        · (intro w hSw; (try dsimp only at hSw); go_simp; (try with_reducible rfl))
        simp only [Act.put, List.setIfInBounds_toArray, List.set_cons_zero, List.set_cons_succ]
        refine wpAnyH_take (i := 17) (oi := { dst := some 55, op := Go.Op.pick (Go.Operand.tmp 45) (Go.Operand.tmp 54) (Go.Operand.const (Go.Value.bool false)), type := 4, pos := "law.go:166", after := #[{ on := 7, ground := Go.Ground.data }, { on := 16, ground := Go.Ground.data }], guard := none }) (v := ?_) rfl (by kernel_rfl) (by kernel_rfl) (by kernel_rfl) (fun _ _ _ h => h) (Or.inl ⟨by rfl, ?_⟩) (by assumption) ?_
        rotate_left
        · (intro w hSw; (try dsimp only at hSw); go_simp; (try with_reducible rfl))
        simp only [Act.put, List.setIfInBounds_toArray, List.set_cons_zero, List.set_cons_succ]
        refine wpAnyH_take (i := 18) (oi := { dst := some 4, op := Go.Op.assign (Go.Operand.tmp 55), type := 4, pos := "law.go:166", after := #[{ on := 17, ground := Go.Ground.data }, { on := 11, ground := Go.Ground.chain }, { on := 0, ground := Go.Ground.phase }, { on := 1, ground := Go.Ground.phase }, { on := 2, ground := Go.Ground.phase }, { on := 3, ground := Go.Ground.phase }, { on := 4, ground := Go.Ground.phase }, { on := 5, ground := Go.Ground.phase }, { on := 6, ground := Go.Ground.phase }, { on := 7, ground := Go.Ground.phase }, { on := 8, ground := Go.Ground.phase }, { on := 9, ground := Go.Ground.phase }, { on := 10, ground := Go.Ground.phase }, { on := 11, ground := Go.Ground.phase }, { on := 12, ground := Go.Ground.phase }, { on := 13, ground := Go.Ground.phase }, { on := 14, ground := Go.Ground.phase }, { on := 15, ground := Go.Ground.phase }, { on := 16, ground := Go.Ground.phase }, { on := 17, ground := Go.Ground.phase }], guard := none }) (v := ?_) rfl (by kernel_rfl) (by kernel_rfl) (by kernel_rfl) (fun _ _ _ h => h) (Or.inl ⟨by rfl, ?_⟩) (by assumption) ?_
        rotate_left
        · (intro w hSw; (try dsimp only at hSw); go_simp; (try with_reducible rfl))
        simp only [Act.put, List.setIfInBounds_toArray, List.set_cons_zero, List.set_cons_succ]
        refine wpAnyH_done (by kernel_rfl) ?_ _
        go_wp2_with fail
        go_ret
        exact ⟨by simp, KW.out.trans (kz.mono KW.out.size)⟩
      · go_simp
        have kl := bd.alloc bd.size (.cells (pkC kd (C : Nat) (N : Nat) (V : Nat) a l cap) 24)
        refine hK.out _ _ (by exact kl) (fun hHeld2 => ?_)
        clear hK K
        have LITC := Crc.lit_at W0.drew (pkC kd (C : Nat) (N : Nat) (V : Nat) a l cap).toList 24 W0.heap.size rfl
        refine wpAnyH_ready (rs := [2]) (by kernel_rfl) (by simp) ?_
        refine (AllReadyH.cons (o := { dst := some 40, op := Go.Op.call { callee := Go.Callee.value (Go.Operand.func 33), args := #[Go.Operand.tmp 39], argTypes := #[49] }, type := 49, pos := "law.go:166", after := #[{ on := 1, ground := Go.Ground.data }], guard := none }) rfl (fun K hK => ?_) AllReadyH.nil)
        go_simp
        refine (CL _ kl).out.mono ?_
        rintro e wc ⟨vc, cc, rfl, hvc, hoc, hbc⟩
        have kc : Below W0.heap.size W0 wc := kl.trans (hbc.mono kl.size)
        have HOC := box (hoc.low (B' := W0.heap.size) kl.size)
        have HLB := box (fun j u hu => keepc hbc (LITC j u hu) : ∀ j u, (pkC kd (C : Nat) (N : Nat) (V : Nat) a l cap).toList[j]? = some u → wc.cell? ((⟨W0.heap.size, 0, none⟩ : Addr).add j) = some u)
        clear hoc hvc hbc
        refine hK.out _ _ (by exact kc) (fun hHeld3 => ?_)
        clear hK K
        refine wpAnyH_ready (rs := [5]) (by kernel_rfl) (by simp) ?_
        refine (AllReadyH.cons (o := { dst := some 43, op := Go.Op.call { callee := Go.Callee.builtin Go.Builtin.append, args := #[Go.Operand.tmp 40, Go.Operand.tmp 42], argTypes := #[49, 49] }, type := 49, pos := "law.go:166", after := #[{ on := 2, ground := Go.Ground.data }, { on := 4, ground := Go.Ground.data }, { on := 2, ground := Go.Ground.chain }], guard := none }) rfl (fun K hK => ?_) AllReadyH.nil)
        refine step_pks rfl (.tmp 40) (.tmp 42) rfl W0.heap.size vc L cc ps hL rfl HOC.out ⟨W0.heap.size, 0, none⟩ kd C N V a l cap pay rfl HLB.out hl (HI.out.below (KW.out.trans (kc.mono KW.out.size))) HNIL.out HIB.out (by omega) W0 kc kc.size ?_
        intro va9 cv9 w9 hbox hb9 hs9 hg9
        refine hK.out _ _ (by exact hb9) (fun hHeld4 => ?_)
        clear hK K
        refine wpAnyH_ready (rs := [6]) (by kernel_rfl) (by simp) ?_
        refine (AllReadyH.cons (o := { dst := some 44, op := Go.Op.call { callee := Go.Callee.value (Go.Operand.func 31), args := #[Go.Operand.tmp 38, Go.Operand.tmp 43], argTypes := #[49, 49] }, type := 4, pos := "law.go:166", after := #[{ on := 0, ground := Go.Ground.data }, { on := 5, ground := Go.Ground.data }, { on := 5, ground := Go.Ground.chain }], guard := none }) rfl (fun K hK => ?_) AllReadyH.nil)
        go_simp
        refine (SM _ hb9 _ _ hbox.out).out.mono ?_
        rintro e wz ⟨rfl, hbz⟩
        have kz : Below W0.heap.size W0 wz := hb9.trans (hbz.mono hb9.size)
        refine hK.out _ _ (by exact kz) (fun hHeld9 => ?_)
        clear hK K
        refine wpAnyH_take (i := 7) (oi := { dst := some 45, op := Go.Op.move (Go.Operand.tmp 44), type := 4, pos := "law.go:166", after := #[{ on := 6, ground := Go.Ground.data }, { on := 6, ground := Go.Ground.chain }], guard := none }) (v := ?_) rfl (by kernel_rfl) (by kernel_rfl) (by kernel_rfl) (fun _ _ _ h => h) (Or.inl ⟨by rfl, ?_⟩) (by assumption) ?_
        rotate_left
        · (intro w hSw; (try dsimp only at hSw); go_simp; (try with_reducible rfl))
        simp only [Act.put, List.setIfInBounds_toArray, List.set_cons_zero, List.set_cons_succ]
        refine wpAnyH_take (i := 8) (oi := { dst := some 46, op := Go.Op.move (Go.Operand.tmp 10), type := 3, pos := "law.go:166", after := #[{ on := 7, ground := Go.Ground.guard }], guard := some (7, true) }) (v := ?_) rfl (by kernel_rfl) (by kernel_rfl) (by kernel_rfl) (fun _ _ _ h => h) (Or.inl ⟨by rfl, ?_⟩) (by assumption) ?_
        rotate_left
        · (intro w hSw; (try dsimp only at hSw); go_simp; (try with_reducible rfl))
        simp only [Act.put, List.setIfInBounds_toArray, List.set_cons_zero, List.set_cons_succ]
        refine wpAnyH_take (i := 9) (oi := { dst := some 47, op := Go.Op.move (Go.Operand.tmp 8), type := 3, pos := "law.go:166", after := #[{ on := 7, ground := Go.Ground.guard }], guard := some (7, true) }) (v := ?_) rfl (by kernel_rfl) (by kernel_rfl) (by kernel_rfl) (fun _ _ _ h => h) (Or.inl ⟨by rfl, ?_⟩) (by assumption) ?_
        rotate_left
        · (intro w hSw; (try dsimp only at hSw); go_simp; (try with_reducible rfl))
        simp only [Act.put, List.setIfInBounds_toArray, List.set_cons_zero, List.set_cons_succ]
        refine wpAnyH_take (i := 10) (oi := { dst := some 48, op := Go.Op.binOp Go.BinOp.eql 3 (Go.Operand.tmp 46) (Go.Operand.tmp 47) 3, type := 4, pos := "law.go:166", after := #[{ on := 8, ground := Go.Ground.data }, { on := 9, ground := Go.Ground.data }, { on := 7, ground := Go.Ground.guard }], guard := some (7, true) }) (v := ?_) rfl (by kernel_rfl) (by kernel_rfl) (by kernel_rfl) (fun _ _ _ h => h) (Or.inl ⟨by rfl, ?_⟩) (by assumption) ?_
        rotate_left
        · (intro w hSw; (try dsimp only at hSw); go_simp; (try with_reducible rfl))
        simp only [Act.put, List.setIfInBounds_toArray, List.set_cons_zero, List.set_cons_succ]
        refine wpAnyH_take (i := 11) (oi := { dst := some 49, op := Go.Op.move (Go.Operand.tmp 48), type := 4, pos := "law.go:166", after := #[{ on := 10, ground := Go.Ground.data }, { on := 7, ground := Go.Ground.chain }, { on := 7, ground := Go.Ground.guard }], guard := some (7, true) }) (v := ?_) rfl (by kernel_rfl) (by kernel_rfl) (by kernel_rfl) (fun _ _ _ h => h) (Or.inl ⟨by rfl, ?_⟩) (by assumption) ?_
        rotate_left
        · (intro w hSw; (try dsimp only at hSw); go_simp; (try with_reducible rfl))
        simp only [Act.put, List.setIfInBounds_toArray, List.set_cons_zero, List.set_cons_succ]
        refine wpAnyH_take (i := 12) (oi := { dst := some 50, op := Go.Op.move (Go.Operand.tmp 10), type := 3, pos := "law.go:166", after := #[{ on := 11, ground := Go.Ground.guard }], guard := some (11, false) }) (v := ?_) rfl (by kernel_rfl) (by kernel_rfl) (by kernel_rfl) (fun _ _ _ h => h) (Or.inl ⟨by rfl, ?_⟩) (by assumption) ?_
        rotate_left
        · (intro w hSw; (try dsimp only at hSw); go_simp; (try with_reducible rfl))
        simp only [Act.put, List.setIfInBounds_toArray, List.set_cons_zero, List.set_cons_succ]
        refine wpAnyH_take (i := 13) (oi := { dst := some 51, op := Go.Op.move (Go.Operand.tmp 8), type := 3, pos := "law.go:166", after := #[{ on := 11, ground := Go.Ground.guard }], guard := some (11, false) }) (v := ?_) rfl (by kernel_rfl) (by kernel_rfl) (by kernel_rfl) (fun _ _ _ h => h) (Or.inl ⟨by rfl, ?_⟩) (by assumption) ?_
        rotate_left
        · (intro w hSw; (try dsimp only at hSw); go_simp; (try with_reducible rfl))
        simp only [Act.put, List.setIfInBounds_toArray, List.set_cons_zero, List.set_cons_succ]
        refine wpAnyH_take (i := 14) (oi := { dst := some 52, op := Go.Op.binOp Go.BinOp.add 3 (Go.Operand.tmp 51) (Go.Operand.const (Go.Value.int Go.IntKind.i64 1)) 3, type := 3, pos := "law.go:166", after := #[{ on := 13, ground := Go.Ground.data }, { on := 11, ground := Go.Ground.guard }], guard := some (11, false) }) (v := ?_) rfl (by kernel_rfl) (by kernel_rfl) (by kernel_rfl) (fun _ _ _ h => h) (Or.inl ⟨by rfl, ?_⟩) (by assumption) ?_
        rotate_left
        · (intro w hSw; (try dsimp only at hSw); go_simp; (try with_reducible rfl))
        simp only [Act.put, List.setIfInBounds_toArray, List.set_cons_zero, List.set_cons_succ]
        refine wpAnyH_take (i := 15) (oi := { dst := some 53, op := Go.Op.binOp Go.BinOp.eql 3 (Go.Operand.tmp 50) (Go.Operand.tmp 52) 3, type := 4, pos := "law.go:166", after := #[{ on := 12, ground := Go.Ground.data }, { on := 14, ground := Go.Ground.data }, { on := 11, ground := Go.Ground.guard }], guard := some (11, false) }) (v := ?_) rfl (by kernel_rfl) (by kernel_rfl) (by kernel_rfl) (fun _ _ _ h => h) (Or.inl ⟨by rfl, ?_⟩) (by assumption) ?_
        rotate_left
        · (intro w hSw; (try dsimp only at hSw); go_simp; (try with_reducible rfl))
        simp only [Act.put, List.setIfInBounds_toArray, List.set_cons_zero, List.set_cons_succ]
        refine wpAnyH_take (i := 16) (oi := { dst := some 54, op := Go.Op.pick (Go.Operand.tmp 49) (Go.Operand.const (Go.Value.bool true)) (Go.Operand.tmp 53), type := 4, pos := "law.go:166", after := #[{ on := 11, ground := Go.Ground.data }, { on := 15, ground := Go.Ground.data }, { on := 7, ground := Go.Ground.guard }], guard := some (7, true) }) (v := ?_) rfl (by kernel_rfl) (by kernel_rfl) (by kernel_rfl) (fun _ _ _ h => h) (Or.inl ⟨by rfl, ?_⟩) (by assumption) ?_
        rotate_left
        · (intro w hSw; (try dsimp only at hSw); go_simp; (try with_reducible rfl))
        simp only [Act.put, List.setIfInBounds_toArray, List.set_cons_zero, List.set_cons_succ]
        refine wpAnyH_take (i := 17) (oi := { dst := some 55, op := Go.Op.pick (Go.Operand.tmp 45) (Go.Operand.tmp 54) (Go.Operand.const (Go.Value.bool false)), type := 4, pos := "law.go:166", after := #[{ on := 7, ground := Go.Ground.data }, { on := 16, ground := Go.Ground.data }], guard := none }) (v := ?_) rfl (by kernel_rfl) (by kernel_rfl) (by kernel_rfl) (fun _ _ _ h => h) (Or.inl ⟨by rfl, ?_⟩) (by assumption) ?_
        rotate_left
        · (intro w hSw; (try dsimp only at hSw); go_simp; (try with_reducible rfl))
        simp only [Act.put, List.setIfInBounds_toArray, List.set_cons_zero, List.set_cons_succ]
        refine wpAnyH_take (i := 18) (oi := { dst := some 4, op := Go.Op.assign (Go.Operand.tmp 55), type := 4, pos := "law.go:166", after := #[{ on := 17, ground := Go.Ground.data }, { on := 11, ground := Go.Ground.chain }, { on := 0, ground := Go.Ground.phase }, { on := 1, ground := Go.Ground.phase }, { on := 2, ground := Go.Ground.phase }, { on := 3, ground := Go.Ground.phase }, { on := 4, ground := Go.Ground.phase }, { on := 5, ground := Go.Ground.phase }, { on := 6, ground := Go.Ground.phase }, { on := 7, ground := Go.Ground.phase }, { on := 8, ground := Go.Ground.phase }, { on := 9, ground := Go.Ground.phase }, { on := 10, ground := Go.Ground.phase }, { on := 11, ground := Go.Ground.phase }, { on := 12, ground := Go.Ground.phase }, { on := 13, ground := Go.Ground.phase }, { on := 14, ground := Go.Ground.phase }, { on := 15, ground := Go.Ground.phase }, { on := 16, ground := Go.Ground.phase }, { on := 17, ground := Go.Ground.phase }], guard := none }) (v := ?_) rfl (by kernel_rfl) (by kernel_rfl) (by kernel_rfl) (fun _ _ _ h => h) (Or.inl ⟨by rfl, ?_⟩) (by assumption) ?_
        rotate_left
        · (intro w hSw; (try dsimp only at hSw); go_simp; (try with_reducible rfl))
        simp only [Act.put, List.setIfInBounds_toArray, List.set_cons_zero, List.set_cons_succ]
        refine wpAnyH_done (by kernel_rfl) ?_ _
        go_wp2_with fail
        go_ret
        exact ⟨by simp, KW.out.trans (kz.mono KW.out.size)⟩
end Go.Proofs.YthfoakomapmkeaaDoor
