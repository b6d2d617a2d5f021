/- CableRuns: its walk. -/
import Derived.Test.YtoeedbimhihbhaaCabY
namespace Go.Proofs.Ytoeedbimhihbhaa
open Go.RowKit

/-- What a round of CableRuns finds: the cable, the reference's, and that they say the same. -/
structure RunsAt (B g rb : Nat) (a : Option Addr) (c : Nat) (fs : List Ft) (w2 w : World) (k : Nat) (v : Value) (s : Cab) (la : Option Addr) (lc : Nat) (r : Rc) : Prop where
  x : CabAt B (fun k => k < B ∨ k = rb) w g v s
  m : R7 w rb (.int .i64 r.d) (.slice r.fa r.fs.length r.fc) (.bool r.down) (.int .i64 r.idx) (.int .i64 r.now) (.slice la r.fl.length lc) (.int .i64 r.lost)
  f : RfAt (fun k => k = g ∨ v.ownBlock = some k ∨ k = rb) w (.slice la r.fl.length lc) r.fl
  sim : Sim s r
  b : s.d ≤ 100 ∧ s.time ≤ k ∧ s.sent ≤ k ∧ s.lost ≤ 64 * k
  rfa : r.fa = a
  rfc : r.fc = c
  rfs : r.fs = fs
  bel : Below B w2 w
theorem RunsAt.keep {B g rb : Nat} {a : Option Addr} {c : Nat} {fs : List Ft} {w2 w w' : World} {k : Nat} {v : Value} {s : Cab} {la : Option Addr} {lc : Nat} {r : Rc} (h : RunsAt B g rb a c fs w2 w k v s la lc r) (hb : Below w.heap.size w w') : RunsAt B g rb a c fs w2 w' k v s la lc r :=
  ⟨h.x.keep hb, h.m.keep hb, h.f.keep hb, h.sim, h.b, h.rfa, h.rfc, h.rfs, h.bel.trans (hb.mono (Nat.le_trans h.x.hB (Nat.le_of_lt h.x.lt)))⟩
/-- A row of slices, as strings. -/
theorem bs_of_rows {B n : Nat} {w : World} {a : Option Addr} {c : Nat} {l : List Fl} (h : w.ownsRow B 36 1 (.slice a n c) n (l.map slV)) (hs : ∀ f ∈ l, In w f.a f.xs ∧ (f.a = none → f.c = 0)) : BsIn w a (l.map Fl.xs) := by
  rcases row_form h with ⟨_, _, h3⟩ | ⟨q, cap, h1, _, _, _, _, h2⟩
  · left
    have : l = [] := by simpa using h3
    rw [this]; rfl
  · cases h1
    refine .inr ⟨q, 0, rfl, fun j hj => ?_⟩
    rw [List.length_map] at hj
    have h4 := hs l[j] (List.getElem_mem hj)
    refine ⟨l[j].a, l[j].xs.length, l[j].c, ?_, by simp, by simpa using h4.1, h4.2⟩
    rw [Nat.zero_add]
    have h5 := h2 j (slV l[j]) (by rw [List.getElem?_map, List.getElem?_eq_getElem hj]; rfl)
    simpa using h5
theorem put7_keep {B : Nat} {Z : Nat → Prop} {w : World} {g rb : Nat} {v : Value} {s : Cab} (x : CabAt B Z w g v s) (hz : Z rb) (u0 u1 u2 u3 u4 u5 u6 : Value) : CabAt B Z (put7 w rb u0 u1 u2 u3 u4 u5 u6) g v s :=
  x.same (fun k _ hk => put7_heap _ _ _ _ _ _ _ _ _ k (fun e => hk (e ▸ hz)))
theorem put7_rf {E : Nat → Prop} {w : World} {rb : Nat} {va : Value} {l : List Fl} (x : RfAt E w va l) (hz : E rb) (u0 u1 u2 u3 u4 u5 u6 : Value) : RfAt E (put7 w rb u0 u1 u2 u3 u4 u5 u6) va l :=
  x.same (fun k _ hk => put7_heap _ _ _ _ _ _ _ _ _ k (fun e => hk (e ▸ hz)))

set_option maxRecDepth 100000 in
set_option maxHeartbeats 8000000 in
theorem runs_any (z : Int) (a : Option Addr) (n c : Nat) (fs : List Ft) (hn : fs.length = n) (hnil : a = none → c = 0) (b : Option Addr) (m c2 : Nat) (l : List Op) (hm : l.length = m) (hx : ∀ o ∈ l, ∀ x ∈ o.data, x < 256) (hmx : m ≤ maxLen) (w : World) (hf : FtsIn w a fs) (hl : OpsIn w b l) :
    Calls Try.prog 4 #[.int .i64 z, .slice a n c, .slice b m c2] w fun e w' => e = .returned (.bool true) ∧ Below w.heap.size w w' := by
  have HF := box hf
  have HL := box hl
  have HX := box hx
  have HNIL := box hnil
  have HMX := box hmx
  clear hf hl hx hnil hmx
  go_enter Try.func4, Try.ntmps4
  go_wp2_with fail
  refine (awake_any w).mono ?_
  rintro e w1 ⟨rfl, hb1⟩
  have B1 := box hb1
  have FEW := box (few_any b m c2 l hm HMX.out a n c w1 (HL.out.below hb1))
  clear hb1
  go_wp2_with fail
  refine FEW.out.mono ?_
  rintro e w2 ⟨⟨r, rfl, hr⟩, hb2⟩
  have B2 := box (B1.out.trans (hb2.mono B1.out.size))
  have HR := box hr
  clear hb2 hr FEW
  cases r
  · go_wp2_with fail
    refine (awake_any w2).mono ?_
    rintro e w3 ⟨rfl, hb3⟩
    go_wp2_with fail
    go_ret
    exact ⟨rfl, B2.out.trans (hb3.mono B2.out.size)⟩
  obtain ⟨h60, hm150, hn150⟩ := HR.out rfl
  have H60 := box h60
  clear HR h60
  by_cases hrg : z < 1 ∨ 100 < z
  · have NW := box (new_range z hrg a n c w2)
    clear hrg
    go_wp2_with fail
    refine NW.out.mono ?_
    rintro e w3 ⟨rfl, hb3⟩
    go_wp2_with fail
    go_ret
    exact ⟨rfl, B2.out.trans (hb3.mono B2.out.size)⟩
  have hz0 : 1 ≤ z := by omega
  have hz1 : z ≤ 100 := by omega
  obtain ⟨D, rfl⟩ := Int.eq_ofNat_of_zero_le (show 0 ≤ z by omega)
  have lD1 : 1 ≤ D := by omega
  have lD2 : D ≤ 100 := by omega
  clear hrg hz0 hz1
  cases hok : okF fs
  · have NW := box (new_arg D (by omega) (by omega) a n c fs hn (by omega) hok w2 (HF.out.below B2.out))
    clear hok
    go_wp2_with fail
    refine NW.out.mono ?_
    rintro e w3 ⟨rfl, hb3⟩
    go_wp2_with fail
    go_ret
    exact ⟨rfl, B2.out.trans (hb3.mono B2.out.size)⟩
  have NW := new_ok D lD1 lD2 a n c fs hn (by omega) HNIL.out hok w2 (HF.out.below B2.out)
  obtain ⟨B, hB⟩ : ∃ B, w2.heap.size = B := ⟨_, rfl⟩
  rw [hB] at NW
  have NW2 := box NW
  have HB := box hB
  have B2S := box (show w.heap.size ≤ B from by rw [← hB]; exact B2.out.size)
  clear hok NW hB
  go_wp2_with fail
  refine NW2.out.mono ?_
  rintro e w3 ⟨g, fa, fc, rfl, hb3, x3⟩
  obtain ⟨rb, hrb⟩ : ∃ rb, w3.heap.size = rb := ⟨_, rfl⟩
  have kA : Below w3.heap.size w3 (w3.alloc (.cells #[.int .i64 D, .slice a n c, .bool false, .int .i64 0, .int .i64 0, .slice none 0 0, .int .i64 0] 35)) := (Below.refl _ _).alloc (Nat.le_refl _) _
  have X4 := box ((x3.fresh (Z' := fun k => k < B ∨ k = rb) (fun k h => h.imp id (fun h => by omega))).keep kA)
  have M4 := box (R7.new w3 (.int .i64 D) (.slice a n c) (.bool false) (.int .i64 0) (.int .i64 0) (.slice none 0 0) (.int .i64 0) 35 rb hrb.symm)
  have K4 := box (hb3.trans (kA.mono (Nat.le_trans x3.hB (Nat.le_of_lt x3.lt))))
  have HRB := box (show B ≤ rb from by rw [← hrb]; exact Nat.le_trans x3.hB (Nat.le_of_lt x3.lt))
  clear NW2 hb3 x3 kA
  go_upto_region 7 with fail
  generalize w3.alloc (.cells #[.int .i64 D, .slice a n c, .bool false, .int .i64 0, .int .i64 0, .slice none 0 0, .int .i64 0] 35) = w4 at X4 M4 K4 ⊢
  clear hrb
  go_wp2_with fail
  go_loopw [38] (fun t38 wr => ∃ (k : Nat) (v : Value) (s : Cab) (la : Option Addr) (lc : Nat) (r : Rc), k ≤ m ∧ t38 = .int .i64 k ∧ Box (RunsAt B g rb a c fs w2 wr k v s la lc r)) (fun t38 _ => m - (intOf t38).toNat)
  case atStart =>
    refine ⟨0, .slice none 0 0, ⟨D, fa, fc, fs, true, 0, 0, [], 0⟩, none, 0, ⟨D, a, c, fs, false, 0, 0, [], 0⟩, by omega, rfl, box ⟨X4.out, by rw [hn]; exact M4.out, ⟨World.ownsRow_nil _ _ _ _, (fun k h => by cases h), (fun f h => by cases h)⟩, ⟨rfl, rfl, rfl, rfl, rfl, rfl, rfl, List.Pairwise.nil, (fun f h => by cases h), (fun f h => by cases h), lD1⟩, ⟨lD2, Nat.le_refl _, Nat.le_refl _, Nat.le_refl _⟩, rfl, rfl, rfl, K4.out⟩⟩
  case round =>
    obtain ⟨k, v, s, la, lc, r, hk, rfl, hRU⟩ := hrel
    by_cases hlt : k < m
    · have kw := box (B2.out.trans (hRU.out.bel.mono B2S.out))
      obtain ⟨gg, ii, rfl, xa, xl, xc, z0, z1, z2, z3, z4⟩ := (HL.out.below kw.out).at (show k < l.length by omega)
      have HO := box (show ∃ o, l[k]'(by omega) = o ∧ o ∈ l from ⟨_, rfl, List.getElem_mem _⟩)
      obtain ⟨o, ho, hom⟩ := HO.out
      rw [ho] at z0 z2 z3
      have HXO := box (HX.out o hom)
      have HDL := box (show xl ≤ 60 by rw [← z2]; exact H60.out o hom)
      obtain ⟨kd, data⟩ := o
      simp only at z0 z2 z3 HXO
      have HXL := box z2
      have HNL := box z4
      have lx := World.block_lt_of_cell? wr ⟨gg, ii + k * 2, none⟩ z0
      obtain ⟨mm, hmm⟩ : ∃ mm, wr.heap.size = mm := ⟨_, rfl⟩
      have kA : Below wr.heap.size wr (wr.alloc (.cells #[.int .i64 kd, .slice xa xl xc] 38)) := (Below.refl _ _).alloc (Nat.le_refl _) _
      have q0 : (wr.alloc (.cells #[.int .i64 kd, .slice xa xl xc] 38)).cell? ⟨mm, 0, none⟩ = some (.int .i64 kd) := by rw [← hmm]; exact World.cell?_alloc_mark wr #[.int .i64 kd, .slice xa xl xc] _ (0, 0) 0
      have q1 : (wr.alloc (.cells #[.int .i64 kd, .slice xa xl xc] 38)).cell? ⟨mm, 1, none⟩ = some (.slice xa xl xc) := by rw [← hmm]; exact World.cell?_alloc_mark wr #[.int .i64 kd, .slice xa xl xc] _ (0, 0) 1
      have RU := box (hRU.out.keep kA)
      have HIN := box (z3.below kA)
      have B2B := box (show B ≤ wr.heap.size from Nat.le_trans hRU.out.x.hB (Nat.le_of_lt hRU.out.x.lt))
      go_upto_region 10 with fail
      clear hmm HO ho hom z0 z1 z2 z3 z4 kA hRU kw lx
      generalize wr.alloc (.cells #[.int .i64 kd, .slice xa xl xc] 38) = wa at q0 q1 RU HIN ⊢
      have HFA := box (show FtsIn wa a fs from HF.out.below (B2.out.trans (RU.out.bel.mono B2S.out)))
      obtain ⟨rd, rfa, rfc, rfs, rdn, rix, rnw, rl, rls⟩ := r
      obtain rfl : rfa = a := RU.out.rfa
      obtain rfl : rfc = c := RU.out.rfc
      obtain rfl : rfs = fs := RU.out.rfs
      have hBD := RU.out.b
      have HRL := box (show rl.length ≤ 64 by have h := RU.out.sim.len; have h2 := RU.out.x.fll; have h : rl.length = s.fl.length := h; omega)
      have HBD := box (show rd ≤ 100 ∧ rnw ≤ k ∧ rix ≤ k ∧ rls ≤ 64 * k from by
        have h1 := RU.out.sim.d; have h2 := RU.out.sim.now; have h3 := RU.out.sim.sent; have h4 := RU.out.sim.lost
        have h1 : rd = s.d := h1
        have h2 : rnw = s.time := h2
        have h3 : rix = s.sent := h3
        have h4 : rls = s.lost := h4
        omega)
      have HEE := box (show ∀ q, (q = g ∨ v.ownBlock = some q ∨ q = rb) → q < wa.heap.size from fun q h => by
        rcases h with h | h | h
        · rw [h]; exact RU.out.x.lt
        · exact (row_blk RU.out.x.row q h).2
        · rw [h]; exact RU.out.m.lt)
      have HGB := box (show rb ≠ g ∧ v.ownBlock ≠ some rb from ⟨fun e => RU.out.x.gz (.inr e.symm), fun e => RU.out.x.vz rb e (.inr rfl)⟩)
      by_cases h0 : kd = 0
      · have d0 : (kd == 0) = true := by simp [h0]
        clear h0
        have kE : Below wa.heap.size wa (wa.alloc (.cells #[] 5)) := (Below.refl _ _).alloc (Nat.le_refl _) _
        have HINE := box (HIN.out.below kE)
        have HOE := box (World.ownsRow_made (e := 5) (size := 1) (base := wa.heap.size) wa #[] 0 (Nat.le_refl _) (Nat.zero_le _) rfl)
        have HSE := box (show wa.heap.size ≤ (wa.alloc (.cells #[] 5)).heap.size from kE.size)
        have hxl60 : xl ≤ 60 := HDL.out
        have q1e := keepc kE q1
        go_upto_region 14 with (at_builtin; refine wpList_append_in (o := ⟨some 49, _, _, _, _, _⟩) rfl (.tmp 46) (.tmp 48) rfl wa.heap.size (.slice (some ⟨wa.heap.size, 0, none⟩) 0 0) 0 [] rfl HOE.out xa xl xc data rfl HXL.out HINE.out HNL.out (by omega) HSE.out ?_; intro v5 w5 ho5 hg5)
        have k5 : Below wa.heap.size wa w5 := kE.grown hg5 kE.size (fun q hq => by cases hq; exact Nat.le_refl _)
        have ho5' : Own wa.heap.size w5 v5 xl data := by simpa [Own] using ho5
        obtain ⟨oa, oc, hoa, hoi, hon, _, hob⟩ := own_any ho5'
        subst hoa
        have HO5 := box ho5'
        have HOI := box hoi
        have HON := box hon
        have HOB := box hob
        have HPO := box (show ∀ q, (∃ p, oa = some p ∧ p.block = q) → wa.heap.size ≤ q ∧ q < w5.heap.size from fun q ⟨p, hp, hpq⟩ => by
          have h1 := (hob p hp).1
          have h2 := (row_blk ho5' p.block (by rw [hp]; rfl)).2
          omega)
        have K5 := box k5
        have y1 := keepc k5 q1
        have RU5 := box (RU.out.keep k5)
        have X5 := box ((RU.out.x.fresh (Z' := fun q => (q < B ∨ q = rb) ∨ ∃ p, oa = some p ∧ p.block = q) (fun q h => h.imp id (fun h => (HPO.out q h).1))).keep k5)
        have F5 := box (show RfAt (fun q => q = g ∨ v.ownBlock = some q ∨ (q = rb ∨ ∃ p, oa = some p ∧ p.block = q)) w5 (.slice la rl.length lc) rl from (RU.out.f.excl (fun q hq h => by
          rcases h with h | h | h | h
          · exact .inl h
          · exact .inr (.inl h)
          · exact .inr (.inr h)
          · have := (HPO.out q h).1; omega)).keep k5)
        have RS := box (rsend_any (fun q => q = g ∨ v.ownBlock = some q ∨ (q = rb ∨ ∃ p, oa = some p ∧ p.block = q)) la lc ⟨rd, rfa, rfc, rfs, rdn, rix, rnw, rl, rls⟩ w5 (fun q h => by
          rcases h with h | h | h | h
          · exact Nat.lt_of_lt_of_le (HEE.out q (.inl h)) k5.size
          · exact Nat.lt_of_lt_of_le (HEE.out q (.inr (.inl h))) k5.size
          · exact Nat.lt_of_lt_of_le (HEE.out q (.inr (.inr h))) k5.size
          · exact (HPO.out q h).2) F5.out (by show rfs.length ≤ 1000; omega) (HFA.out.below k5) (fun f hf => RU.out.x.args f (by rw [← RU.out.sim.fs]; exact hf)) xa xl xc data HXL.out HXO.out (by omega) (HIN.out.below k5) HNL.out (HBD.out.1) (by have := HBD.out; show rix < 1000000; omega) (by have := HBD.out; show rnw < 1000000; omega) (by have := HBD.out; show rls < 1000000; omega) HRL.out)
        obtain ⟨p0, p1, p2, p3, p4, p5, p6, pz⟩ := RU5.out.m
        clear kE HINE HOE HSE ho5 hg5 ho5' hoi hon hob k5 q0 q1 q1e
        simp only at p0 p1 p2 p3 p4 p5 p6
        rw [hn] at p1
        have RS2 := RS
        clear RS
        have RS := box (show Calls Try.prog 18 #[.agg #[.int .i64 rd, .slice rfa n rfc, .bool rdn, .int .i64 rix, .int .i64 rnw, .slice la rl.length lc, .int .i64 rls], .slice xa xl xc] w5 _ from by have h := RS2.out; simp only [rcV, hn] at h; exact h)
        clear RS2
        go_wp2_with fail
        refine RS.out.mono ?_
        rintro e w6 ⟨la6, lc6, r6, code, rfl, hrr, hrf, hb6⟩
        have HRR := box hrr
        have X6 := box (X5.out.keep hb6)
        have M6 := box (RU5.out.m.keep hb6)
        have F6 := box hrf
        have B6 := box (RU5.out.bel.trans (hb6.mono (Nat.le_trans RU5.out.x.hB (Nat.le_of_lt RU5.out.x.lt))))
        have HO6 := box (row_below HO5.out hb6)
        have HI6 := box (HOI.out.below hb6)
        obtain ⟨p0, p1, p2, p3, p4, p5, p6, pz⟩ := M6.out
        have M7 := box (M6.out.put (.int .i64 r6.d) (.slice r6.fa r6.fs.length r6.fc) (.bool r6.down) (.int .i64 r6.idx) (.int .i64 r6.now) (.slice la6 r6.fl.length lc6) (.int .i64 r6.lost))
        have X7 := box (put7_keep X6.out (.inl (.inr rfl)) (.int .i64 r6.d) (.slice r6.fa r6.fs.length r6.fc) (.bool r6.down) (.int .i64 r6.idx) (.int .i64 r6.now) (.slice la6 r6.fl.length lc6) (.int .i64 r6.lost))
        have F7 := box (put7_rf F6.out (.inr (.inr (.inl rfl))) (.int .i64 r6.d) (.slice r6.fa r6.fs.length r6.fc) (.bool r6.down) (.int .i64 r6.idx) (.int .i64 r6.now) (.slice la6 r6.fl.length lc6) (.int .i64 r6.lost))
        have B7 := box (put7_below B6.out HRB.out (.int .i64 r6.d) (.slice r6.fa r6.fs.length r6.fc) (.bool r6.down) (.int .i64 r6.idx) (.int .i64 r6.now) (.slice la6 r6.fl.length lc6) (.int .i64 r6.lost))
        have HBO := box (show ∀ q, (∃ p, oa = some p ∧ p.block = q) → q ≠ rb from fun q h => by have h1 := (HPO.out q h).1; have h2 := HEE.out rb (.inr (.inr rfl)); omega)
        have HO7 := box (row_same HO6.out (w' := put7 w6 rb (.int .i64 r6.d) (.slice r6.fa r6.fs.length r6.fc) (.bool r6.down) (.int .i64 r6.idx) (.int .i64 r6.now) (.slice la6 r6.fl.length lc6) (.int .i64 r6.lost)) (fun q hq => put7_heap _ _ _ _ _ _ _ _ _ q (HBO.out q (by cases oa with | none => cases hq | some p => exact ⟨p, rfl, Option.some.inj hq⟩))))
        have HI7 := box (in_same HI6.out (w' := put7 w6 rb (.int .i64 r6.d) (.slice r6.fa r6.fs.length r6.fc) (.bool r6.down) (.int .i64 r6.idx) (.int .i64 r6.now) (.slice la6 r6.fl.length lc6) (.int .i64 r6.lost)) (fun _ q hq => put7_heap _ _ _ _ _ _ _ _ _ q.block (HBO.out q.block ⟨q, hq, rfl⟩)))
        have Z6 := box (show ∀ q, ((q < B ∨ q = rb) ∨ ∃ p, oa = some p ∧ p.block = q) → q < (put7 w6 rb (.int .i64 r6.d) (.slice r6.fa r6.fs.length r6.fc) (.bool r6.down) (.int .i64 r6.idx) (.int .i64 r6.now) (.slice la6 r6.fl.length lc6) (.int .i64 r6.lost)).heap.size from fun q h => by
          have h1 : w6.heap.size ≤ (put7 w6 rb (.int .i64 r6.d) (.slice r6.fa r6.fs.length r6.fc) (.bool r6.down) (.int .i64 r6.idx) (.int .i64 r6.now) (.slice la6 r6.fl.length lc6) (.int .i64 r6.lost)).heap.size := (put7_below (B := 0) (Below.refl 0 w6) (Nat.zero_le _) (.int .i64 r6.d) (.slice r6.fa r6.fs.length r6.fc) (.bool r6.down) (.int .i64 r6.idx) (.int .i64 r6.now) (.slice la6 r6.fl.length lc6) (.int .i64 r6.lost)).size
          have h2 := hb6.size
          have h3 := K5.out.size
          rcases h with (h | h) | h
          · have := RU.out.x.hB; have := RU.out.x.lt; omega
          · have := HEE.out q (.inr (.inr h)); omega
          · have := (HPO.out q h).2; omega)
        clear hrr hrf hb6 RS
        go_upto_region 15 with fail
        clear p0 p1 p2 p3 p4 p5 p6 pz y1
        unfold put7 at M7 X7 F7 B7 HO7 HI7 Z6
        generalize (((((((w6.setCell ⟨rb, 0, none⟩ (.int .i64 r6.d)).setCell ⟨rb, 1, none⟩ (.slice r6.fa r6.fs.length r6.fc)).setCell ⟨rb, 2, none⟩ (.bool r6.down)).setCell ⟨rb, 3, none⟩ (.int .i64 r6.idx)).setCell ⟨rb, 4, none⟩ (.int .i64 r6.now)).setCell ⟨rb, 5, none⟩ (.slice la6 r6.fl.length lc6)).setCell ⟨rb, 6, none⟩ (.int .i64 r6.lost)) = w7 at M7 X7 F7 B7 HO7 HI7 Z6 ⊢
        have SD := box (send_any B (fun q => (q < B ∨ q = rb) ∨ ∃ p, oa = some p ∧ p.block = q) g v s w7 Z6.out X7.out oa xl oc data HXL.out HXO.out (by omega) HI7.out HON.out (fun _ q hq => .inr ⟨q, hq, rfl⟩) (by have := RU.out.b; omega) RU.out.b.1 (by have := RU.out.b; omega) (by have := RU.out.b; omega))
        go_wp2_with fail
        refine SD.out.mono ?_
        rintro e w8 ⟨v8, s8, code8, rfl, hr8, x8, st8⟩
        obtain ⟨hsim, hcode, hfa, hfc, hfs⟩ := RU.out.sim.send hr8 HRR.out
        subst hcode
        have SIM8 := box hsim
        have HFS := box (show r6.fa = rfa ∧ r6.fc = rfc ∧ r6.fs = rfs from ⟨hfa, hfc, hfs⟩)
        obtain ⟨j8, i8, hji, e1, e2, e3, e4, e5, _⟩ := sendR_counts hr8 RU.out.x.fll
        have BD8 := box (show s8.d ≤ 100 ∧ s8.time ≤ k + 1 ∧ s8.sent ≤ k + 1 ∧ s8.lost ≤ 64 * (k + 1) from by have := RU.out.b; rcases hji with h | h | h <;> omega)
        have X8 := box x8
        have M8 := box (M7.out.same (st8.apart.block rb M7.out.lt HGB.out.1 (fun e => HGB.out.2 e.symm)))
        have F8 := box (F7.out.steps (P := fun q => q = rb ∨ ∃ p, oa = some p ∧ p.block = q) st8)
        have HO8 := box (row_same HO7.out (fun q hq => st8.apart.block q (row_blk HO7.out q hq).2 (fun e => by
          have h1 : ∃ p, oa = some p ∧ p.block = q := by cases oa with | none => cases hq | some p => exact ⟨p, rfl, Option.some.inj hq⟩
          exact X7.out.gz (.inr (e ▸ h1))) (fun e => by
          have h1 : ∃ p, oa = some p ∧ p.block = q := by cases oa with | none => cases hq | some p => exact ⟨p, rfl, Option.some.inj hq⟩
          exact X7.out.vz q e.symm (.inr h1))))
        have B8 := box (X7.out.steps st8 B7.out)
        have bcode : (code != code) = false := by simp
        clear hr8 x8 st8 hsim hfa hfc hfs hji e1 e2 e3 e4 e5 SD
        go_wp2_with fail
        go_loopw [64] (fun t64 wr => ∃ (i : Nat) (zs : List Nat), i ≤ xl ∧ t64 = .int .i64 i ∧ Box (Own wa.heap.size wr (.slice oa xl oc) xl zs) ∧ Box (CabAt B (fun q => (q < B ∨ q = rb) ∨ ∃ p, oa = some p ∧ p.block = q) wr g v8 s8) ∧ Box (R7 wr rb (.int .i64 r6.d) (.slice r6.fa r6.fs.length r6.fc) (.bool r6.down) (.int .i64 r6.idx) (.int .i64 r6.now) (.slice la6 r6.fl.length lc6) (.int .i64 r6.lost)) ∧ Box (RfAt (fun q => q = g ∨ v8.ownBlock = some q ∨ (q = rb ∨ ∃ p, oa = some p ∧ p.block = q)) wr (.slice la6 r6.fl.length lc6) r6.fl) ∧ Box (Below B w2 wr)) (fun t64 _ => xl - (intOf t64).toNat)
        case atStart => exact ⟨0, data, by omega, rfl, HO8, X8, M8, F8, B8⟩
        case round =>
          obtain ⟨i, zs, hi, rfl, HOw, Xw, Mw, Fw, Bw⟩ := hrel
          by_cases hix : i < xl
          · obtain ⟨ob, hoo⟩ : ∃ ob, oa = some ⟨ob, 0, none⟩ := by
              rcases row_form HOw.out with ⟨_, h2, _⟩ | ⟨q, cap, h1, _⟩
              · omega
              · exact ⟨q, by injection h1⟩
            subst hoo
            have hzl : zs.length = xl := by have := HOw.out.1; simpa using this
            have c1 : wr.cell? ⟨ob, i, none⟩ = some (nU8 (zs.getD i 0)) := by
              rw [HOw.out.cellAt _ (by omega)]
              simp [List.getD_eq_getElem?_getD, List.getElem?_eq_getElem (show i < zs.length by omega)]
            have f1 := HOw.out.frozenAt i
            have HST := box (HOw.out.stored i (nU8 255)).1
            rw [← List.map_set] at HST
            have hob1 : wa.heap.size ≤ ob := (row_blk HOw.out ob rfl).1
            have hobb : B ≤ ob := Nat.le_trans (Nat.le_trans RU.out.x.hB (Nat.le_of_lt RU.out.x.lt)) hob1
            have hobr : rb ≠ ob := by have := HEE.out rb (.inr (.inr rfl)); omega
            have loq : ob < wr.heap.size := World.block_lt_of_cell? wr ⟨ob, i, none⟩ c1
            go_wp2_with fail
            go_roundw
            case rel => exact ⟨i + 1, zs.set i 255, by omega, by go_num, HST, box (Xw.out.same (fun q _ hq => heap_else (fun e => hq (.inr ⟨_, rfl, e⟩)) _)), box (Mw.out.same (heap_else (fun e => hobr e.symm) _)), box (Fw.out.same (fun q _ hq => heap_else (fun e => hq (.inr (.inr (.inr ⟨_, rfl, e⟩)))) _)), box (Bw.out.setCell (p := ⟨ob, i, none⟩) hobb _)⟩
            case measure => simp [intOf]; omega
          · obtain ⟨v9, s9, la9, lc9, r9, RT⟩ : ∃ v9 s9 la9 lc9 r9, Box (RunsAt B g rb rfa rfc rfs w2 wr (k + 1) v9 s9 la9 lc9 r9) := ⟨v8, s8, la6, lc6, r6, box ⟨Xw.out.zone (fun q _ h => .inl h), Mw.out, Fw.out.excl (fun q _ h => h.imp id (fun h => h.imp id .inl)), SIM8.out, BD8.out, HFS.out.1, HFS.out.2.1, HFS.out.2.2, Bw.out⟩⟩
            clear HO8 X8 M8 F8 B8 SIM8 BD8 HFS Xw Mw Fw Bw HOw X7 M7 F7 B7 HO7 HI7 Z6 HRR RU5 X5 F5 HO5 HO6 HI6 X6 M6 F6 B6 bcode
            have hlen := RT.out.sim.len
            obtain ⟨L, hL⟩ : ∃ L, s9.fl.length = L := ⟨_, rfl⟩
            rw [hL] at hlen
            have UP := box (up_any _ _ _ _ _ _ (RT.out.x.keep ((Below.refl _ _).drew)))
            have FLY := box (show Calls Try.prog 15 #[.pointer (some ⟨g, 0, none⟩)] wr.drew fun e w' => e = .returned (.int .i64 L) ∧ wr.drew = w' from by
              have h := flying_any _ _ _ _ _ _ (RT.out.x.keep ((Below.refl _ _).drew))
              rw [hL] at h
              exact h)
            have LOS := box (lost_any _ _ _ _ _ _ (RT.out.x.keep ((Below.refl _ _).drew)))
            have MQ := RT.out.m
            rw [RT.out.sim.up, RT.out.sim.lost, hlen] at MQ
            obtain ⟨p0, p1, p2, p3, p4, p5, p6, pz⟩ := MQ
            clear hlen hL
            generalize s9.up = u9 at UP p2
            generalize s9.lost = t9 at LOS p6
            go_wp2_with fail
            refine wp_region_held_drew (S := fun w' => w' = wr.drew) (by kernel_rfl) (rfl) (fun hHeld => ?_)
            refine wpAnyH_take (i := 0) (oi := { dst := some 94, op := Go.Op.move (Go.Operand.tmp 7), type := 24, pos := "law.go:92", after := #[], guard := none }) (v := ?_) rfl (by kernel_rfl) (by kernel_rfl) (by kernel_rfl) (fun _ _ _ h => h) (Or.inl ⟨by rfl, ?_⟩) (by assumption) ?_
            rotate_left
            · (intro w hSw; (try dsimp only at hSw); subst hSw; go_simp; (try with_reducible rfl))
            simp only [Act.put, List.setIfInBounds_toArray, List.set_cons_zero, List.set_cons_succ]
            refine wpAnyH_take (i := 2) (oi := { dst := some 96, op := Go.Op.fieldAddr 35 (Go.Operand.tmp 9) 2, type := 0, pos := "law.go:92", after := #[], guard := none }) (v := ?_) rfl (by kernel_rfl) (by kernel_rfl) (by kernel_rfl) (fun _ _ _ h => h) (Or.inl ⟨by rfl, ?_⟩) (by assumption) ?_
            rotate_left
            · (intro w hSw; (try dsimp only at hSw); subst hSw; go_simp; (try with_reducible rfl))
            simp only [Act.put, List.setIfInBounds_toArray, List.set_cons_zero, List.set_cons_succ]
            refine wpAnyH_take (i := 3) (oi := { dst := some 97, op := Go.Op.load 4 (Go.Operand.tmp 96), type := 4, pos := "law.go:92", after := #[{ on := 2, ground := Go.Ground.data }], guard := none }) (v := ?_) rfl (by kernel_rfl) (by kernel_rfl) (by kernel_rfl) (fun _ _ _ h => h) (Or.inl ⟨by rfl, ?_⟩) (by assumption) ?_
            rotate_left
            · (intro w hSw; (try dsimp only at hSw); subst hSw; go_simp; (try with_reducible rfl))
            simp only [Act.put, List.setIfInBounds_toArray, List.set_cons_zero, List.set_cons_succ]
            refine wpAnyH_take (i := 4) (oi := { dst := some 98, op := Go.Op.unOp Go.UnOp.not 4 (Go.Operand.tmp 97), type := 4, pos := "law.go:92", after := #[{ on := 3, ground := Go.Ground.data }], guard := none }) (v := ?_) rfl (by kernel_rfl) (by kernel_rfl) (by kernel_rfl) (fun _ _ _ h => h) (Or.inl ⟨by rfl, ?_⟩) (by assumption) ?_
            rotate_left
            · (intro w hSw; (try dsimp only at hSw); subst hSw; go_simp; (try with_reducible rfl))
            simp only [Act.put, List.setIfInBounds_toArray, List.set_cons_zero, List.set_cons_succ]
            refine wpAnyH_ready (rs := [1]) (by kernel_rfl) (by simp) ?_
            refine (AllReadyH.cons (o := { dst := some 95, op := Go.Op.call { callee := Go.Callee.value (Go.Operand.func 14), args := #[Go.Operand.tmp 94], argTypes := #[24] }, type := 4, pos := "law.go:92", after := #[{ on := 0, ground := Go.Ground.data }], guard := none }) rfl (fun K hK => ?_) AllReadyH.nil)
            go_simp
            refine UP.out.mono ?_
            rintro e wq1 ⟨rfl, hq1⟩
            subst hq1
            refine hK.out _ _ (rfl) (fun hHeld1 => ?_)
            clear hK K
            refine wpAnyH_take (i := 5) (oi := { dst := some 99, op := Go.Op.binOp Go.BinOp.neq 4 (Go.Operand.tmp 95) (Go.Operand.tmp 98) 4, type := 4, pos := "law.go:92", after := #[{ on := 1, ground := Go.Ground.data }, { on := 4, ground := Go.Ground.data }], guard := none }) (v := ?_) rfl (by kernel_rfl) (by kernel_rfl) (by kernel_rfl) (fun _ _ _ h => h) (Or.inl ⟨by rfl, ?_⟩) (by assumption) ?_
            rotate_left
            · (intro w hSw; (try dsimp only at hSw); subst hSw; go_simp; (try with_reducible rfl))
            simp only [Act.put, List.setIfInBounds_toArray, List.set_cons_zero, List.set_cons_succ]
            refine wpAnyH_take (i := 6) (oi := { dst := some 100, op := Go.Op.move (Go.Operand.tmp 99), type := 4, pos := "law.go:92", after := #[{ on := 5, ground := Go.Ground.data }, { on := 1, ground := Go.Ground.chain }], guard := none }) (v := ?_) rfl (by kernel_rfl) (by kernel_rfl) (by kernel_rfl) (fun _ _ _ h => h) (Or.inl ⟨by rfl, ?_⟩) (by assumption) ?_
            rotate_left
            · (intro w hSw; (try dsimp only at hSw); subst hSw; go_simp; (try with_reducible rfl))
            simp only [Act.put, List.setIfInBounds_toArray, List.set_cons_zero, List.set_cons_succ]
            refine wpAnyH_take (i := 7) (oi := { dst := some 101, op := Go.Op.move (Go.Operand.tmp 7), type := 24, pos := "law.go:92", after := #[{ on := 6, ground := Go.Ground.guard }], guard := some (6, false) }) (v := ?_) rfl (by kernel_rfl) (by kernel_rfl) (by kernel_rfl) (fun _ _ _ h => h) (Or.inl ⟨by rfl, ?_⟩) (by assumption) ?_
            rotate_left
            · (intro w hSw; (try dsimp only at hSw); subst hSw; go_simp; (try with_reducible rfl))
            simp only [Act.put, List.setIfInBounds_toArray, List.set_cons_zero, List.set_cons_succ]
            refine wpAnyH_take (i := 9) (oi := { dst := some 103, op := Go.Op.fieldAddr 35 (Go.Operand.tmp 9) 5, type := 0, pos := "law.go:92", after := #[{ on := 6, ground := Go.Ground.guard }], guard := some (6, false) }) (v := ?_) rfl (by kernel_rfl) (by kernel_rfl) (by kernel_rfl) (fun _ _ _ h => h) (Or.inl ⟨by rfl, ?_⟩) (by assumption) ?_
            rotate_left
            · (intro w hSw; (try dsimp only at hSw); subst hSw; go_simp; (try with_reducible rfl))
            simp only [Act.put, List.setIfInBounds_toArray, List.set_cons_zero, List.set_cons_succ]
            refine wpAnyH_take (i := 10) (oi := { dst := some 104, op := Go.Op.load 33 (Go.Operand.tmp 103), type := 33, pos := "law.go:92", after := #[{ on := 9, ground := Go.Ground.data }, { on := 6, ground := Go.Ground.guard }], guard := some (6, false) }) (v := ?_) rfl (by kernel_rfl) (by kernel_rfl) (by kernel_rfl) (fun _ _ _ h => h) (Or.inl ⟨by rfl, ?_⟩) (by assumption) ?_
            rotate_left
            · (intro w hSw; (try dsimp only at hSw); subst hSw; go_simp; (try with_reducible rfl))
            simp only [Act.put, List.setIfInBounds_toArray, List.set_cons_zero, List.set_cons_succ]
            refine wpAnyH_take (i := 11) (oi := { dst := some 105, op := Go.Op.call { callee := Go.Callee.builtin Go.Builtin.len, args := #[Go.Operand.tmp 104], argTypes := #[33] }, type := 3, pos := "law.go:92", after := #[{ on := 10, ground := Go.Ground.data }, { on := 6, ground := Go.Ground.guard }], guard := some (6, false) }) (v := ?_) rfl (by kernel_rfl) (by kernel_rfl) (by kernel_rfl) (fun _ _ _ h => h) (Or.inl ⟨by rfl, ?_⟩) (by assumption) ?_
            rotate_left
            · (intro w hSw; (try dsimp only at hSw); subst hSw; go_simp; (try with_reducible rfl))
            simp only [Act.put, List.setIfInBounds_toArray, List.set_cons_zero, List.set_cons_succ]
            refine wpAnyH_ready (rs := [8]) (by kernel_rfl) (by simp) ?_
            refine (AllReadyH.cons (o := { dst := some 102, op := Go.Op.call { callee := Go.Callee.value (Go.Operand.func 15), args := #[Go.Operand.tmp 101], argTypes := #[24] }, type := 3, pos := "law.go:92", after := #[{ on := 7, ground := Go.Ground.data }, { on := 6, ground := Go.Ground.chain }, { on := 6, ground := Go.Ground.guard }], guard := some (6, false) }) rfl (fun K hK => ?_) AllReadyH.nil)
            go_simp
            refine FLY.out.mono ?_
            rintro e wq2 ⟨rfl, hq2⟩
            subst hq2
            refine hK.out _ _ (rfl) (fun hHeld2 => ?_)
            clear hK K
            refine wpAnyH_take (i := 12) (oi := { dst := some 106, op := Go.Op.binOp Go.BinOp.neq 3 (Go.Operand.tmp 102) (Go.Operand.tmp 105) 3, type := 4, pos := "law.go:92", after := #[{ on := 8, ground := Go.Ground.data }, { on := 11, ground := Go.Ground.data }, { on := 6, ground := Go.Ground.guard }], guard := some (6, false) }) (v := ?_) rfl (by kernel_rfl) (by kernel_rfl) (by kernel_rfl) (fun _ _ _ h => h) (Or.inl ⟨by rfl, ?_⟩) (by assumption) ?_
            rotate_left
            · (intro w hSw; (try dsimp only at hSw); subst hSw; go_simp; (try with_reducible rfl))
            simp only [Act.put, List.setIfInBounds_toArray, List.set_cons_zero, List.set_cons_succ]
            refine wpAnyH_take (i := 13) (oi := { dst := some 107, op := Go.Op.pick (Go.Operand.tmp 100) (Go.Operand.const (Go.Value.bool true)) (Go.Operand.tmp 106), type := 4, pos := "law.go:92", after := #[{ on := 6, ground := Go.Ground.data }, { on := 12, ground := Go.Ground.data }], guard := none }) (v := ?_) rfl (by kernel_rfl) (by kernel_rfl) (by kernel_rfl) (fun _ _ _ h => h) (Or.inl ⟨by rfl, ?_⟩) (by assumption) ?_
            rotate_left
            · (intro w hSw; (try dsimp only at hSw); subst hSw; go_simp; (try with_reducible rfl))
            simp only [Act.put, List.setIfInBounds_toArray, List.set_cons_zero, List.set_cons_succ]
            refine wpAnyH_take (i := 14) (oi := { dst := some 108, op := Go.Op.move (Go.Operand.tmp 107), type := 4, pos := "law.go:92", after := #[{ on := 13, ground := Go.Ground.data }, { on := 8, ground := Go.Ground.chain }], guard := none }) (v := ?_) rfl (by kernel_rfl) (by kernel_rfl) (by kernel_rfl) (fun _ _ _ h => h) (Or.inl ⟨by rfl, ?_⟩) (by assumption) ?_
            rotate_left
            · (intro w hSw; (try dsimp only at hSw); subst hSw; go_simp; (try with_reducible rfl))
            simp only [Act.put, List.setIfInBounds_toArray, List.set_cons_zero, List.set_cons_succ]
            refine wpAnyH_take (i := 15) (oi := { dst := some 109, op := Go.Op.move (Go.Operand.tmp 7), type := 24, pos := "law.go:92", after := #[{ on := 14, ground := Go.Ground.guard }], guard := some (14, false) }) (v := ?_) rfl (by kernel_rfl) (by kernel_rfl) (by kernel_rfl) (fun _ _ _ h => h) (Or.inl ⟨by rfl, ?_⟩) (by assumption) ?_
            rotate_left
            · (intro w hSw; (try dsimp only at hSw); subst hSw; go_simp; (try with_reducible rfl))
            simp only [Act.put, List.setIfInBounds_toArray, List.set_cons_zero, List.set_cons_succ]
            refine wpAnyH_take (i := 17) (oi := { dst := some 111, op := Go.Op.fieldAddr 35 (Go.Operand.tmp 9) 6, type := 0, pos := "law.go:92", after := #[{ on := 14, ground := Go.Ground.guard }], guard := some (14, false) }) (v := ?_) rfl (by kernel_rfl) (by kernel_rfl) (by kernel_rfl) (fun _ _ _ h => h) (Or.inl ⟨by rfl, ?_⟩) (by assumption) ?_
            rotate_left
            · (intro w hSw; (try dsimp only at hSw); subst hSw; go_simp; (try with_reducible rfl))
            simp only [Act.put, List.setIfInBounds_toArray, List.set_cons_zero, List.set_cons_succ]
            refine wpAnyH_take (i := 18) (oi := { dst := some 112, op := Go.Op.load 3 (Go.Operand.tmp 111), type := 3, pos := "law.go:92", after := #[{ on := 17, ground := Go.Ground.data }, { on := 14, ground := Go.Ground.guard }], guard := some (14, false) }) (v := ?_) rfl (by kernel_rfl) (by kernel_rfl) (by kernel_rfl) (fun _ _ _ h => h) (Or.inl ⟨by rfl, ?_⟩) (by assumption) ?_
            rotate_left
            · (intro w hSw; (try dsimp only at hSw); subst hSw; go_simp; (try with_reducible rfl))
            simp only [Act.put, List.setIfInBounds_toArray, List.set_cons_zero, List.set_cons_succ]
            refine wpAnyH_ready (rs := [16]) (by kernel_rfl) (by simp) ?_
            refine (AllReadyH.cons (o := { dst := some 110, op := Go.Op.call { callee := Go.Callee.value (Go.Operand.func 16), args := #[Go.Operand.tmp 109], argTypes := #[24] }, type := 3, pos := "law.go:92", after := #[{ on := 15, ground := Go.Ground.data }, { on := 14, ground := Go.Ground.chain }, { on := 14, ground := Go.Ground.guard }], guard := some (14, false) }) rfl (fun K hK => ?_) AllReadyH.nil)
            go_simp
            refine LOS.out.mono ?_
            rintro e wq3 ⟨rfl, hq3⟩
            subst hq3
            refine hK.out _ _ (rfl) (fun hHeld3 => ?_)
            clear hK K
            refine wpAnyH_take (i := 19) (oi := { dst := some 113, op := Go.Op.binOp Go.BinOp.neq 3 (Go.Operand.tmp 110) (Go.Operand.tmp 112) 3, type := 4, pos := "law.go:92", after := #[{ on := 16, ground := Go.Ground.data }, { on := 18, ground := Go.Ground.data }, { on := 14, ground := Go.Ground.guard }], guard := some (14, false) }) (v := ?_) rfl (by kernel_rfl) (by kernel_rfl) (by kernel_rfl) (fun _ _ _ h => h) (Or.inl ⟨by rfl, ?_⟩) (by assumption) ?_
            rotate_left
            · (intro w hSw; (try dsimp only at hSw); subst hSw; go_simp; (try with_reducible rfl))
            simp only [Act.put, List.setIfInBounds_toArray, List.set_cons_zero, List.set_cons_succ]
            refine wpAnyH_take (i := 20) (oi := { dst := some 114, op := Go.Op.pick (Go.Operand.tmp 108) (Go.Operand.const (Go.Value.bool true)) (Go.Operand.tmp 113), type := 4, pos := "law.go:92", after := #[{ on := 14, ground := Go.Ground.data }, { on := 19, ground := Go.Ground.data }], guard := none }) (v := ?_) rfl (by kernel_rfl) (by kernel_rfl) (by kernel_rfl) (fun _ _ _ h => h) (Or.inl ⟨by rfl, ?_⟩) (by assumption) ?_
            rotate_left
            · (intro w hSw; (try dsimp only at hSw); subst hSw; go_simp; (try with_reducible rfl))
            simp only [Act.put, List.setIfInBounds_toArray, List.set_cons_zero, List.set_cons_succ]
            refine wpAnyH_done (by kernel_rfl) ?_ _
            clear p0 p1 p2 p3 p4 p5 p6 pz
            go_wp2_with fail
            go_roundw
            case rel => exact ⟨k + 1, v9, s9, la9, lc9, r9, by omega, by go_num, box (RT.out.keep ((Below.refl _ _).drew))⟩
            case measure => simp [intOf]; omega
      have d0 : (kd == 0) = false := by simp [h0]
      by_cases h1 : kd = 1
      · have d1 : (kd == 1) = true := by simp [h1]
        clear h0 h1
        have RTK := box (show Calls Try.prog 20 #[.agg #[.int .i64 rd, .slice rfa n rfc, .bool rdn, .int .i64 rix, .int .i64 rnw, .slice la rl.length lc, .int .i64 rls]] wa _ from by
          have h := rtick_any _ la lc ⟨rd, rfa, rfc, rfs, rdn, rix, rnw, rl, rls⟩ wa HEE.out RU.out.f (by have := HBD.out; show rnw < 1000000; omega) HRL.out
          simp only [rcV, hn] at h
          exact h)
        obtain ⟨p0, p1, p2, p3, p4, p5, p6, pz⟩ := RU.out.m
        simp only at p0 p1 p2 p3 p4 p5 p6
        rw [hn] at p1
        go_wp2_with fail
        refine RTK.out.mono ?_
        rintro e w6 ⟨la6, lc6, oa, oc, rfl, hrf, hout, hsy, hb6⟩
        obtain ⟨hsim, hxs, hln⟩ := RU.out.sim.tick
        have hxs : (rl.filter (fun f => f.t == rnw + 1)).map Fl.xs = (s.fl.take (due s.fl (s.time + 1))).map Fl.xs := hxs
        have hln : (rl.filter (fun f => f.t == rnw + 1)).length = due s.fl (s.time + 1) := hln
        have hout : w6.ownsRow wa.heap.size 36 1 (.slice oa (rl.filter (fun f => f.t == rnw + 1)).length oc) (rl.filter (fun f => f.t == rnw + 1)).length ((rl.filter (fun f => f.t == rnw + 1)).map slV) := hout
        have hrf : RfAt (fun q => q = g ∨ v.ownBlock = some q ∨ q = rb) w6 (.slice la6 (rl.filter (fun f => f.t != rnw + 1)).length lc6) (rl.filter (fun f => f.t != rnw + 1)) := hrf
        have hsy : ∀ f ∈ rl, SymIn (fun q => q = g ∨ v.ownBlock = some q ∨ q = rb) w6 f.a f.c f.xs := hsy
        obtain ⟨LF, hLF⟩ : ∃ LF, rl.filter (fun f => f.t == rnw + 1) = LF := ⟨_, rfl⟩
        have HLS := box (show ∀ f ∈ LF, SymIn (fun q => q = g ∨ v.ownBlock = some q ∨ q = rb) w6 f.a f.c f.xs from fun f hf => hsy f (by rw [← hLF] at hf; exact (List.mem_filter.1 hf).1))
        have SIM8 := box hsim
        rw [hLF] at hxs hln hout
        have HXS := box hxs
        rw [hln] at hout
        have HOUT := box hout
        have F6 := box hrf
        have HLN : (rl.filter (fun f => f.t == rnw + 1)).length = due s.fl (s.time + 1) := by rw [hLF]; exact hln
        obtain ⟨K, hK⟩ : ∃ K, due s.fl (s.time + 1) = K := ⟨_, rfl⟩
        obtain ⟨L2, hL2⟩ : ∃ L2, (rl.filter (fun f => f.t != rnw + 1)) = L2 := ⟨_, rfl⟩
        rw [hK] at HLN HOUT
        have HL2 := box hL2
        rw [hL2] at F6
        have HKE := box hK
        have HLFE := box hLF
        have X6 := box (RU.out.x.keep hb6)
        have M6 := box (RU.out.m.keep hb6)
        have B6 := box (RU.out.bel.trans (hb6.mono (Nat.le_trans RU.out.x.hB (Nat.le_of_lt RU.out.x.lt))))
        obtain ⟨p0, p1, p2, p3, p4, p5, p6, pz⟩ := M6.out
        have M7 := box (M6.out.put (.int .i64 rd) (.slice rfa n rfc) (.bool rdn) (.int .i64 rix) (.int .i64 ((rnw : Int) + 1)) (.slice la6 L2.length lc6) (.int .i64 rls))
        have X7 := box (put7_keep X6.out (.inr rfl) (.int .i64 rd) (.slice rfa n rfc) (.bool rdn) (.int .i64 rix) (.int .i64 ((rnw : Int) + 1)) (.slice la6 L2.length lc6) (.int .i64 rls))
        have F7 := box (put7_rf F6.out (.inr (.inr rfl)) (.int .i64 rd) (.slice rfa n rfc) (.bool rdn) (.int .i64 rix) (.int .i64 ((rnw : Int) + 1)) (.slice la6 L2.length lc6) (.int .i64 rls))
        have B7 := box (put7_below B6.out HRB.out (.int .i64 rd) (.slice rfa n rfc) (.bool rdn) (.int .i64 rix) (.int .i64 ((rnw : Int) + 1)) (.slice la6 L2.length lc6) (.int .i64 rls))
        have O7 := box (row_same HOUT.out (w' := put7 w6 rb (.int .i64 rd) (.slice rfa n rfc) (.bool rdn) (.int .i64 rix) (.int .i64 ((rnw : Int) + 1)) (.slice la6 L2.length lc6) (.int .i64 rls)) (fun q hq => put7_heap _ _ _ _ _ _ _ _ _ q (fun e => by have h1 := (row_blk HOUT.out q hq).1; have h2 := HEE.out rb (.inr (.inr rfl)); omega)))
        have S7 := box (show ∀ f ∈ LF, SymIn (fun q => q = g ∨ v.ownBlock = some q ∨ q = rb) (put7 w6 rb (.int .i64 rd) (.slice rfa n rfc) (.bool rdn) (.int .i64 rix) (.int .i64 ((rnw : Int) + 1)) (.slice la6 L2.length lc6) (.int .i64 rls)) f.a f.c f.xs from fun f hf => (HLS.out f hf).keep (fun q _ he => put7_heap _ _ _ _ _ _ _ _ _ q (fun e => he (.inr (.inr e)))))
        clear hsim hxs hln hout hrf hsy hb6 RTK hLF hK HLS
        go_upto_region 25 with fail
        first | rw [HLN] | rw [HKE.out]
        clear p0 p1 p2 p3 p4 p5 p6 pz hL2
        unfold put7 at M7 X7 F7 B7 O7 S7
        generalize (((((((w6.setCell ⟨rb, 0, none⟩ (.int .i64 rd)).setCell ⟨rb, 1, none⟩ (.slice rfa n rfc)).setCell ⟨rb, 2, none⟩ (.bool rdn)).setCell ⟨rb, 3, none⟩ (.int .i64 rix)).setCell ⟨rb, 4, none⟩ (.int .i64 ((rnw : Int) + 1))).setCell ⟨rb, 5, none⟩ (.slice la6 L2.length lc6)).setCell ⟨rb, 6, none⟩ (.int .i64 rls)) = w7 at M7 X7 F7 B7 O7 S7 ⊢
        have TK := tick_any B (fun q => q < B ∨ q = rb) g v s w7 X7.out (by have := RU.out.b; omega)
        simp only [HKE.out] at TK
        have TK2 := box TK
        clear TK
        go_wp2_with fail
        refine TK2.out.mono ?_
        rintro e w8 ⟨v8, ra, rc, rfl, hrow, x8, st8, hown, hsym⟩
        have HKS := box (show ((s.fl.take K).map Fl.xs).length = K from by rw [List.length_map, List.length_take]; have := due_le s.fl (s.time + 1); rw [HKE.out] at this; omega)
        have BA := box (bs_of_rows hrow (fun f hf => ⟨(hsym f (List.mem_of_mem_take hf)).inn, (hsym f (List.mem_of_mem_take hf)).nil⟩))
        have O8 := box (row_same O7.out (fun q hq => st8.apart.block q (row_blk O7.out q hq).2 (fun e => by have h1 := (row_blk O7.out q hq).1; have h2 := HEE.out g (.inl rfl); omega) (fun e => by have h1 := (row_blk O7.out q hq).1; have h2 := HEE.out q (.inr (.inl e.symm)); omega)))
        have BB := box (bs_of_rows O8.out (fun f hf => ⟨((S7.out f hf).keep (fun q hq he => st8.apart.block q hq (fun e => he (.inl e)) (fun e => he (.inr (.inl e.symm))))).inn, (S7.out f hf).nil⟩))
        rw [HXS.out, HKE.out] at BB
        have SM := box (same_any ra oa K rc oc ((s.fl.take K).map Fl.xs) HKS.out (by have := HKS.out; have := due_le s.fl (s.time + 1); rw [HKE.out] at this; have := RU.out.x.fll; omega) w8 BA.out BB.out)
        have X8 := box x8
        have M8 := box (M7.out.same (st8.apart.block rb M7.out.lt HGB.out.1 (fun e => HGB.out.2 e.symm)))
        have F8 := box (F7.out.steps (P := fun q => q = rb) st8)
        have B8 := box (X7.out.steps st8 B7.out)
        clear hrow x8 st8 hown hsym TK2
        go_wp2_with fail
        refine SM.out.mono ?_
        rintro e w10 ⟨rfl, hb10⟩
        obtain ⟨v9, s9, la9, lc9, r9, RT⟩ : ∃ v9 s9 la9 lc9 r9, Box (RunsAt B g rb rfa rfc rfs w2 w10 (k + 1) v9 s9 la9 lc9 r9) := by
          have hs := SIM8.out
          rw [HKE.out] at hs
          have e2 : ({ d := rd, fa := rfa, fc := rfc, fs := rfs, down := rdn, idx := rix, now := rnw, fl := rl, lost := rls } : Rc).fl.filter (fun f => f.t != ({ d := rd, fa := rfa, fc := rfc, fs := rfs, down := rdn, idx := rix, now := rnw, fl := rl, lost := rls } : Rc).now + 1) = L2 := HL2.out
          rw [e2] at hs
          exact ⟨v8, _, la6, lc6, ⟨rd, rfa, rfc, rfs, rdn, rix, rnw + 1, L2, rls⟩, box ((show RunsAt B g rb rfa rfc rfs w2 w8 (k + 1) v8 ⟨s.d, s.fa, s.fc, s.fs, s.up, s.time + 1, s.sent, s.fl.drop K, s.lost⟩ la6 lc6 ⟨rd, rfa, rfc, rfs, rdn, rix, rnw + 1, L2, rls⟩ from ⟨X8.out, by have h := M8.out; simp only [hn]; exact h, F8.out, hs, (by have h := RU.out.b; show s.d ≤ 100 ∧ s.time + 1 ≤ k + 1 ∧ s.sent ≤ k + 1 ∧ s.lost ≤ 64 * (k + 1); omega), rfl, rfl, rfl, B8.out⟩).keep hb10)⟩
        clear SIM8 HXS HOUT F6 X6 M6 B6 M7 X7 F7 B7 O7 S7 BA O8 BB SM X8 M8 F8 B8 HKS HKE HLFE HL2
        have hlen := RT.out.sim.len
        obtain ⟨L, hL⟩ : ∃ L, s9.fl.length = L := ⟨_, rfl⟩
        rw [hL] at hlen
        have UP := box (up_any _ _ _ _ _ _ (RT.out.x.keep ((Below.refl _ _).drew)))
        have FLY := box (show Calls Try.prog 15 #[.pointer (some ⟨g, 0, none⟩)] w10.drew fun e w' => e = .returned (.int .i64 L) ∧ w10.drew = w' from by
          have h := flying_any _ _ _ _ _ _ (RT.out.x.keep ((Below.refl _ _).drew))
          rw [hL] at h
          exact h)
        have LOS := box (lost_any _ _ _ _ _ _ (RT.out.x.keep ((Below.refl _ _).drew)))
        have MQ := RT.out.m
        rw [RT.out.sim.up, RT.out.sim.lost, hlen] at MQ
        obtain ⟨p0, p1, p2, p3, p4, p5, p6, pz⟩ := MQ
        clear hlen hL
        generalize s9.up = u9 at UP p2
        generalize s9.lost = t9 at LOS p6
        go_wp2_with fail
        refine wp_region_held_drew (S := fun w' => w' = w10.drew) (by kernel_rfl) (rfl) (fun hHeld => ?_)
        refine wpAnyH_take (i := 0) (oi := { dst := some 94, op := Go.Op.move (Go.Operand.tmp 7), type := 24, pos := "law.go:92", after := #[], guard := none }) (v := ?_) rfl (by kernel_rfl) (by kernel_rfl) (by kernel_rfl) (fun _ _ _ h => h) (Or.inl ⟨by rfl, ?_⟩) (by assumption) ?_
        rotate_left
        · (intro w hSw; (try dsimp only at hSw); subst hSw; go_simp; (try with_reducible rfl))
        simp only [Act.put, List.setIfInBounds_toArray, List.set_cons_zero, List.set_cons_succ]
        refine wpAnyH_take (i := 2) (oi := { dst := some 96, op := Go.Op.fieldAddr 35 (Go.Operand.tmp 9) 2, type := 0, pos := "law.go:92", after := #[], guard := none }) (v := ?_) rfl (by kernel_rfl) (by kernel_rfl) (by kernel_rfl) (fun _ _ _ h => h) (Or.inl ⟨by rfl, ?_⟩) (by assumption) ?_
        rotate_left
        · (intro w hSw; (try dsimp only at hSw); subst hSw; go_simp; (try with_reducible rfl))
        simp only [Act.put, List.setIfInBounds_toArray, List.set_cons_zero, List.set_cons_succ]
        refine wpAnyH_take (i := 3) (oi := { dst := some 97, op := Go.Op.load 4 (Go.Operand.tmp 96), type := 4, pos := "law.go:92", after := #[{ on := 2, ground := Go.Ground.data }], guard := none }) (v := ?_) rfl (by kernel_rfl) (by kernel_rfl) (by kernel_rfl) (fun _ _ _ h => h) (Or.inl ⟨by rfl, ?_⟩) (by assumption) ?_
        rotate_left
        · (intro w hSw; (try dsimp only at hSw); subst hSw; go_simp; (try with_reducible rfl))
        simp only [Act.put, List.setIfInBounds_toArray, List.set_cons_zero, List.set_cons_succ]
        refine wpAnyH_take (i := 4) (oi := { dst := some 98, op := Go.Op.unOp Go.UnOp.not 4 (Go.Operand.tmp 97), type := 4, pos := "law.go:92", after := #[{ on := 3, ground := Go.Ground.data }], guard := none }) (v := ?_) rfl (by kernel_rfl) (by kernel_rfl) (by kernel_rfl) (fun _ _ _ h => h) (Or.inl ⟨by rfl, ?_⟩) (by assumption) ?_
        rotate_left
        · (intro w hSw; (try dsimp only at hSw); subst hSw; go_simp; (try with_reducible rfl))
        simp only [Act.put, List.setIfInBounds_toArray, List.set_cons_zero, List.set_cons_succ]
        refine wpAnyH_ready (rs := [1]) (by kernel_rfl) (by simp) ?_
        refine (AllReadyH.cons (o := { dst := some 95, op := Go.Op.call { callee := Go.Callee.value (Go.Operand.func 14), args := #[Go.Operand.tmp 94], argTypes := #[24] }, type := 4, pos := "law.go:92", after := #[{ on := 0, ground := Go.Ground.data }], guard := none }) rfl (fun K hK => ?_) AllReadyH.nil)
        go_simp
        refine UP.out.mono ?_
        rintro e wq1 ⟨rfl, hq1⟩
        subst hq1
        refine hK.out _ _ (rfl) (fun hHeld1 => ?_)
        clear hK K
        refine wpAnyH_take (i := 5) (oi := { dst := some 99, op := Go.Op.binOp Go.BinOp.neq 4 (Go.Operand.tmp 95) (Go.Operand.tmp 98) 4, type := 4, pos := "law.go:92", after := #[{ on := 1, ground := Go.Ground.data }, { on := 4, ground := Go.Ground.data }], guard := none }) (v := ?_) rfl (by kernel_rfl) (by kernel_rfl) (by kernel_rfl) (fun _ _ _ h => h) (Or.inl ⟨by rfl, ?_⟩) (by assumption) ?_
        rotate_left
        · (intro w hSw; (try dsimp only at hSw); subst hSw; go_simp; (try with_reducible rfl))
        simp only [Act.put, List.setIfInBounds_toArray, List.set_cons_zero, List.set_cons_succ]
        refine wpAnyH_take (i := 6) (oi := { dst := some 100, op := Go.Op.move (Go.Operand.tmp 99), type := 4, pos := "law.go:92", after := #[{ on := 5, ground := Go.Ground.data }, { on := 1, ground := Go.Ground.chain }], guard := none }) (v := ?_) rfl (by kernel_rfl) (by kernel_rfl) (by kernel_rfl) (fun _ _ _ h => h) (Or.inl ⟨by rfl, ?_⟩) (by assumption) ?_
        rotate_left
        · (intro w hSw; (try dsimp only at hSw); subst hSw; go_simp; (try with_reducible rfl))
        simp only [Act.put, List.setIfInBounds_toArray, List.set_cons_zero, List.set_cons_succ]
        refine wpAnyH_take (i := 7) (oi := { dst := some 101, op := Go.Op.move (Go.Operand.tmp 7), type := 24, pos := "law.go:92", after := #[{ on := 6, ground := Go.Ground.guard }], guard := some (6, false) }) (v := ?_) rfl (by kernel_rfl) (by kernel_rfl) (by kernel_rfl) (fun _ _ _ h => h) (Or.inl ⟨by rfl, ?_⟩) (by assumption) ?_
        rotate_left
        · (intro w hSw; (try dsimp only at hSw); subst hSw; go_simp; (try with_reducible rfl))
        simp only [Act.put, List.setIfInBounds_toArray, List.set_cons_zero, List.set_cons_succ]
        refine wpAnyH_take (i := 9) (oi := { dst := some 103, op := Go.Op.fieldAddr 35 (Go.Operand.tmp 9) 5, type := 0, pos := "law.go:92", after := #[{ on := 6, ground := Go.Ground.guard }], guard := some (6, false) }) (v := ?_) rfl (by kernel_rfl) (by kernel_rfl) (by kernel_rfl) (fun _ _ _ h => h) (Or.inl ⟨by rfl, ?_⟩) (by assumption) ?_
        rotate_left
        · (intro w hSw; (try dsimp only at hSw); subst hSw; go_simp; (try with_reducible rfl))
        simp only [Act.put, List.setIfInBounds_toArray, List.set_cons_zero, List.set_cons_succ]
        refine wpAnyH_take (i := 10) (oi := { dst := some 104, op := Go.Op.load 33 (Go.Operand.tmp 103), type := 33, pos := "law.go:92", after := #[{ on := 9, ground := Go.Ground.data }, { on := 6, ground := Go.Ground.guard }], guard := some (6, false) }) (v := ?_) rfl (by kernel_rfl) (by kernel_rfl) (by kernel_rfl) (fun _ _ _ h => h) (Or.inl ⟨by rfl, ?_⟩) (by assumption) ?_
        rotate_left
        · (intro w hSw; (try dsimp only at hSw); subst hSw; go_simp; (try with_reducible rfl))
        simp only [Act.put, List.setIfInBounds_toArray, List.set_cons_zero, List.set_cons_succ]
        refine wpAnyH_take (i := 11) (oi := { dst := some 105, op := Go.Op.call { callee := Go.Callee.builtin Go.Builtin.len, args := #[Go.Operand.tmp 104], argTypes := #[33] }, type := 3, pos := "law.go:92", after := #[{ on := 10, ground := Go.Ground.data }, { on := 6, ground := Go.Ground.guard }], guard := some (6, false) }) (v := ?_) rfl (by kernel_rfl) (by kernel_rfl) (by kernel_rfl) (fun _ _ _ h => h) (Or.inl ⟨by rfl, ?_⟩) (by assumption) ?_
        rotate_left
        · (intro w hSw; (try dsimp only at hSw); subst hSw; go_simp; (try with_reducible rfl))
        simp only [Act.put, List.setIfInBounds_toArray, List.set_cons_zero, List.set_cons_succ]
        refine wpAnyH_ready (rs := [8]) (by kernel_rfl) (by simp) ?_
        refine (AllReadyH.cons (o := { dst := some 102, op := Go.Op.call { callee := Go.Callee.value (Go.Operand.func 15), args := #[Go.Operand.tmp 101], argTypes := #[24] }, type := 3, pos := "law.go:92", after := #[{ on := 7, ground := Go.Ground.data }, { on := 6, ground := Go.Ground.chain }, { on := 6, ground := Go.Ground.guard }], guard := some (6, false) }) rfl (fun K hK => ?_) AllReadyH.nil)
        go_simp
        refine FLY.out.mono ?_
        rintro e wq2 ⟨rfl, hq2⟩
        subst hq2
        refine hK.out _ _ (rfl) (fun hHeld2 => ?_)
        clear hK K
        refine wpAnyH_take (i := 12) (oi := { dst := some 106, op := Go.Op.binOp Go.BinOp.neq 3 (Go.Operand.tmp 102) (Go.Operand.tmp 105) 3, type := 4, pos := "law.go:92", after := #[{ on := 8, ground := Go.Ground.data }, { on := 11, ground := Go.Ground.data }, { on := 6, ground := Go.Ground.guard }], guard := some (6, false) }) (v := ?_) rfl (by kernel_rfl) (by kernel_rfl) (by kernel_rfl) (fun _ _ _ h => h) (Or.inl ⟨by rfl, ?_⟩) (by assumption) ?_
        rotate_left
        · (intro w hSw; (try dsimp only at hSw); subst hSw; go_simp; (try with_reducible rfl))
        simp only [Act.put, List.setIfInBounds_toArray, List.set_cons_zero, List.set_cons_succ]
        refine wpAnyH_take (i := 13) (oi := { dst := some 107, op := Go.Op.pick (Go.Operand.tmp 100) (Go.Operand.const (Go.Value.bool true)) (Go.Operand.tmp 106), type := 4, pos := "law.go:92", after := #[{ on := 6, ground := Go.Ground.data }, { on := 12, ground := Go.Ground.data }], guard := none }) (v := ?_) rfl (by kernel_rfl) (by kernel_rfl) (by kernel_rfl) (fun _ _ _ h => h) (Or.inl ⟨by rfl, ?_⟩) (by assumption) ?_
        rotate_left
        · (intro w hSw; (try dsimp only at hSw); subst hSw; go_simp; (try with_reducible rfl))
        simp only [Act.put, List.setIfInBounds_toArray, List.set_cons_zero, List.set_cons_succ]
        refine wpAnyH_take (i := 14) (oi := { dst := some 108, op := Go.Op.move (Go.Operand.tmp 107), type := 4, pos := "law.go:92", after := #[{ on := 13, ground := Go.Ground.data }, { on := 8, ground := Go.Ground.chain }], guard := none }) (v := ?_) rfl (by kernel_rfl) (by kernel_rfl) (by kernel_rfl) (fun _ _ _ h => h) (Or.inl ⟨by rfl, ?_⟩) (by assumption) ?_
        rotate_left
        · (intro w hSw; (try dsimp only at hSw); subst hSw; go_simp; (try with_reducible rfl))
        simp only [Act.put, List.setIfInBounds_toArray, List.set_cons_zero, List.set_cons_succ]
        refine wpAnyH_take (i := 15) (oi := { dst := some 109, op := Go.Op.move (Go.Operand.tmp 7), type := 24, pos := "law.go:92", after := #[{ on := 14, ground := Go.Ground.guard }], guard := some (14, false) }) (v := ?_) rfl (by kernel_rfl) (by kernel_rfl) (by kernel_rfl) (fun _ _ _ h => h) (Or.inl ⟨by rfl, ?_⟩) (by assumption) ?_
        rotate_left
        · (intro w hSw; (try dsimp only at hSw); subst hSw; go_simp; (try with_reducible rfl))
        simp only [Act.put, List.setIfInBounds_toArray, List.set_cons_zero, List.set_cons_succ]
        refine wpAnyH_take (i := 17) (oi := { dst := some 111, op := Go.Op.fieldAddr 35 (Go.Operand.tmp 9) 6, type := 0, pos := "law.go:92", after := #[{ on := 14, ground := Go.Ground.guard }], guard := some (14, false) }) (v := ?_) rfl (by kernel_rfl) (by kernel_rfl) (by kernel_rfl) (fun _ _ _ h => h) (Or.inl ⟨by rfl, ?_⟩) (by assumption) ?_
        rotate_left
        · (intro w hSw; (try dsimp only at hSw); subst hSw; go_simp; (try with_reducible rfl))
        simp only [Act.put, List.setIfInBounds_toArray, List.set_cons_zero, List.set_cons_succ]
        refine wpAnyH_take (i := 18) (oi := { dst := some 112, op := Go.Op.load 3 (Go.Operand.tmp 111), type := 3, pos := "law.go:92", after := #[{ on := 17, ground := Go.Ground.data }, { on := 14, ground := Go.Ground.guard }], guard := some (14, false) }) (v := ?_) rfl (by kernel_rfl) (by kernel_rfl) (by kernel_rfl) (fun _ _ _ h => h) (Or.inl ⟨by rfl, ?_⟩) (by assumption) ?_
        rotate_left
        · (intro w hSw; (try dsimp only at hSw); subst hSw; go_simp; (try with_reducible rfl))
        simp only [Act.put, List.setIfInBounds_toArray, List.set_cons_zero, List.set_cons_succ]
        refine wpAnyH_ready (rs := [16]) (by kernel_rfl) (by simp) ?_
        refine (AllReadyH.cons (o := { dst := some 110, op := Go.Op.call { callee := Go.Callee.value (Go.Operand.func 16), args := #[Go.Operand.tmp 109], argTypes := #[24] }, type := 3, pos := "law.go:92", after := #[{ on := 15, ground := Go.Ground.data }, { on := 14, ground := Go.Ground.chain }, { on := 14, ground := Go.Ground.guard }], guard := some (14, false) }) rfl (fun K hK => ?_) AllReadyH.nil)
        go_simp
        refine LOS.out.mono ?_
        rintro e wq3 ⟨rfl, hq3⟩
        subst hq3
        refine hK.out _ _ (rfl) (fun hHeld3 => ?_)
        clear hK K
        refine wpAnyH_take (i := 19) (oi := { dst := some 113, op := Go.Op.binOp Go.BinOp.neq 3 (Go.Operand.tmp 110) (Go.Operand.tmp 112) 3, type := 4, pos := "law.go:92", after := #[{ on := 16, ground := Go.Ground.data }, { on := 18, ground := Go.Ground.data }, { on := 14, ground := Go.Ground.guard }], guard := some (14, false) }) (v := ?_) rfl (by kernel_rfl) (by kernel_rfl) (by kernel_rfl) (fun _ _ _ h => h) (Or.inl ⟨by rfl, ?_⟩) (by assumption) ?_
        rotate_left
        · (intro w hSw; (try dsimp only at hSw); subst hSw; go_simp; (try with_reducible rfl))
        simp only [Act.put, List.setIfInBounds_toArray, List.set_cons_zero, List.set_cons_succ]
        refine wpAnyH_take (i := 20) (oi := { dst := some 114, op := Go.Op.pick (Go.Operand.tmp 108) (Go.Operand.const (Go.Value.bool true)) (Go.Operand.tmp 113), type := 4, pos := "law.go:92", after := #[{ on := 14, ground := Go.Ground.data }, { on := 19, ground := Go.Ground.data }], guard := none }) (v := ?_) rfl (by kernel_rfl) (by kernel_rfl) (by kernel_rfl) (fun _ _ _ h => h) (Or.inl ⟨by rfl, ?_⟩) (by assumption) ?_
        rotate_left
        · (intro w hSw; (try dsimp only at hSw); subst hSw; go_simp; (try with_reducible rfl))
        simp only [Act.put, List.setIfInBounds_toArray, List.set_cons_zero, List.set_cons_succ]
        refine wpAnyH_done (by kernel_rfl) ?_ _
        clear p0 p1 p2 p3 p4 p5 p6 pz
        go_wp2_with fail
        go_roundw
        case rel => exact ⟨k + 1, v9, s9, la9, lc9, r9, by omega, by go_num, box (RT.out.keep ((Below.refl _ _).drew))⟩
        case measure => simp [intOf]; omega
      have d1 : (kd == 1) = false := by simp [h1]
      by_cases h2 : kd = 2
      · have d2 : (kd == 2) = true := by simp [h2]
        clear h0 h1 h2
        have RC := box (show Calls Try.prog 23 #[.agg #[.int .i64 rd, .slice rfa n rfc, .bool rdn, .int .i64 rix, .int .i64 rnw, .slice la rl.length lc, .int .i64 rls]] wa fun e w' => e = .returned (.agg #[.int .i64 rd, .slice rfa n rfc, .bool true, .int .i64 rix, .int .i64 rnw, .slice none 0 0, .int .i64 ((rls : Int) + (rl.length : Int))]) ∧ Below wa.heap.size wa w' from by
          have h := rcut_any la lc ⟨rd, rfa, rfc, rfs, rdn, rix, rnw, rl, rls⟩ wa (by have := HBD.out; show rls < 1000000; omega) HRL.out
          simp only [rcV, hn] at h
          have e : ((rls + rl.length : Nat) : Int) = (rls : Int) + (rl.length : Int) := by push_cast; rfl
          rw [e] at h
          exact h)
        obtain ⟨p0, p1, p2, p3, p4, p5, p6, pz⟩ := RU.out.m
        simp only at p0 p1 p2 p3 p4 p5 p6
        rw [hn] at p1
        go_wp2_with fail
        refine RC.out.mono ?_
        rintro e w6 ⟨rfl, hb6⟩
        have X6 := box (RU.out.x.keep hb6)
        have M6 := box (RU.out.m.keep hb6)
        have B6 := box (RU.out.bel.trans (hb6.mono (Nat.le_trans RU.out.x.hB (Nat.le_of_lt RU.out.x.lt))))
        obtain ⟨p0, p1, p2, p3, p4, p5, p6, pz⟩ := M6.out
        have M7 := box (M6.out.put (.int .i64 rd) (.slice rfa n rfc) (.bool true) (.int .i64 rix) (.int .i64 rnw) (.slice none 0 0) (.int .i64 ((rls : Int) + (rl.length : Int))))
        have X7 := box (put7_keep X6.out (.inr rfl) (.int .i64 rd) (.slice rfa n rfc) (.bool true) (.int .i64 rix) (.int .i64 rnw) (.slice none 0 0) (.int .i64 ((rls : Int) + (rl.length : Int))))
        have B7 := box (put7_below B6.out HRB.out (.int .i64 rd) (.slice rfa n rfc) (.bool true) (.int .i64 rix) (.int .i64 rnw) (.slice none 0 0) (.int .i64 ((rls : Int) + (rl.length : Int))))
        clear hb6 RC
        go_upto_region 29 with fail
        clear p0 p1 p2 p3 p4 p5 p6 pz
        unfold put7 at M7 X7 B7
        generalize (((((((w6.setCell ⟨rb, 0, none⟩ (.int .i64 rd)).setCell ⟨rb, 1, none⟩ (.slice rfa n rfc)).setCell ⟨rb, 2, none⟩ (.bool true)).setCell ⟨rb, 3, none⟩ (.int .i64 rix)).setCell ⟨rb, 4, none⟩ (.int .i64 rnw)).setCell ⟨rb, 5, none⟩ (.slice none 0 0)).setCell ⟨rb, 6, none⟩ (.int .i64 ((rls : Int) + (rl.length : Int)))) = w7 at M7 X7 B7 ⊢
        have CU := box (cut_any B (fun q => q < B ∨ q = rb) g v s (by have := RU.out.b; omega) w7 X7.out)
        go_wp2_with fail
        refine CU.out.mono ?_
        rintro e w8 ⟨rfl, x8, st8⟩
        have M8 := box (M7.out.same (st8.apart.block rb M7.out.lt HGB.out.1 (fun e => HGB.out.2 e.symm)))
        have B8 := box (X7.out.steps st8 B7.out)
        obtain ⟨v9, s9, la9, lc9, r9, RT⟩ : ∃ v9 s9 la9 lc9 r9, Box (RunsAt B g rb rfa rfc rfs w2 w8 (k + 1) v9 s9 la9 lc9 r9) := by
          have hs := RU.out.sim.cut
          have e : ((rls + rl.length : Nat) : Int) = (rls : Int) + (rl.length : Int) := by push_cast; rfl
          exact ⟨.slice none 0 0, _, none, 0, ⟨rd, rfa, rfc, rfs, true, rix, rnw, [], rls + rl.length⟩, box (show RunsAt B g rb rfa rfc rfs w2 w8 (k + 1) (.slice none 0 0) ⟨s.d, s.fa, s.fc, s.fs, false, s.time, s.sent, [], s.lost + s.fl.length⟩ none 0 ⟨rd, rfa, rfc, rfs, true, rix, rnw, [], rls + rl.length⟩ from ⟨x8, by have h := M8.out; simp only [hn]; rw [e]; exact h, ⟨World.ownsRow_nil _ _ _ _, (fun q h => by cases h), (fun f h => by cases h)⟩, hs, (by have h := RU.out.b; have h2 := RU.out.x.fll; show s.d ≤ 100 ∧ s.time ≤ k + 1 ∧ s.sent ≤ k + 1 ∧ s.lost + s.fl.length ≤ 64 * (k + 1); omega), rfl, rfl, rfl, B8.out⟩)⟩
        clear x8 st8 M6 X6 B6 M7 X7 B7 M8 B8 CU
        have hlen := RT.out.sim.len
        obtain ⟨L, hL⟩ : ∃ L, s9.fl.length = L := ⟨_, rfl⟩
        rw [hL] at hlen
        have UP := box (up_any _ _ _ _ _ _ (RT.out.x.keep ((Below.refl _ _).drew)))
        have FLY := box (show Calls Try.prog 15 #[.pointer (some ⟨g, 0, none⟩)] w8.drew fun e w' => e = .returned (.int .i64 L) ∧ w8.drew = w' from by
          have h := flying_any _ _ _ _ _ _ (RT.out.x.keep ((Below.refl _ _).drew))
          rw [hL] at h
          exact h)
        have LOS := box (lost_any _ _ _ _ _ _ (RT.out.x.keep ((Below.refl _ _).drew)))
        have MQ := RT.out.m
        rw [RT.out.sim.up, RT.out.sim.lost, hlen] at MQ
        obtain ⟨p0, p1, p2, p3, p4, p5, p6, pz⟩ := MQ
        clear hlen hL
        generalize s9.up = u9 at UP p2
        generalize s9.lost = t9 at LOS p6
        go_wp2_with fail
        refine wp_region_held_drew (S := fun w' => w' = w8.drew) (by kernel_rfl) (rfl) (fun hHeld => ?_)
        refine wpAnyH_take (i := 0) (oi := { dst := some 94, op := Go.Op.move (Go.Operand.tmp 7), type := 24, pos := "law.go:92", after := #[], guard := none }) (v := ?_) rfl (by kernel_rfl) (by kernel_rfl) (by kernel_rfl) (fun _ _ _ h => h) (Or.inl ⟨by rfl, ?_⟩) (by assumption) ?_
        rotate_left
        · (intro w hSw; (try dsimp only at hSw); subst hSw; go_simp; (try with_reducible rfl))
        simp only [Act.put, List.setIfInBounds_toArray, List.set_cons_zero, List.set_cons_succ]
        refine wpAnyH_take (i := 2) (oi := { dst := some 96, op := Go.Op.fieldAddr 35 (Go.Operand.tmp 9) 2, type := 0, pos := "law.go:92", after := #[], guard := none }) (v := ?_) rfl (by kernel_rfl) (by kernel_rfl) (by kernel_rfl) (fun _ _ _ h => h) (Or.inl ⟨by rfl, ?_⟩) (by assumption) ?_
        rotate_left
        · (intro w hSw; (try dsimp only at hSw); subst hSw; go_simp; (try with_reducible rfl))
        simp only [Act.put, List.setIfInBounds_toArray, List.set_cons_zero, List.set_cons_succ]
        refine wpAnyH_take (i := 3) (oi := { dst := some 97, op := Go.Op.load 4 (Go.Operand.tmp 96), type := 4, pos := "law.go:92", after := #[{ on := 2, ground := Go.Ground.data }], guard := none }) (v := ?_) rfl (by kernel_rfl) (by kernel_rfl) (by kernel_rfl) (fun _ _ _ h => h) (Or.inl ⟨by rfl, ?_⟩) (by assumption) ?_
        rotate_left
        · (intro w hSw; (try dsimp only at hSw); subst hSw; go_simp; (try with_reducible rfl))
        simp only [Act.put, List.setIfInBounds_toArray, List.set_cons_zero, List.set_cons_succ]
        refine wpAnyH_take (i := 4) (oi := { dst := some 98, op := Go.Op.unOp Go.UnOp.not 4 (Go.Operand.tmp 97), type := 4, pos := "law.go:92", after := #[{ on := 3, ground := Go.Ground.data }], guard := none }) (v := ?_) rfl (by kernel_rfl) (by kernel_rfl) (by kernel_rfl) (fun _ _ _ h => h) (Or.inl ⟨by rfl, ?_⟩) (by assumption) ?_
        rotate_left
        · (intro w hSw; (try dsimp only at hSw); subst hSw; go_simp; (try with_reducible rfl))
        simp only [Act.put, List.setIfInBounds_toArray, List.set_cons_zero, List.set_cons_succ]
        refine wpAnyH_ready (rs := [1]) (by kernel_rfl) (by simp) ?_
        refine (AllReadyH.cons (o := { dst := some 95, op := Go.Op.call { callee := Go.Callee.value (Go.Operand.func 14), args := #[Go.Operand.tmp 94], argTypes := #[24] }, type := 4, pos := "law.go:92", after := #[{ on := 0, ground := Go.Ground.data }], guard := none }) rfl (fun K hK => ?_) AllReadyH.nil)
        go_simp
        refine UP.out.mono ?_
        rintro e wq1 ⟨rfl, hq1⟩
        subst hq1
        refine hK.out _ _ (rfl) (fun hHeld1 => ?_)
        clear hK K
        refine wpAnyH_take (i := 5) (oi := { dst := some 99, op := Go.Op.binOp Go.BinOp.neq 4 (Go.Operand.tmp 95) (Go.Operand.tmp 98) 4, type := 4, pos := "law.go:92", after := #[{ on := 1, ground := Go.Ground.data }, { on := 4, ground := Go.Ground.data }], guard := none }) (v := ?_) rfl (by kernel_rfl) (by kernel_rfl) (by kernel_rfl) (fun _ _ _ h => h) (Or.inl ⟨by rfl, ?_⟩) (by assumption) ?_
        rotate_left
        · (intro w hSw; (try dsimp only at hSw); subst hSw; go_simp; (try with_reducible rfl))
        simp only [Act.put, List.setIfInBounds_toArray, List.set_cons_zero, List.set_cons_succ]
        refine wpAnyH_take (i := 6) (oi := { dst := some 100, op := Go.Op.move (Go.Operand.tmp 99), type := 4, pos := "law.go:92", after := #[{ on := 5, ground := Go.Ground.data }, { on := 1, ground := Go.Ground.chain }], guard := none }) (v := ?_) rfl (by kernel_rfl) (by kernel_rfl) (by kernel_rfl) (fun _ _ _ h => h) (Or.inl ⟨by rfl, ?_⟩) (by assumption) ?_
        rotate_left
        · (intro w hSw; (try dsimp only at hSw); subst hSw; go_simp; (try with_reducible rfl))
        simp only [Act.put, List.setIfInBounds_toArray, List.set_cons_zero, List.set_cons_succ]
        refine wpAnyH_take (i := 7) (oi := { dst := some 101, op := Go.Op.move (Go.Operand.tmp 7), type := 24, pos := "law.go:92", after := #[{ on := 6, ground := Go.Ground.guard }], guard := some (6, false) }) (v := ?_) rfl (by kernel_rfl) (by kernel_rfl) (by kernel_rfl) (fun _ _ _ h => h) (Or.inl ⟨by rfl, ?_⟩) (by assumption) ?_
        rotate_left
        · (intro w hSw; (try dsimp only at hSw); subst hSw; go_simp; (try with_reducible rfl))
        simp only [Act.put, List.setIfInBounds_toArray, List.set_cons_zero, List.set_cons_succ]
        refine wpAnyH_take (i := 9) (oi := { dst := some 103, op := Go.Op.fieldAddr 35 (Go.Operand.tmp 9) 5, type := 0, pos := "law.go:92", after := #[{ on := 6, ground := Go.Ground.guard }], guard := some (6, false) }) (v := ?_) rfl (by kernel_rfl) (by kernel_rfl) (by kernel_rfl) (fun _ _ _ h => h) (Or.inl ⟨by rfl, ?_⟩) (by assumption) ?_
        rotate_left
        · (intro w hSw; (try dsimp only at hSw); subst hSw; go_simp; (try with_reducible rfl))
        simp only [Act.put, List.setIfInBounds_toArray, List.set_cons_zero, List.set_cons_succ]
        refine wpAnyH_take (i := 10) (oi := { dst := some 104, op := Go.Op.load 33 (Go.Operand.tmp 103), type := 33, pos := "law.go:92", after := #[{ on := 9, ground := Go.Ground.data }, { on := 6, ground := Go.Ground.guard }], guard := some (6, false) }) (v := ?_) rfl (by kernel_rfl) (by kernel_rfl) (by kernel_rfl) (fun _ _ _ h => h) (Or.inl ⟨by rfl, ?_⟩) (by assumption) ?_
        rotate_left
        · (intro w hSw; (try dsimp only at hSw); subst hSw; go_simp; (try with_reducible rfl))
        simp only [Act.put, List.setIfInBounds_toArray, List.set_cons_zero, List.set_cons_succ]
        refine wpAnyH_take (i := 11) (oi := { dst := some 105, op := Go.Op.call { callee := Go.Callee.builtin Go.Builtin.len, args := #[Go.Operand.tmp 104], argTypes := #[33] }, type := 3, pos := "law.go:92", after := #[{ on := 10, ground := Go.Ground.data }, { on := 6, ground := Go.Ground.guard }], guard := some (6, false) }) (v := ?_) rfl (by kernel_rfl) (by kernel_rfl) (by kernel_rfl) (fun _ _ _ h => h) (Or.inl ⟨by rfl, ?_⟩) (by assumption) ?_
        rotate_left
        · (intro w hSw; (try dsimp only at hSw); subst hSw; go_simp; (try with_reducible rfl))
        simp only [Act.put, List.setIfInBounds_toArray, List.set_cons_zero, List.set_cons_succ]
        refine wpAnyH_ready (rs := [8]) (by kernel_rfl) (by simp) ?_
        refine (AllReadyH.cons (o := { dst := some 102, op := Go.Op.call { callee := Go.Callee.value (Go.Operand.func 15), args := #[Go.Operand.tmp 101], argTypes := #[24] }, type := 3, pos := "law.go:92", after := #[{ on := 7, ground := Go.Ground.data }, { on := 6, ground := Go.Ground.chain }, { on := 6, ground := Go.Ground.guard }], guard := some (6, false) }) rfl (fun K hK => ?_) AllReadyH.nil)
        go_simp
        refine FLY.out.mono ?_
        rintro e wq2 ⟨rfl, hq2⟩
        subst hq2
        refine hK.out _ _ (rfl) (fun hHeld2 => ?_)
        clear hK K
        refine wpAnyH_take (i := 12) (oi := { dst := some 106, op := Go.Op.binOp Go.BinOp.neq 3 (Go.Operand.tmp 102) (Go.Operand.tmp 105) 3, type := 4, pos := "law.go:92", after := #[{ on := 8, ground := Go.Ground.data }, { on := 11, ground := Go.Ground.data }, { on := 6, ground := Go.Ground.guard }], guard := some (6, false) }) (v := ?_) rfl (by kernel_rfl) (by kernel_rfl) (by kernel_rfl) (fun _ _ _ h => h) (Or.inl ⟨by rfl, ?_⟩) (by assumption) ?_
        rotate_left
        · (intro w hSw; (try dsimp only at hSw); subst hSw; go_simp; (try with_reducible rfl))
        simp only [Act.put, List.setIfInBounds_toArray, List.set_cons_zero, List.set_cons_succ]
        refine wpAnyH_take (i := 13) (oi := { dst := some 107, op := Go.Op.pick (Go.Operand.tmp 100) (Go.Operand.const (Go.Value.bool true)) (Go.Operand.tmp 106), type := 4, pos := "law.go:92", after := #[{ on := 6, ground := Go.Ground.data }, { on := 12, ground := Go.Ground.data }], guard := none }) (v := ?_) rfl (by kernel_rfl) (by kernel_rfl) (by kernel_rfl) (fun _ _ _ h => h) (Or.inl ⟨by rfl, ?_⟩) (by assumption) ?_
        rotate_left
        · (intro w hSw; (try dsimp only at hSw); subst hSw; go_simp; (try with_reducible rfl))
        simp only [Act.put, List.setIfInBounds_toArray, List.set_cons_zero, List.set_cons_succ]
        refine wpAnyH_take (i := 14) (oi := { dst := some 108, op := Go.Op.move (Go.Operand.tmp 107), type := 4, pos := "law.go:92", after := #[{ on := 13, ground := Go.Ground.data }, { on := 8, ground := Go.Ground.chain }], guard := none }) (v := ?_) rfl (by kernel_rfl) (by kernel_rfl) (by kernel_rfl) (fun _ _ _ h => h) (Or.inl ⟨by rfl, ?_⟩) (by assumption) ?_
        rotate_left
        · (intro w hSw; (try dsimp only at hSw); subst hSw; go_simp; (try with_reducible rfl))
        simp only [Act.put, List.setIfInBounds_toArray, List.set_cons_zero, List.set_cons_succ]
        refine wpAnyH_take (i := 15) (oi := { dst := some 109, op := Go.Op.move (Go.Operand.tmp 7), type := 24, pos := "law.go:92", after := #[{ on := 14, ground := Go.Ground.guard }], guard := some (14, false) }) (v := ?_) rfl (by kernel_rfl) (by kernel_rfl) (by kernel_rfl) (fun _ _ _ h => h) (Or.inl ⟨by rfl, ?_⟩) (by assumption) ?_
        rotate_left
        · (intro w hSw; (try dsimp only at hSw); subst hSw; go_simp; (try with_reducible rfl))
        simp only [Act.put, List.setIfInBounds_toArray, List.set_cons_zero, List.set_cons_succ]
        refine wpAnyH_take (i := 17) (oi := { dst := some 111, op := Go.Op.fieldAddr 35 (Go.Operand.tmp 9) 6, type := 0, pos := "law.go:92", after := #[{ on := 14, ground := Go.Ground.guard }], guard := some (14, false) }) (v := ?_) rfl (by kernel_rfl) (by kernel_rfl) (by kernel_rfl) (fun _ _ _ h => h) (Or.inl ⟨by rfl, ?_⟩) (by assumption) ?_
        rotate_left
        · (intro w hSw; (try dsimp only at hSw); subst hSw; go_simp; (try with_reducible rfl))
        simp only [Act.put, List.setIfInBounds_toArray, List.set_cons_zero, List.set_cons_succ]
        refine wpAnyH_take (i := 18) (oi := { dst := some 112, op := Go.Op.load 3 (Go.Operand.tmp 111), type := 3, pos := "law.go:92", after := #[{ on := 17, ground := Go.Ground.data }, { on := 14, ground := Go.Ground.guard }], guard := some (14, false) }) (v := ?_) rfl (by kernel_rfl) (by kernel_rfl) (by kernel_rfl) (fun _ _ _ h => h) (Or.inl ⟨by rfl, ?_⟩) (by assumption) ?_
        rotate_left
        · (intro w hSw; (try dsimp only at hSw); subst hSw; go_simp; (try with_reducible rfl))
        simp only [Act.put, List.setIfInBounds_toArray, List.set_cons_zero, List.set_cons_succ]
        refine wpAnyH_ready (rs := [16]) (by kernel_rfl) (by simp) ?_
        refine (AllReadyH.cons (o := { dst := some 110, op := Go.Op.call { callee := Go.Callee.value (Go.Operand.func 16), args := #[Go.Operand.tmp 109], argTypes := #[24] }, type := 3, pos := "law.go:92", after := #[{ on := 15, ground := Go.Ground.data }, { on := 14, ground := Go.Ground.chain }, { on := 14, ground := Go.Ground.guard }], guard := some (14, false) }) rfl (fun K hK => ?_) AllReadyH.nil)
        go_simp
        refine LOS.out.mono ?_
        rintro e wq3 ⟨rfl, hq3⟩
        subst hq3
        refine hK.out _ _ (rfl) (fun hHeld3 => ?_)
        clear hK K
        refine wpAnyH_take (i := 19) (oi := { dst := some 113, op := Go.Op.binOp Go.BinOp.neq 3 (Go.Operand.tmp 110) (Go.Operand.tmp 112) 3, type := 4, pos := "law.go:92", after := #[{ on := 16, ground := Go.Ground.data }, { on := 18, ground := Go.Ground.data }, { on := 14, ground := Go.Ground.guard }], guard := some (14, false) }) (v := ?_) rfl (by kernel_rfl) (by kernel_rfl) (by kernel_rfl) (fun _ _ _ h => h) (Or.inl ⟨by rfl, ?_⟩) (by assumption) ?_
        rotate_left
        · (intro w hSw; (try dsimp only at hSw); subst hSw; go_simp; (try with_reducible rfl))
        simp only [Act.put, List.setIfInBounds_toArray, List.set_cons_zero, List.set_cons_succ]
        refine wpAnyH_take (i := 20) (oi := { dst := some 114, op := Go.Op.pick (Go.Operand.tmp 108) (Go.Operand.const (Go.Value.bool true)) (Go.Operand.tmp 113), type := 4, pos := "law.go:92", after := #[{ on := 14, ground := Go.Ground.data }, { on := 19, ground := Go.Ground.data }], guard := none }) (v := ?_) rfl (by kernel_rfl) (by kernel_rfl) (by kernel_rfl) (fun _ _ _ h => h) (Or.inl ⟨by rfl, ?_⟩) (by assumption) ?_
        rotate_left
        · (intro w hSw; (try dsimp only at hSw); subst hSw; go_simp; (try with_reducible rfl))
        simp only [Act.put, List.setIfInBounds_toArray, List.set_cons_zero, List.set_cons_succ]
        refine wpAnyH_done (by kernel_rfl) ?_ _
        clear p0 p1 p2 p3 p4 p5 p6 pz
        go_wp2_with fail
        go_roundw
        case rel => exact ⟨k + 1, v9, s9, la9, lc9, r9, by omega, by go_num, box (RT.out.keep ((Below.refl _ _).drew))⟩
        case measure => simp [intOf]; omega
      have d2 : (kd == 2) = false := by simp [h2]
      by_cases h3 : kd = 3
      · have d3 : (kd == 3) = true := by simp [h3]
        clear h0 h1 h2 h3
        obtain ⟨p0, p1, p2, p3, p4, p5, p6, pz⟩ := RU.out.m
        simp only at p0 p1 p2 p3 p4 p5 p6
        rw [hn] at p1
        have M7 := box (RU.out.m.set2 (.bool false))
        have X7 := box (RU.out.x.same (w' := wa.setCell ⟨rb, 2, none⟩ (.bool false)) (fun q _ hq => heap_else (fun e => hq (.inr e.symm)) _))
        have F7 := box (RU.out.f.same (w' := wa.setCell ⟨rb, 2, none⟩ (.bool false)) (fun q _ hq => heap_else (fun e => hq (.inr (.inr e.symm))) _))
        have B7 := box (RU.out.bel.setCell (p := ⟨rb, 2, none⟩) HRB.out (.bool false))
        go_upto_region 32 with fail
        clear p0 p1 p2 p3 p4 p5 p6 pz
        generalize wa.setCell ⟨rb, 2, none⟩ (.bool false) = w7 at M7 X7 F7 B7 ⊢
        have ME := box (mend_any B (fun q => q < B ∨ q = rb) g v s w7 X7.out)
        go_wp2_with fail
        refine ME.out.mono ?_
        rintro e w8 ⟨rfl, x8, st8⟩
        have M8 := box (M7.out.same (st8.apart.block rb M7.out.lt HGB.out.1 (fun e => HGB.out.2 e.symm)))
        have B8 := box (X7.out.steps st8 B7.out)
        have F8 := box (F7.out.steps (P := fun q => q = rb) st8)
        obtain ⟨v9, s9, la9, lc9, r9, RT⟩ : ∃ v9 s9 la9 lc9 r9, Box (RunsAt B g rb rfa rfc rfs w2 w8 (k + 1) v9 s9 la9 lc9 r9) :=
          ⟨v, _, la, lc, ⟨rd, rfa, rfc, rfs, false, rix, rnw, rl, rls⟩, box (show RunsAt B g rb rfa rfc rfs w2 w8 (k + 1) v ⟨s.d, s.fa, s.fc, s.fs, true, s.time, s.sent, s.fl, s.lost⟩ la lc ⟨rd, rfa, rfc, rfs, false, rix, rnw, rl, rls⟩ from ⟨x8, M8.out, F8.out, RU.out.sim.mend, (by have h := RU.out.b; show s.d ≤ 100 ∧ s.time ≤ k + 1 ∧ s.sent ≤ k + 1 ∧ s.lost ≤ 64 * (k + 1); omega), rfl, rfl, rfl, B8.out⟩)⟩
        clear x8 st8 M7 X7 F7 B7 M8 B8 F8 ME
        have hlen := RT.out.sim.len
        obtain ⟨L, hL⟩ : ∃ L, s9.fl.length = L := ⟨_, rfl⟩
        rw [hL] at hlen
        have UP := box (up_any _ _ _ _ _ _ (RT.out.x.keep ((Below.refl _ _).drew)))
        have FLY := box (show Calls Try.prog 15 #[.pointer (some ⟨g, 0, none⟩)] w8.drew fun e w' => e = .returned (.int .i64 L) ∧ w8.drew = w' from by
          have h := flying_any _ _ _ _ _ _ (RT.out.x.keep ((Below.refl _ _).drew))
          rw [hL] at h
          exact h)
        have LOS := box (lost_any _ _ _ _ _ _ (RT.out.x.keep ((Below.refl _ _).drew)))
        have MQ := RT.out.m
        rw [RT.out.sim.up, RT.out.sim.lost, hlen] at MQ
        obtain ⟨p0, p1, p2, p3, p4, p5, p6, pz⟩ := MQ
        clear hlen hL
        generalize s9.up = u9 at UP p2
        generalize s9.lost = t9 at LOS p6
        go_wp2_with fail
        refine wp_region_held_drew (S := fun w' => w' = w8.drew) (by kernel_rfl) (rfl) (fun hHeld => ?_)
        refine wpAnyH_take (i := 0) (oi := { dst := some 94, op := Go.Op.move (Go.Operand.tmp 7), type := 24, pos := "law.go:92", after := #[], guard := none }) (v := ?_) rfl (by kernel_rfl) (by kernel_rfl) (by kernel_rfl) (fun _ _ _ h => h) (Or.inl ⟨by rfl, ?_⟩) (by assumption) ?_
        rotate_left
        · (intro w hSw; (try dsimp only at hSw); subst hSw; go_simp; (try with_reducible rfl))
        simp only [Act.put, List.setIfInBounds_toArray, List.set_cons_zero, List.set_cons_succ]
        refine wpAnyH_take (i := 2) (oi := { dst := some 96, op := Go.Op.fieldAddr 35 (Go.Operand.tmp 9) 2, type := 0, pos := "law.go:92", after := #[], guard := none }) (v := ?_) rfl (by kernel_rfl) (by kernel_rfl) (by kernel_rfl) (fun _ _ _ h => h) (Or.inl ⟨by rfl, ?_⟩) (by assumption) ?_
        rotate_left
        · (intro w hSw; (try dsimp only at hSw); subst hSw; go_simp; (try with_reducible rfl))
        simp only [Act.put, List.setIfInBounds_toArray, List.set_cons_zero, List.set_cons_succ]
        refine wpAnyH_take (i := 3) (oi := { dst := some 97, op := Go.Op.load 4 (Go.Operand.tmp 96), type := 4, pos := "law.go:92", after := #[{ on := 2, ground := Go.Ground.data }], guard := none }) (v := ?_) rfl (by kernel_rfl) (by kernel_rfl) (by kernel_rfl) (fun _ _ _ h => h) (Or.inl ⟨by rfl, ?_⟩) (by assumption) ?_
        rotate_left
        · (intro w hSw; (try dsimp only at hSw); subst hSw; go_simp; (try with_reducible rfl))
        simp only [Act.put, List.setIfInBounds_toArray, List.set_cons_zero, List.set_cons_succ]
        refine wpAnyH_take (i := 4) (oi := { dst := some 98, op := Go.Op.unOp Go.UnOp.not 4 (Go.Operand.tmp 97), type := 4, pos := "law.go:92", after := #[{ on := 3, ground := Go.Ground.data }], guard := none }) (v := ?_) rfl (by kernel_rfl) (by kernel_rfl) (by kernel_rfl) (fun _ _ _ h => h) (Or.inl ⟨by rfl, ?_⟩) (by assumption) ?_
        rotate_left
        · (intro w hSw; (try dsimp only at hSw); subst hSw; go_simp; (try with_reducible rfl))
        simp only [Act.put, List.setIfInBounds_toArray, List.set_cons_zero, List.set_cons_succ]
        refine wpAnyH_ready (rs := [1]) (by kernel_rfl) (by simp) ?_
        refine (AllReadyH.cons (o := { dst := some 95, op := Go.Op.call { callee := Go.Callee.value (Go.Operand.func 14), args := #[Go.Operand.tmp 94], argTypes := #[24] }, type := 4, pos := "law.go:92", after := #[{ on := 0, ground := Go.Ground.data }], guard := none }) rfl (fun K hK => ?_) AllReadyH.nil)
        go_simp
        refine UP.out.mono ?_
        rintro e wq1 ⟨rfl, hq1⟩
        subst hq1
        refine hK.out _ _ (rfl) (fun hHeld1 => ?_)
        clear hK K
        refine wpAnyH_take (i := 5) (oi := { dst := some 99, op := Go.Op.binOp Go.BinOp.neq 4 (Go.Operand.tmp 95) (Go.Operand.tmp 98) 4, type := 4, pos := "law.go:92", after := #[{ on := 1, ground := Go.Ground.data }, { on := 4, ground := Go.Ground.data }], guard := none }) (v := ?_) rfl (by kernel_rfl) (by kernel_rfl) (by kernel_rfl) (fun _ _ _ h => h) (Or.inl ⟨by rfl, ?_⟩) (by assumption) ?_
        rotate_left
        · (intro w hSw; (try dsimp only at hSw); subst hSw; go_simp; (try with_reducible rfl))
        simp only [Act.put, List.setIfInBounds_toArray, List.set_cons_zero, List.set_cons_succ]
        refine wpAnyH_take (i := 6) (oi := { dst := some 100, op := Go.Op.move (Go.Operand.tmp 99), type := 4, pos := "law.go:92", after := #[{ on := 5, ground := Go.Ground.data }, { on := 1, ground := Go.Ground.chain }], guard := none }) (v := ?_) rfl (by kernel_rfl) (by kernel_rfl) (by kernel_rfl) (fun _ _ _ h => h) (Or.inl ⟨by rfl, ?_⟩) (by assumption) ?_
        rotate_left
        · (intro w hSw; (try dsimp only at hSw); subst hSw; go_simp; (try with_reducible rfl))
        simp only [Act.put, List.setIfInBounds_toArray, List.set_cons_zero, List.set_cons_succ]
        refine wpAnyH_take (i := 7) (oi := { dst := some 101, op := Go.Op.move (Go.Operand.tmp 7), type := 24, pos := "law.go:92", after := #[{ on := 6, ground := Go.Ground.guard }], guard := some (6, false) }) (v := ?_) rfl (by kernel_rfl) (by kernel_rfl) (by kernel_rfl) (fun _ _ _ h => h) (Or.inl ⟨by rfl, ?_⟩) (by assumption) ?_
        rotate_left
        · (intro w hSw; (try dsimp only at hSw); subst hSw; go_simp; (try with_reducible rfl))
        simp only [Act.put, List.setIfInBounds_toArray, List.set_cons_zero, List.set_cons_succ]
        refine wpAnyH_take (i := 9) (oi := { dst := some 103, op := Go.Op.fieldAddr 35 (Go.Operand.tmp 9) 5, type := 0, pos := "law.go:92", after := #[{ on := 6, ground := Go.Ground.guard }], guard := some (6, false) }) (v := ?_) rfl (by kernel_rfl) (by kernel_rfl) (by kernel_rfl) (fun _ _ _ h => h) (Or.inl ⟨by rfl, ?_⟩) (by assumption) ?_
        rotate_left
        · (intro w hSw; (try dsimp only at hSw); subst hSw; go_simp; (try with_reducible rfl))
        simp only [Act.put, List.setIfInBounds_toArray, List.set_cons_zero, List.set_cons_succ]
        refine wpAnyH_take (i := 10) (oi := { dst := some 104, op := Go.Op.load 33 (Go.Operand.tmp 103), type := 33, pos := "law.go:92", after := #[{ on := 9, ground := Go.Ground.data }, { on := 6, ground := Go.Ground.guard }], guard := some (6, false) }) (v := ?_) rfl (by kernel_rfl) (by kernel_rfl) (by kernel_rfl) (fun _ _ _ h => h) (Or.inl ⟨by rfl, ?_⟩) (by assumption) ?_
        rotate_left
        · (intro w hSw; (try dsimp only at hSw); subst hSw; go_simp; (try with_reducible rfl))
        simp only [Act.put, List.setIfInBounds_toArray, List.set_cons_zero, List.set_cons_succ]
        refine wpAnyH_take (i := 11) (oi := { dst := some 105, op := Go.Op.call { callee := Go.Callee.builtin Go.Builtin.len, args := #[Go.Operand.tmp 104], argTypes := #[33] }, type := 3, pos := "law.go:92", after := #[{ on := 10, ground := Go.Ground.data }, { on := 6, ground := Go.Ground.guard }], guard := some (6, false) }) (v := ?_) rfl (by kernel_rfl) (by kernel_rfl) (by kernel_rfl) (fun _ _ _ h => h) (Or.inl ⟨by rfl, ?_⟩) (by assumption) ?_
        rotate_left
        · (intro w hSw; (try dsimp only at hSw); subst hSw; go_simp; (try with_reducible rfl))
        simp only [Act.put, List.setIfInBounds_toArray, List.set_cons_zero, List.set_cons_succ]
        refine wpAnyH_ready (rs := [8]) (by kernel_rfl) (by simp) ?_
        refine (AllReadyH.cons (o := { dst := some 102, op := Go.Op.call { callee := Go.Callee.value (Go.Operand.func 15), args := #[Go.Operand.tmp 101], argTypes := #[24] }, type := 3, pos := "law.go:92", after := #[{ on := 7, ground := Go.Ground.data }, { on := 6, ground := Go.Ground.chain }, { on := 6, ground := Go.Ground.guard }], guard := some (6, false) }) rfl (fun K hK => ?_) AllReadyH.nil)
        go_simp
        refine FLY.out.mono ?_
        rintro e wq2 ⟨rfl, hq2⟩
        subst hq2
        refine hK.out _ _ (rfl) (fun hHeld2 => ?_)
        clear hK K
        refine wpAnyH_take (i := 12) (oi := { dst := some 106, op := Go.Op.binOp Go.BinOp.neq 3 (Go.Operand.tmp 102) (Go.Operand.tmp 105) 3, type := 4, pos := "law.go:92", after := #[{ on := 8, ground := Go.Ground.data }, { on := 11, ground := Go.Ground.data }, { on := 6, ground := Go.Ground.guard }], guard := some (6, false) }) (v := ?_) rfl (by kernel_rfl) (by kernel_rfl) (by kernel_rfl) (fun _ _ _ h => h) (Or.inl ⟨by rfl, ?_⟩) (by assumption) ?_
        rotate_left
        · (intro w hSw; (try dsimp only at hSw); subst hSw; go_simp; (try with_reducible rfl))
        simp only [Act.put, List.setIfInBounds_toArray, List.set_cons_zero, List.set_cons_succ]
        refine wpAnyH_take (i := 13) (oi := { dst := some 107, op := Go.Op.pick (Go.Operand.tmp 100) (Go.Operand.const (Go.Value.bool true)) (Go.Operand.tmp 106), type := 4, pos := "law.go:92", after := #[{ on := 6, ground := Go.Ground.data }, { on := 12, ground := Go.Ground.data }], guard := none }) (v := ?_) rfl (by kernel_rfl) (by kernel_rfl) (by kernel_rfl) (fun _ _ _ h => h) (Or.inl ⟨by rfl, ?_⟩) (by assumption) ?_
        rotate_left
        · (intro w hSw; (try dsimp only at hSw); subst hSw; go_simp; (try with_reducible rfl))
        simp only [Act.put, List.setIfInBounds_toArray, List.set_cons_zero, List.set_cons_succ]
        refine wpAnyH_take (i := 14) (oi := { dst := some 108, op := Go.Op.move (Go.Operand.tmp 107), type := 4, pos := "law.go:92", after := #[{ on := 13, ground := Go.Ground.data }, { on := 8, ground := Go.Ground.chain }], guard := none }) (v := ?_) rfl (by kernel_rfl) (by kernel_rfl) (by kernel_rfl) (fun _ _ _ h => h) (Or.inl ⟨by rfl, ?_⟩) (by assumption) ?_
        rotate_left
        · (intro w hSw; (try dsimp only at hSw); subst hSw; go_simp; (try with_reducible rfl))
        simp only [Act.put, List.setIfInBounds_toArray, List.set_cons_zero, List.set_cons_succ]
        refine wpAnyH_take (i := 15) (oi := { dst := some 109, op := Go.Op.move (Go.Operand.tmp 7), type := 24, pos := "law.go:92", after := #[{ on := 14, ground := Go.Ground.guard }], guard := some (14, false) }) (v := ?_) rfl (by kernel_rfl) (by kernel_rfl) (by kernel_rfl) (fun _ _ _ h => h) (Or.inl ⟨by rfl, ?_⟩) (by assumption) ?_
        rotate_left
        · (intro w hSw; (try dsimp only at hSw); subst hSw; go_simp; (try with_reducible rfl))
        simp only [Act.put, List.setIfInBounds_toArray, List.set_cons_zero, List.set_cons_succ]
        refine wpAnyH_take (i := 17) (oi := { dst := some 111, op := Go.Op.fieldAddr 35 (Go.Operand.tmp 9) 6, type := 0, pos := "law.go:92", after := #[{ on := 14, ground := Go.Ground.guard }], guard := some (14, false) }) (v := ?_) rfl (by kernel_rfl) (by kernel_rfl) (by kernel_rfl) (fun _ _ _ h => h) (Or.inl ⟨by rfl, ?_⟩) (by assumption) ?_
        rotate_left
        · (intro w hSw; (try dsimp only at hSw); subst hSw; go_simp; (try with_reducible rfl))
        simp only [Act.put, List.setIfInBounds_toArray, List.set_cons_zero, List.set_cons_succ]
        refine wpAnyH_take (i := 18) (oi := { dst := some 112, op := Go.Op.load 3 (Go.Operand.tmp 111), type := 3, pos := "law.go:92", after := #[{ on := 17, ground := Go.Ground.data }, { on := 14, ground := Go.Ground.guard }], guard := some (14, false) }) (v := ?_) rfl (by kernel_rfl) (by kernel_rfl) (by kernel_rfl) (fun _ _ _ h => h) (Or.inl ⟨by rfl, ?_⟩) (by assumption) ?_
        rotate_left
        · (intro w hSw; (try dsimp only at hSw); subst hSw; go_simp; (try with_reducible rfl))
        simp only [Act.put, List.setIfInBounds_toArray, List.set_cons_zero, List.set_cons_succ]
        refine wpAnyH_ready (rs := [16]) (by kernel_rfl) (by simp) ?_
        refine (AllReadyH.cons (o := { dst := some 110, op := Go.Op.call { callee := Go.Callee.value (Go.Operand.func 16), args := #[Go.Operand.tmp 109], argTypes := #[24] }, type := 3, pos := "law.go:92", after := #[{ on := 15, ground := Go.Ground.data }, { on := 14, ground := Go.Ground.chain }, { on := 14, ground := Go.Ground.guard }], guard := some (14, false) }) rfl (fun K hK => ?_) AllReadyH.nil)
        go_simp
        refine LOS.out.mono ?_
        rintro e wq3 ⟨rfl, hq3⟩
        subst hq3
        refine hK.out _ _ (rfl) (fun hHeld3 => ?_)
        clear hK K
        refine wpAnyH_take (i := 19) (oi := { dst := some 113, op := Go.Op.binOp Go.BinOp.neq 3 (Go.Operand.tmp 110) (Go.Operand.tmp 112) 3, type := 4, pos := "law.go:92", after := #[{ on := 16, ground := Go.Ground.data }, { on := 18, ground := Go.Ground.data }, { on := 14, ground := Go.Ground.guard }], guard := some (14, false) }) (v := ?_) rfl (by kernel_rfl) (by kernel_rfl) (by kernel_rfl) (fun _ _ _ h => h) (Or.inl ⟨by rfl, ?_⟩) (by assumption) ?_
        rotate_left
        · (intro w hSw; (try dsimp only at hSw); subst hSw; go_simp; (try with_reducible rfl))
        simp only [Act.put, List.setIfInBounds_toArray, List.set_cons_zero, List.set_cons_succ]
        refine wpAnyH_take (i := 20) (oi := { dst := some 114, op := Go.Op.pick (Go.Operand.tmp 108) (Go.Operand.const (Go.Value.bool true)) (Go.Operand.tmp 113), type := 4, pos := "law.go:92", after := #[{ on := 14, ground := Go.Ground.data }, { on := 19, ground := Go.Ground.data }], guard := none }) (v := ?_) rfl (by kernel_rfl) (by kernel_rfl) (by kernel_rfl) (fun _ _ _ h => h) (Or.inl ⟨by rfl, ?_⟩) (by assumption) ?_
        rotate_left
        · (intro w hSw; (try dsimp only at hSw); subst hSw; go_simp; (try with_reducible rfl))
        simp only [Act.put, List.setIfInBounds_toArray, List.set_cons_zero, List.set_cons_succ]
        refine wpAnyH_done (by kernel_rfl) ?_ _
        clear p0 p1 p2 p3 p4 p5 p6 pz
        go_wp2_with fail
        go_roundw
        case rel => exact ⟨k + 1, v9, s9, la9, lc9, r9, by omega, by go_num, box (RT.out.keep ((Below.refl _ _).drew))⟩
        case measure => simp [intOf]; omega
      have d3 : (kd == 3) = false := by simp [h3]
      clear h0 h1 h2 h3
      obtain ⟨v9, s9, la9, lc9, r9, RT⟩ : ∃ v9 s9 la9 lc9 r9, Box (RunsAt B g rb rfa rfc rfs w2 wa (k + 1) v9 s9 la9 lc9 r9) :=
        ⟨v, s, la, lc, ⟨rd, rfa, rfc, rfs, rdn, rix, rnw, rl, rls⟩, box ⟨RU.out.x, RU.out.m, RU.out.f, RU.out.sim, (by have h := RU.out.b; omega), rfl, rfl, rfl, RU.out.bel⟩⟩
      have hlen := RT.out.sim.len
      obtain ⟨L, hL⟩ : ∃ L, s9.fl.length = L := ⟨_, rfl⟩
      rw [hL] at hlen
      have UP := box (up_any _ _ _ _ _ _ (RT.out.x.keep ((Below.refl _ _).drew)))
      have FLY := box (show Calls Try.prog 15 #[.pointer (some ⟨g, 0, none⟩)] wa.drew fun e w' => e = .returned (.int .i64 L) ∧ wa.drew = w' from by
        have h := flying_any _ _ _ _ _ _ (RT.out.x.keep ((Below.refl _ _).drew))
        rw [hL] at h
        exact h)
      have LOS := box (lost_any _ _ _ _ _ _ (RT.out.x.keep ((Below.refl _ _).drew)))
      have MQ := RT.out.m
      rw [RT.out.sim.up, RT.out.sim.lost, hlen] at MQ
      obtain ⟨p0, p1, p2, p3, p4, p5, p6, pz⟩ := MQ
      clear hlen hL
      generalize s9.up = u9 at UP p2
      generalize s9.lost = t9 at LOS p6
      go_wp2_with fail
      refine wp_region_held_drew (S := fun w' => w' = wa.drew) (by kernel_rfl) (rfl) (fun hHeld => ?_)
      refine wpAnyH_take (i := 0) (oi := { dst := some 94, op := Go.Op.move (Go.Operand.tmp 7), type := 24, pos := "law.go:92", after := #[], guard := none }) (v := ?_) rfl (by kernel_rfl) (by kernel_rfl) (by kernel_rfl) (fun _ _ _ h => h) (Or.inl ⟨by rfl, ?_⟩) (by assumption) ?_
      rotate_left
      · (intro w hSw; (try dsimp only at hSw); subst hSw; go_simp; (try with_reducible rfl))
      simp only [Act.put, List.setIfInBounds_toArray, List.set_cons_zero, List.set_cons_succ]
      refine wpAnyH_take (i := 2) (oi := { dst := some 96, op := Go.Op.fieldAddr 35 (Go.Operand.tmp 9) 2, type := 0, pos := "law.go:92", after := #[], guard := none }) (v := ?_) rfl (by kernel_rfl) (by kernel_rfl) (by kernel_rfl) (fun _ _ _ h => h) (Or.inl ⟨by rfl, ?_⟩) (by assumption) ?_
      rotate_left
      · (intro w hSw; (try dsimp only at hSw); subst hSw; go_simp; (try with_reducible rfl))
      simp only [Act.put, List.setIfInBounds_toArray, List.set_cons_zero, List.set_cons_succ]
      refine wpAnyH_take (i := 3) (oi := { dst := some 97, op := Go.Op.load 4 (Go.Operand.tmp 96), type := 4, pos := "law.go:92", after := #[{ on := 2, ground := Go.Ground.data }], guard := none }) (v := ?_) rfl (by kernel_rfl) (by kernel_rfl) (by kernel_rfl) (fun _ _ _ h => h) (Or.inl ⟨by rfl, ?_⟩) (by assumption) ?_
      rotate_left
      · (intro w hSw; (try dsimp only at hSw); subst hSw; go_simp; (try with_reducible rfl))
      simp only [Act.put, List.setIfInBounds_toArray, List.set_cons_zero, List.set_cons_succ]
      refine wpAnyH_take (i := 4) (oi := { dst := some 98, op := Go.Op.unOp Go.UnOp.not 4 (Go.Operand.tmp 97), type := 4, pos := "law.go:92", after := #[{ on := 3, ground := Go.Ground.data }], guard := none }) (v := ?_) rfl (by kernel_rfl) (by kernel_rfl) (by kernel_rfl) (fun _ _ _ h => h) (Or.inl ⟨by rfl, ?_⟩) (by assumption) ?_
      rotate_left
      · (intro w hSw; (try dsimp only at hSw); subst hSw; go_simp; (try with_reducible rfl))
      simp only [Act.put, List.setIfInBounds_toArray, List.set_cons_zero, List.set_cons_succ]
      refine wpAnyH_ready (rs := [1]) (by kernel_rfl) (by simp) ?_
      refine (AllReadyH.cons (o := { dst := some 95, op := Go.Op.call { callee := Go.Callee.value (Go.Operand.func 14), args := #[Go.Operand.tmp 94], argTypes := #[24] }, type := 4, pos := "law.go:92", after := #[{ on := 0, ground := Go.Ground.data }], guard := none }) rfl (fun K hK => ?_) AllReadyH.nil)
      go_simp
      refine UP.out.mono ?_
      rintro e wq1 ⟨rfl, hq1⟩
      subst hq1
      refine hK.out _ _ (rfl) (fun hHeld1 => ?_)
      clear hK K
      refine wpAnyH_take (i := 5) (oi := { dst := some 99, op := Go.Op.binOp Go.BinOp.neq 4 (Go.Operand.tmp 95) (Go.Operand.tmp 98) 4, type := 4, pos := "law.go:92", after := #[{ on := 1, ground := Go.Ground.data }, { on := 4, ground := Go.Ground.data }], guard := none }) (v := ?_) rfl (by kernel_rfl) (by kernel_rfl) (by kernel_rfl) (fun _ _ _ h => h) (Or.inl ⟨by rfl, ?_⟩) (by assumption) ?_
      rotate_left
      · (intro w hSw; (try dsimp only at hSw); subst hSw; go_simp; (try with_reducible rfl))
      simp only [Act.put, List.setIfInBounds_toArray, List.set_cons_zero, List.set_cons_succ]
      refine wpAnyH_take (i := 6) (oi := { dst := some 100, op := Go.Op.move (Go.Operand.tmp 99), type := 4, pos := "law.go:92", after := #[{ on := 5, ground := Go.Ground.data }, { on := 1, ground := Go.Ground.chain }], guard := none }) (v := ?_) rfl (by kernel_rfl) (by kernel_rfl) (by kernel_rfl) (fun _ _ _ h => h) (Or.inl ⟨by rfl, ?_⟩) (by assumption) ?_
      rotate_left
      · (intro w hSw; (try dsimp only at hSw); subst hSw; go_simp; (try with_reducible rfl))
      simp only [Act.put, List.setIfInBounds_toArray, List.set_cons_zero, List.set_cons_succ]
      refine wpAnyH_take (i := 7) (oi := { dst := some 101, op := Go.Op.move (Go.Operand.tmp 7), type := 24, pos := "law.go:92", after := #[{ on := 6, ground := Go.Ground.guard }], guard := some (6, false) }) (v := ?_) rfl (by kernel_rfl) (by kernel_rfl) (by kernel_rfl) (fun _ _ _ h => h) (Or.inl ⟨by rfl, ?_⟩) (by assumption) ?_
      rotate_left
      · (intro w hSw; (try dsimp only at hSw); subst hSw; go_simp; (try with_reducible rfl))
      simp only [Act.put, List.setIfInBounds_toArray, List.set_cons_zero, List.set_cons_succ]
      refine wpAnyH_take (i := 9) (oi := { dst := some 103, op := Go.Op.fieldAddr 35 (Go.Operand.tmp 9) 5, type := 0, pos := "law.go:92", after := #[{ on := 6, ground := Go.Ground.guard }], guard := some (6, false) }) (v := ?_) rfl (by kernel_rfl) (by kernel_rfl) (by kernel_rfl) (fun _ _ _ h => h) (Or.inl ⟨by rfl, ?_⟩) (by assumption) ?_
      rotate_left
      · (intro w hSw; (try dsimp only at hSw); subst hSw; go_simp; (try with_reducible rfl))
      simp only [Act.put, List.setIfInBounds_toArray, List.set_cons_zero, List.set_cons_succ]
      refine wpAnyH_take (i := 10) (oi := { dst := some 104, op := Go.Op.load 33 (Go.Operand.tmp 103), type := 33, pos := "law.go:92", after := #[{ on := 9, ground := Go.Ground.data }, { on := 6, ground := Go.Ground.guard }], guard := some (6, false) }) (v := ?_) rfl (by kernel_rfl) (by kernel_rfl) (by kernel_rfl) (fun _ _ _ h => h) (Or.inl ⟨by rfl, ?_⟩) (by assumption) ?_
      rotate_left
      · (intro w hSw; (try dsimp only at hSw); subst hSw; go_simp; (try with_reducible rfl))
      simp only [Act.put, List.setIfInBounds_toArray, List.set_cons_zero, List.set_cons_succ]
      refine wpAnyH_take (i := 11) (oi := { dst := some 105, op := Go.Op.call { callee := Go.Callee.builtin Go.Builtin.len, args := #[Go.Operand.tmp 104], argTypes := #[33] }, type := 3, pos := "law.go:92", after := #[{ on := 10, ground := Go.Ground.data }, { on := 6, ground := Go.Ground.guard }], guard := some (6, false) }) (v := ?_) rfl (by kernel_rfl) (by kernel_rfl) (by kernel_rfl) (fun _ _ _ h => h) (Or.inl ⟨by rfl, ?_⟩) (by assumption) ?_
      rotate_left
      · (intro w hSw; (try dsimp only at hSw); subst hSw; go_simp; (try with_reducible rfl))
      simp only [Act.put, List.setIfInBounds_toArray, List.set_cons_zero, List.set_cons_succ]
      refine wpAnyH_ready (rs := [8]) (by kernel_rfl) (by simp) ?_
      refine (AllReadyH.cons (o := { dst := some 102, op := Go.Op.call { callee := Go.Callee.value (Go.Operand.func 15), args := #[Go.Operand.tmp 101], argTypes := #[24] }, type := 3, pos := "law.go:92", after := #[{ on := 7, ground := Go.Ground.data }, { on := 6, ground := Go.Ground.chain }, { on := 6, ground := Go.Ground.guard }], guard := some (6, false) }) rfl (fun K hK => ?_) AllReadyH.nil)
      go_simp
      refine FLY.out.mono ?_
      rintro e wq2 ⟨rfl, hq2⟩
      subst hq2
      refine hK.out _ _ (rfl) (fun hHeld2 => ?_)
      clear hK K
      refine wpAnyH_take (i := 12) (oi := { dst := some 106, op := Go.Op.binOp Go.BinOp.neq 3 (Go.Operand.tmp 102) (Go.Operand.tmp 105) 3, type := 4, pos := "law.go:92", after := #[{ on := 8, ground := Go.Ground.data }, { on := 11, ground := Go.Ground.data }, { on := 6, ground := Go.Ground.guard }], guard := some (6, false) }) (v := ?_) rfl (by kernel_rfl) (by kernel_rfl) (by kernel_rfl) (fun _ _ _ h => h) (Or.inl ⟨by rfl, ?_⟩) (by assumption) ?_
      rotate_left
      · (intro w hSw; (try dsimp only at hSw); subst hSw; go_simp; (try with_reducible rfl))
      simp only [Act.put, List.setIfInBounds_toArray, List.set_cons_zero, List.set_cons_succ]
      refine wpAnyH_take (i := 13) (oi := { dst := some 107, op := Go.Op.pick (Go.Operand.tmp 100) (Go.Operand.const (Go.Value.bool true)) (Go.Operand.tmp 106), type := 4, pos := "law.go:92", after := #[{ on := 6, ground := Go.Ground.data }, { on := 12, ground := Go.Ground.data }], guard := none }) (v := ?_) rfl (by kernel_rfl) (by kernel_rfl) (by kernel_rfl) (fun _ _ _ h => h) (Or.inl ⟨by rfl, ?_⟩) (by assumption) ?_
      rotate_left
      · (intro w hSw; (try dsimp only at hSw); subst hSw; go_simp; (try with_reducible rfl))
      simp only [Act.put, List.setIfInBounds_toArray, List.set_cons_zero, List.set_cons_succ]
      refine wpAnyH_take (i := 14) (oi := { dst := some 108, op := Go.Op.move (Go.Operand.tmp 107), type := 4, pos := "law.go:92", after := #[{ on := 13, ground := Go.Ground.data }, { on := 8, ground := Go.Ground.chain }], guard := none }) (v := ?_) rfl (by kernel_rfl) (by kernel_rfl) (by kernel_rfl) (fun _ _ _ h => h) (Or.inl ⟨by rfl, ?_⟩) (by assumption) ?_
      rotate_left
      · (intro w hSw; (try dsimp only at hSw); subst hSw; go_simp; (try with_reducible rfl))
      simp only [Act.put, List.setIfInBounds_toArray, List.set_cons_zero, List.set_cons_succ]
      refine wpAnyH_take (i := 15) (oi := { dst := some 109, op := Go.Op.move (Go.Operand.tmp 7), type := 24, pos := "law.go:92", after := #[{ on := 14, ground := Go.Ground.guard }], guard := some (14, false) }) (v := ?_) rfl (by kernel_rfl) (by kernel_rfl) (by kernel_rfl) (fun _ _ _ h => h) (Or.inl ⟨by rfl, ?_⟩) (by assumption) ?_
      rotate_left
      · (intro w hSw; (try dsimp only at hSw); subst hSw; go_simp; (try with_reducible rfl))
      simp only [Act.put, List.setIfInBounds_toArray, List.set_cons_zero, List.set_cons_succ]
      refine wpAnyH_take (i := 17) (oi := { dst := some 111, op := Go.Op.fieldAddr 35 (Go.Operand.tmp 9) 6, type := 0, pos := "law.go:92", after := #[{ on := 14, ground := Go.Ground.guard }], guard := some (14, false) }) (v := ?_) rfl (by kernel_rfl) (by kernel_rfl) (by kernel_rfl) (fun _ _ _ h => h) (Or.inl ⟨by rfl, ?_⟩) (by assumption) ?_
      rotate_left
      · (intro w hSw; (try dsimp only at hSw); subst hSw; go_simp; (try with_reducible rfl))
      simp only [Act.put, List.setIfInBounds_toArray, List.set_cons_zero, List.set_cons_succ]
      refine wpAnyH_take (i := 18) (oi := { dst := some 112, op := Go.Op.load 3 (Go.Operand.tmp 111), type := 3, pos := "law.go:92", after := #[{ on := 17, ground := Go.Ground.data }, { on := 14, ground := Go.Ground.guard }], guard := some (14, false) }) (v := ?_) rfl (by kernel_rfl) (by kernel_rfl) (by kernel_rfl) (fun _ _ _ h => h) (Or.inl ⟨by rfl, ?_⟩) (by assumption) ?_
      rotate_left
      · (intro w hSw; (try dsimp only at hSw); subst hSw; go_simp; (try with_reducible rfl))
      simp only [Act.put, List.setIfInBounds_toArray, List.set_cons_zero, List.set_cons_succ]
      refine wpAnyH_ready (rs := [16]) (by kernel_rfl) (by simp) ?_
      refine (AllReadyH.cons (o := { dst := some 110, op := Go.Op.call { callee := Go.Callee.value (Go.Operand.func 16), args := #[Go.Operand.tmp 109], argTypes := #[24] }, type := 3, pos := "law.go:92", after := #[{ on := 15, ground := Go.Ground.data }, { on := 14, ground := Go.Ground.chain }, { on := 14, ground := Go.Ground.guard }], guard := some (14, false) }) rfl (fun K hK => ?_) AllReadyH.nil)
      go_simp
      refine LOS.out.mono ?_
      rintro e wq3 ⟨rfl, hq3⟩
      subst hq3
      refine hK.out _ _ (rfl) (fun hHeld3 => ?_)
      clear hK K
      refine wpAnyH_take (i := 19) (oi := { dst := some 113, op := Go.Op.binOp Go.BinOp.neq 3 (Go.Operand.tmp 110) (Go.Operand.tmp 112) 3, type := 4, pos := "law.go:92", after := #[{ on := 16, ground := Go.Ground.data }, { on := 18, ground := Go.Ground.data }, { on := 14, ground := Go.Ground.guard }], guard := some (14, false) }) (v := ?_) rfl (by kernel_rfl) (by kernel_rfl) (by kernel_rfl) (fun _ _ _ h => h) (Or.inl ⟨by rfl, ?_⟩) (by assumption) ?_
      rotate_left
      · (intro w hSw; (try dsimp only at hSw); subst hSw; go_simp; (try with_reducible rfl))
      simp only [Act.put, List.setIfInBounds_toArray, List.set_cons_zero, List.set_cons_succ]
      refine wpAnyH_take (i := 20) (oi := { dst := some 114, op := Go.Op.pick (Go.Operand.tmp 108) (Go.Operand.const (Go.Value.bool true)) (Go.Operand.tmp 113), type := 4, pos := "law.go:92", after := #[{ on := 14, ground := Go.Ground.data }, { on := 19, ground := Go.Ground.data }], guard := none }) (v := ?_) rfl (by kernel_rfl) (by kernel_rfl) (by kernel_rfl) (fun _ _ _ h => h) (Or.inl ⟨by rfl, ?_⟩) (by assumption) ?_
      rotate_left
      · (intro w hSw; (try dsimp only at hSw); subst hSw; go_simp; (try with_reducible rfl))
      simp only [Act.put, List.setIfInBounds_toArray, List.set_cons_zero, List.set_cons_succ]
      refine wpAnyH_done (by kernel_rfl) ?_ _
      clear p0 p1 p2 p3 p4 p5 p6 pz
      go_wp2_with fail
      go_roundw
      case rel => exact ⟨k + 1, v9, s9, la9, lc9, r9, by omega, by go_num, box (RT.out.keep ((Below.refl _ _).drew))⟩
      case measure => simp [intOf]; omega
    · have HKM := box (show k = m by omega)
      go_wp2_with fail
      go_ret
      exact ⟨rfl, B2.out.trans (hRU.out.bel.mono B2S.out)⟩
end Go.Proofs.Ytoeedbimhihbhaa
