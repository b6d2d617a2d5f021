/- CreditTaker: its walk. -/
import Derived.Test.YtoolphpideicoaaCreN
import Derived.Test.YtoolphpideicoaaCreLK
import Derived.Deep.CutBlock
namespace Go.Proofs.Ytoolphpideicoaa
open Go.RowKit

/-- The reference's takers in memory. -/
structure MtAt (w : World) (b : Nat) (l : List Tc) : Prop where
  c0 : ∀ i (h : i < l.length), w.cell? ⟨b, i * 2, none⟩ = some (.int .i64 l[i].s)
  c1 : ∀ i (h : i < l.length), w.cell? ⟨b, i * 2 + 1, none⟩ = some (.int .i64 l[i].l)
  z : ∀ j, w.frozen? ⟨b, j, none⟩ = false
  lt : b < w.heap.size
theorem MtAt.same {w w' : World} {b : Nat} {l : List Tc} (x : MtAt w b l) (hs : w.heap.size ≤ w'.heap.size) (e : w'.heap[b]? = w.heap[b]?) : MtAt w' b l :=
  ⟨fun i h => (World.cell?_of_block (a := ⟨b, i * 2, none⟩) e).trans (x.c0 i h), fun i h => (World.cell?_of_block (a := ⟨b, i * 2 + 1, none⟩) e).trans (x.c1 i h), fun j => (World.frozen?_of_block (a := ⟨b, j, none⟩) e).trans (x.z j), Nat.lt_of_lt_of_le x.lt hs⟩
theorem MtAt.keep {w w' : World} {b : Nat} {l : List Tc} (x : MtAt w b l) (hb : Below w.heap.size w w') : MtAt w' b l := x.same hb.size (hb.block b x.lt)
theorem MtAt.one {w : World} {b : Nat} {l : List Tc} (x : MtAt w b l) {k : Nat} {c : Tc} (hc : l[k]? = some c) : w.cell? ⟨b, k * 2, none⟩ = some (.int .i64 c.s) ∧ w.cell? ⟨b, k * 2 + 1, none⟩ = some (.int .i64 c.l) ∧ w.frozen? ⟨b, k * 2, none⟩ = false ∧ w.frozen? ⟨b, k * 2 + 1, none⟩ = false := by
  obtain ⟨hk, e⟩ := List.getElem?_eq_some_iff.1 hc
  have h0 := x.c0 k hk
  have h1 := x.c1 k hk
  rw [e] at h0 h1
  exact ⟨h0, h1, x.z _, x.z _⟩
theorem MtAt.store {w : World} {b : Nat} {l : List Tc} (x : MtAt w b l) {k : Nat} (hk : k < l.length) (c : Tc) : MtAt ((w.setCell ⟨b, k * 2, none⟩ (.int .i64 c.s)).setCell ⟨b, k * 2 + 1, none⟩ (.int .i64 c.l)) b (l.set k c) := by
  refine ⟨fun i hi => ?_, fun i hi => ?_, fun j => by rw [World.frozen?_setCell, World.frozen?_setCell]; exact x.z j, by simp; exact x.lt⟩
  · have hi' : i < l.length := by simpa using hi
    by_cases h : i = k
    · subst h
      rw [List.getElem_set_self]
      exact cell_else (by omega) (cell_put (x.c0 i hi') _) _
    · rw [List.getElem_set_ne (fun e => h e.symm)]
      exact cell_else (by omega) (cell_else (by omega) (x.c0 i hi') _) _
  · have hi' : i < l.length := by simpa using hi
    by_cases h : i = k
    · subst h
      rw [List.getElem_set_self]
      exact cell_put (cell_else (by omega) (x.c1 i hi') _) _
    · rw [List.getElem_set_ne (fun e => h e.symm)]
      exact cell_else (by omega) (cell_else (by omega) (x.c1 i hi') _) _
/-- A taker and the reference's takers. -/
structure TE (B : Nat) (w0 w : World) (g h : Nat) (l : List Tc) (b : Nat) (lm : List Tc) : Prop where
  xt : TkAt w g h l
  xm : MtAt w b lm
  bel : Below B w0 w
  sz : B ≤ w.heap.size
  bh : B ≤ h
  bb : B ≤ b
  n1 : b ≠ h
  n2 : g ≠ b
section
variable {B : Nat} {w0 w w' : World} {g h b : Nat} {l l' lm lm' : List Tc}
theorem TE.keep (x : TE B w0 w g h l b lm) (hb : Below w.heap.size w w') : TE B w0 w' g h l b lm :=
  ⟨x.xt.keep hb, x.xm.keep hb, x.bel.trans (hb.mono x.sz), Nat.le_trans x.sz hb.size, x.bh, x.bb, x.n1, x.n2⟩
theorem TE.taker (x : TE B w0 w g h l b lm) (x' : TkAt w' g h l') (a : Apart h none w w') : TE B w0 w' g h l' b lm :=
  ⟨x', x.xm.same a.size (a.block b x.xm.lt x.n1 (by simp)), a.below x.bel x.sz x.bh (fun k hk => by cases hk), Nat.le_trans x.sz a.size, x.bh, x.bb, x.n1, x.n2⟩
theorem TE.ref (x : TE B w0 w g h l b lm) (x' : MtAt w' b lm') (a : Apart b none w w') : TE B w0 w' g h l b lm' :=
  ⟨x.xt.apart a x.n2 (fun e => x.n1 e.symm), x', a.below x.bel x.sz x.bb (fun k hk => by cases hk), Nat.le_trans x.sz a.size, x.bh, x.bb, x.n1, x.n2⟩
end
theorem Apart.heap {g : Nat} {r : Option Nat} {w w' w'' : World} (x : Apart g r w w') (e1 : w''.os = w'.os) (e2 : w''.tape = w'.tape) (e3 : w''.output = w'.output) (e : w''.heap = w'.heap) : Apart g r w w'' :=
  ⟨e1.trans x.os, e2.trans x.tape, e3.trans x.output, by rw [e]; exact x.size, fun k hk a b => by rw [e]; exact x.block k hk a b⟩
theorem cell_far {w : World} {g i h j : Nat} {u : Value} (hgh : g ≠ h) (x : w.cell? ⟨h, j, none⟩ = some u) (v : Value) : (w.setCell ⟨g, i, none⟩ v).cell? ⟨h, j, none⟩ = some u := by
  rw [World.cell?_of_block (a := ⟨h, j, none⟩) (heap_else hgh v)]; exact x
/-- A struct stored into the reference's list. -/
theorem TE.store {B : Nat} {w0 w w1 wf : World} {g h b k : Nat} {l lm : List Tc} (x : TE B w0 w g h l b lm) (b1 : Below w.heap.size w w1) (hk : k < lm.length) (c : Tc)
    (e1 : wf.os = w1.os) (e2 : wf.tape = w1.tape) (e3 : wf.output = w1.output) (e : wf.heap = ((w1.setCell ⟨b, k * 2, none⟩ (.int .i64 c.s)).setCell ⟨b, k * 2 + 1, none⟩ (.int .i64 c.l)).heap) : TE B w0 wf g h l b (lm.set k c) := by
  have x1 := x.keep b1
  have m := x1.xm.store hk c
  refine x1.ref (m.same (by rw [e]; exact Nat.le_refl _) (by rw [e])) ?_
  exact ((((Apart.refl b none w1).setCell (k * 2) (.int .i64 c.s)).setCell (k * 2 + 1) (.int .i64 c.l)).heap (w'' := wf) e1 e2 e3 e)
theorem Try.infoRt : (Try.prog.info? 52).map (fun i => (i.zero, i.size, i.bytes)) = some (some (.agg #[.int .i64 0, .int .i64 0]), 2, 16) := by kernel_rfl
theorem acts_at {w : World} {a : Option Addr} {l : List Act'} (h : Acts w a l) {j : Nat} (hj : j < l.length) : ∃ g o, a = some ⟨g, o, none⟩ ∧ w.cell? ⟨g, o + j * 3, none⟩ = some (.int .i64 l[j].kind) ∧ w.cell? ⟨g, o + j * 3 + 1, none⟩ = some (.int .i64 l[j].cls) ∧ w.cell? ⟨g, o + j * 3 + 2, none⟩ = some (.int .i64 l[j].num) := by
  rcases h with rfl | ⟨g, o, e, h⟩
  · cases hj
  · exact ⟨g, o, e, h j hj⟩

set_option maxRecDepth 100000 in
set_option maxHeartbeats 8000000 in
theorem taker_any (y0 : Nat) (h0 : y0 < 256) (a : Option Addr) (m cp : Nat) (xs : List Act') (hm : xs.length = m) (w : World) (hin : Acts w a xs) :
    Calls Try.prog 5 #[nU8 y0, .slice a m cp] w fun e w' => e = .returned (.bool true) ∧ Below w.heap.size w w' := by
  obtain ⟨n, hn⟩ : ∃ n, 1 + y0 % 4 = n := ⟨_, rfl⟩
  have hn2 : 1 + (y0 : Int) % 4 = (n : Int) := by omega
  have hn3 : 1 ≤ n ∧ n ≤ 4 := by omega
  clear hn
  have AW := box (awake_any w)
  have HI := box hin
  have HM := box hm
  clear hin hm
  go_enter Try.func5, Try.ntmps5
  go_wp2_with fail
  refine AW.out.mono ?_
  rintro e w1 ⟨rfl, b1⟩
  have B1 := box b1
  clear AW b1
  by_cases h40 : 40 < m
  · go_wp2_with fail
    go_ret
    exact ⟨rfl, B1.out⟩
  · have NT := box (newt_any n hn3.1 hn3.2 n rfl w1)
    go_wp2_with fail
    refine NT.out.mono ?_
    rintro e w2 ⟨g, h, rfl, xt, hg, hh, b2⟩
    have B2 := box (B1.out.trans (b2.mono B1.out.size))
    obtain ⟨ti, hi1, hz1, hs1, hb1⟩ := info_parts Try.infoRt
    have mk := run_make (P := Try.prog) w2 50 52 ti _ Try.underlying50 hi1 hz1 .i64 .i64 n n (by omega) (Int.le_refl _) (by rw [hb1]; omega) (by omega)
    rw [hs1] at mk
    simp only [Int.toNat_natCast] at mk
    have hcs : (Value.agg #[.int .i64 0, .int .i64 0]).cells = #[.int .i64 0, .int .i64 0] := by rfl
    rw [hcs] at mk
    have C := made_cell w2 #[.int .i64 0, .int .i64 0] (.int .i64 0) (fun i hi => by match i, hi with | 0, _ => rfl | 1, _ => rfl) (by decide) (n * 2) 52
    have Z := unfrozen w2 (madeCells #[.int .i64 0, .int .i64 0] (n * 2)) 52
    have kA : Below w2.heap.size w2 (w2.alloc (.cells (madeCells #[.int .i64 0, .int .i64 0] (n * 2)) 52)) := (Below.refl _ _).alloc (Nat.le_refl _) _
    have E0 := box (show TE w.heap.size w (w2.alloc (.cells (madeCells #[.int .i64 0, .int .i64 0] (n * 2)) 52)) g h (List.replicate n ⟨0, 0⟩) w2.heap.size (List.replicate n ⟨0, 0⟩) from
      ⟨xt.keep kA, ⟨fun i hi => by rw [List.getElem_replicate]; simp at hi; exact C _ (by omega), fun i hi => by rw [List.getElem_replicate]; simp at hi; exact C _ (by omega), Z, by rw [size_alloc']; omega⟩, B2.out.trans (kA.mono B2.out.size), Nat.le_trans B2.out.size kA.size, Nat.le_trans B1.out.size hh, B2.out.size, by have := xt.lt; omega, by have := xt.glt; omega⟩)
    clear NT xt hg hh b2 C Z kA hcs hi1 hz1 hs1 hb1 B2
    obtain ⟨b, hb⟩ : ∃ b, w2.heap.size = b := ⟨_, rfl⟩
    have HB := box hb
    rw [hb] at mk E0
    clear hb
    go_wp2_with fail
    clear mk
    generalize w2.alloc (.cells (madeCells #[.int .i64 0, .int .i64 0] (n * 2)) 52) = wa at E0 ⊢
    have AOK := box (show ∀ c ∈ List.replicate n (⟨0, 0⟩ : Tc), c.Ok from fun c hc => by rw [List.eq_of_mem_replicate hc]; exact ⟨Nat.le_refl _, Nat.zero_le _⟩)
    have AL := box (show (List.replicate n (⟨0, 0⟩ : Tc)).length = n from List.length_replicate)
    generalize List.replicate n (⟨0, 0⟩ : Tc) = l0 at E0 AOK AL
    go_loopw [38] (fun t38 wr => ∃ (i : Nat) (l : List Tc), i ≤ m ∧ t38 = .int .i64 i ∧ l.length = n ∧ Box (∀ c ∈ l, c.Ok) ∧ Box (TE w.heap.size w wr g h l b l)) (fun t38 _ => m - (intOf t38).toNat)
    case atStart => exact ⟨0, l0, by omega, rfl, AL.out, AOK, E0⟩
    case round =>
      clear E0 AOK AL B1
      obtain ⟨i, l, hi, rfl, hln, hO, hE⟩ := hrel
      by_cases him : i < m
      · obtain ⟨ga, oa, rfl, c0, c1, c2⟩ := acts_at HI.out (show i < xs.length by rw [HM.out]; exact him)
        replace c0 := keepc hE.out.bel c0
        replace c1 := keepc hE.out.bel c1
        replace c2 := keepc hE.out.bel c2
        obtain ⟨kd, hkd⟩ : ∃ kd, (xs[i]'(by rw [HM.out]; exact him)).kind = kd := ⟨_, rfl⟩
        obtain ⟨cl, hcl⟩ : ∃ cl, (xs[i]'(by rw [HM.out]; exact him)).cls = cl := ⟨_, rfl⟩
        obtain ⟨nm, hnm⟩ : ∃ nm, (xs[i]'(by rw [HM.out]; exact him)).num = nm := ⟨_, rfl⟩
        rw [hkd] at c0
        rw [hcl] at c1
        rw [hnm] at c2
        clear hkd hcl hnm
        have kA : Below wr.heap.size wr (wr.alloc (.cells #[.int .i64 kd, .int .i64 cl, .int .i64 nm] 43)) := (Below.refl _ _).alloc (Nat.le_refl _) _
        have E1 := box (hE.out.keep kA)
        have X1 := box (R3.new wr (.int .i64 kd) (.int .i64 cl) (.int .i64 nm) 43 wr.heap.size rfl)
        have XB := box (show w.heap.size ≤ wr.heap.size ∧ wr.heap.size ≠ h ∧ wr.heap.size ≠ b from ⟨hE.out.sz, by have := hE.out.xt.lt; omega, by have := hE.out.xm.lt; omega⟩)
        obtain ⟨mm, hmm⟩ : ∃ mm, wr.heap.size = mm := ⟨_, rfl⟩
        have HMM := box hmm
        rw [hmm] at X1 XB
        clear kA hE
        go_upto_region 13 with fail
        (try simp only [HMM.out])
        generalize wr.alloc (.cells #[.int .i64 kd, .int .i64 cl, .int .i64 nm] 43) = wb at E1 X1 ⊢
        clear c0 c1 c2 hmm
        obtain ⟨p0, p1, p2, pz⟩ := X1.out
        by_cases hbad : cl < 0 ∨ (n : Int) ≤ cl
        · by_cases hb1 : cl < 0
          · have C1 := box (raise_bad nm cl g h l (by rw [hln]; exact hbad) wb E1.out.xt)
            go_wp2_with fail
            refine C1.out.mono ?_
            rintro e wc ⟨rfl, bc⟩
            have E2 := box (E1.out.keep bc)
            have X2 := box (X1.out.keep bc)
            obtain ⟨r0, r1, r2, rz⟩ := X2.out
            have C2 := box (take_bad cl g h l (by rw [hln]; exact hbad) wc E2.out.xt)
            have C3 := box (sent_bad cl g h l (by rw [hln]; exact hbad) wc E2.out.xt)
            have C4 := box (left_bad cl g h l (by rw [hln]; exact hbad) wc E2.out.xt)
            clear C1 bc p0 p1 p2 pz E1 X1
            go_wp2_with fail
            refine C2.out.mono ?_
            rintro e wd ⟨rfl, rfl⟩
            go_wp2_with fail
            refine C3.out.mono ?_
            rintro e wd ⟨rfl, rfl⟩
            go_wp2_with fail
            refine C4.out.mono ?_
            rintro e wd ⟨rfl, rfl⟩
            go_wp2_with fail
            go_roundw
            case rel => exact ⟨i + 1, l, by omega, by go_num, hln, hO, E2⟩
            case measure => simp [intOf]; omega
          · have hb2 : (n : Int) ≤ cl := by omega
            have C1 := box (raise_bad nm cl g h l (by rw [hln]; exact hbad) wb E1.out.xt)
            go_wp2_with fail
            refine C1.out.mono ?_
            rintro e wc ⟨rfl, bc⟩
            have E2 := box (E1.out.keep bc)
            have X2 := box (X1.out.keep bc)
            obtain ⟨r0, r1, r2, rz⟩ := X2.out
            have C2 := box (take_bad cl g h l (by rw [hln]; exact hbad) wc E2.out.xt)
            have C3 := box (sent_bad cl g h l (by rw [hln]; exact hbad) wc E2.out.xt)
            have C4 := box (left_bad cl g h l (by rw [hln]; exact hbad) wc E2.out.xt)
            clear C1 bc p0 p1 p2 pz E1 X1
            go_wp2_with fail
            refine C2.out.mono ?_
            rintro e wd ⟨rfl, rfl⟩
            go_wp2_with fail
            refine C3.out.mono ?_
            rintro e wd ⟨rfl, rfl⟩
            go_wp2_with fail
            refine C4.out.mono ?_
            rintro e wd ⟨rfl, rfl⟩
            go_wp2_with fail
            go_roundw
            case rel => exact ⟨i + 1, l, by omega, by go_num, hln, hO, E2⟩
            case measure => simp [intOf]; omega
        · obtain ⟨k, rfl⟩ : ∃ k : Nat, cl = k := ⟨cl.toNat, by omega⟩
          have hkn : k < n := by omega
          have hkl : k < l.length := by omega
          obtain ⟨c, hc⟩ : ∃ c, l[k]? = some c := ⟨_, List.getElem?_eq_getElem hkl⟩
          have CO := box (hO.out c (List.mem_of_getElem? hc))
          have HC := box hc
          clear hbad hc
          go_upto_block 2 with fail
          go_cut [11, 12] (fun t11 t12 wx => ∃ (E : Int) (l' : List Tc), t11 = .int .i64 E ∧ t12 = .int .i64 E ∧ l'.length = n ∧ Box (∀ c ∈ l', c.Ok) ∧ Box (TE w.heap.size w wx g h l' b l'))
          case first =>
            by_cases k3 : kd = 3
            · subst k3
              have C1 := box (raise_any nm k k rfl g h l wb E1.out.xt c HC.out CO.out)
              go_wp2_with fail
              refine C1.out.mono ?_
              rintro e wc ⟨rfl, x2, a2⟩
              have E2 := box (E1.out.taker x2 a2)
              have X2 := box (X1.out.same (a2.block mm X1.out.lt XB.out.2.1 (by simp)))
              obtain ⟨r0, r1, r2, rz⟩ := X2.out
              obtain ⟨m0, m1, mz0, mz1⟩ := E2.out.xm.one HC.out
              have RA := fun w => box (rraise_any c CO.out nm w)
              have NL := box (show (l.set k (c.rsC nm)).length = n ∧ ∀ x ∈ l.set k (c.rsC nm), x.Ok from ⟨by rw [List.length_set]; exact hln, fun x hx => by
                rcases List.mem_or_eq_of_mem_set hx with hx | hx
                · exact hO.out x hx
                · rw [hx]; exact CO.out.rs _⟩)
              clear C1 x2 a2 p0 p1 p2 pz X1 E1
              obtain ⟨c', hc'⟩ : ∃ c', c.rsC nm = c' := ⟨_, rfl⟩
              obtain ⟨EE, hEE⟩ : ∃ EE, Tc.rsE nm = EE := ⟨_, rfl⟩
              rw [hc'] at E2 NL
              rw [hc', hEE] at RA
              rw [hEE]
              have FIN := fun (w5 wf : World) (b5 : Below wc.heap.size wc w5) e1 e2 e3 e => box (E2.out.store (k := k) (w1 := w5) (wf := wf) b5 hkl c' e1 e2 e3 e)
              unfold tcV at RA
              clear hc' hEE
              go_upto_region 20 with fail
              have r1d : wc.drew.cell? ⟨mm, 1, none⟩ = some (.int .i64 (k : Int)) := r1
              have r2d : wc.drew.cell? ⟨mm, 2, none⟩ = some (.int .i64 nm) := r2
              have m0d : wc.drew.cell? ⟨b, k * 2, none⟩ = some (.int .i64 (c.s : Int)) := m0
              have m1d : wc.drew.cell? ⟨b, k * 2 + 1, none⟩ = some (.int .i64 (c.l : Int)) := m1
              refine wp_region_held_drew (S := (fun w' => w'.cell? ⟨mm, 1, none⟩ = some (.int .i64 (k : Int)) ∧ w'.cell? ⟨mm, 2, none⟩ = some (.int .i64 nm))) (by kernel_rfl) (⟨r1d, r2d⟩) (fun hHeld => ?_)
              refine wpAnyH_take (i := 0) (oi := { dst := some 90, op := Go.Op.move (Go.Operand.tmp 8), type := 50, pos := "law.go:132", after := #[], guard := none }) (v := ?_) rfl (by kernel_rfl) (by kernel_rfl) (by kernel_rfl) (fun _ _ _ h => h) (Or.inl ⟨by rfl, ?_⟩) (by assumption) ?_
              rotate_left
              · (intro w hSw; (try dsimp only at hSw); go_simp; (try with_reducible rfl))
              simp only [Act.put, List.setIfInBounds_toArray, List.set_cons_zero, List.set_cons_succ]
              refine wpAnyH_take (i := 1) (oi := { dst := some 91, op := Go.Op.fieldAddr 43 (Go.Operand.tmp 10) 1, type := 0, pos := "law.go:132", after := #[], guard := none }) (v := ?_) rfl (by kernel_rfl) (by kernel_rfl) (by kernel_rfl) (fun _ _ _ h => h) (Or.inl ⟨by rfl, ?_⟩) (by assumption) ?_
              rotate_left
              · (intro w hSw; (try dsimp only at hSw); go_simp; (try with_reducible rfl))
              simp only [Act.put, List.setIfInBounds_toArray, List.set_cons_zero, List.set_cons_succ]
              refine wpAnyH_take (i := 2) (oi := { dst := some 92, op := Go.Op.load 3 (Go.Operand.tmp 91), type := 3, pos := "law.go:132", after := #[{ on := 1, ground := Go.Ground.data }], guard := none }) (v := ?_) rfl (by kernel_rfl) (by kernel_rfl) (by kernel_rfl) (fun _ _ _ h => h) (Or.inl ⟨by rfl, ?_⟩) (by assumption) ?_
              rotate_left
              · (intro w hSw; (try dsimp only at hSw); go_simp; (try with_reducible rfl))
              simp only [Act.put, List.setIfInBounds_toArray, List.set_cons_zero, List.set_cons_succ]
              refine wpAnyH_take (i := 3) (oi := { dst := some 93, op := Go.Op.move (Go.Operand.tmp 8), type := 50, pos := "law.go:132", after := #[], guard := none }) (v := ?_) rfl (by kernel_rfl) (by kernel_rfl) (by kernel_rfl) (fun _ _ _ h => h) (Or.inl ⟨by rfl, ?_⟩) (by assumption) ?_
              rotate_left
              · (intro w hSw; (try dsimp only at hSw); go_simp; (try with_reducible rfl))
              simp only [Act.put, List.setIfInBounds_toArray, List.set_cons_zero, List.set_cons_succ]
              refine wpAnyH_take (i := 4) (oi := { dst := some 94, op := Go.Op.fieldAddr 43 (Go.Operand.tmp 10) 1, type := 0, pos := "law.go:132", after := #[], guard := none }) (v := ?_) rfl (by kernel_rfl) (by kernel_rfl) (by kernel_rfl) (fun _ _ _ h => h) (Or.inl ⟨by rfl, ?_⟩) (by assumption) ?_
              rotate_left
              · (intro w hSw; (try dsimp only at hSw); go_simp; (try with_reducible rfl))
              simp only [Act.put, List.setIfInBounds_toArray, List.set_cons_zero, List.set_cons_succ]
              refine wpAnyH_take (i := 5) (oi := { dst := some 95, op := Go.Op.load 3 (Go.Operand.tmp 94), type := 3, pos := "law.go:132", after := #[{ on := 4, ground := Go.Ground.data }], guard := none }) (v := ?_) rfl (by kernel_rfl) (by kernel_rfl) (by kernel_rfl) (fun _ _ _ h => h) (Or.inl ⟨by rfl, ?_⟩) (by assumption) ?_
              rotate_left
              · (intro w hSw; (try dsimp only at hSw); go_simp; (try with_reducible rfl))
              simp only [Act.put, List.setIfInBounds_toArray, List.set_cons_zero, List.set_cons_succ]
              refine wpAnyH_take (i := 6) (oi := { dst := some 96, op := Go.Op.indexAddr 50 (Go.Operand.tmp 93) (Go.Operand.tmp 95), type := 0, pos := "law.go:132", after := #[{ on := 3, ground := Go.Ground.data }, { on := 5, ground := Go.Ground.data }], guard := none }) (v := ?_) rfl (by kernel_rfl) (by kernel_rfl) (by kernel_rfl) (fun _ _ _ h => h) (Or.inl ⟨by rfl, ?_⟩) (by assumption) ?_
              rotate_left
              · (intro w hSw; (try dsimp only at hSw); go_simp; (try with_reducible rfl))
              simp only [Act.put, List.setIfInBounds_toArray, List.set_cons_zero, List.set_cons_succ]
              refine wpAnyH_take (i := 8) (oi := { dst := some 98, op := Go.Op.fieldAddr 43 (Go.Operand.tmp 10) 2, type := 0, pos := "law.go:132", after := #[], guard := none }) (v := ?_) rfl (by kernel_rfl) (by kernel_rfl) (by kernel_rfl) (fun _ _ _ h => h) (Or.inl ⟨by rfl, ?_⟩) (by assumption) ?_
              rotate_left
              · (intro w hSw; (try dsimp only at hSw); go_simp; (try with_reducible rfl))
              simp only [Act.put, List.setIfInBounds_toArray, List.set_cons_zero, List.set_cons_succ]
              refine wpAnyH_take (i := 9) (oi := { dst := some 99, op := Go.Op.load 3 (Go.Operand.tmp 98), type := 3, pos := "law.go:132", after := #[{ on := 8, ground := Go.Ground.data }], guard := none }) (v := ?_) rfl (by kernel_rfl) (by kernel_rfl) (by kernel_rfl) (fun _ _ _ h => h) (Or.inl ⟨by rfl, ?_⟩) (by assumption) ?_
              rotate_left
              · (intro w hSw; (try dsimp only at hSw); go_simp; (try with_reducible rfl))
              simp only [Act.put, List.setIfInBounds_toArray, List.set_cons_zero, List.set_cons_succ]
              refine wpAnyH_ready (rs := [7]) (by kernel_rfl) (by simp) ?_
              refine (AllReadyH.cons (o := { dst := some 97, op := Go.Op.load 52 (Go.Operand.tmp 96), type := 52, pos := "law.go:132", after := #[{ on := 6, ground := Go.Ground.data }], guard := none }) rfl (fun K hK => ?_) AllReadyH.nil)
              go_simp
              refine hK.out _ _ (⟨r1d, r2d⟩) (fun hHelda => ?_)
              clear hK K
              refine wpAnyH_ready (rs := [10]) (by kernel_rfl) (by simp) ?_
              refine (AllReadyH.cons (o := { dst := some 100, op := Go.Op.call { callee := Go.Callee.value (Go.Operand.func 28), args := #[Go.Operand.tmp 97, Go.Operand.tmp 99], argTypes := #[52, 3] }, type := 53, pos := "law.go:132", after := #[{ on := 7, ground := Go.Ground.data }, { on := 9, ground := Go.Ground.data }], guard := none }) rfl (fun K hK => ?_) AllReadyH.nil)
              go_simp
              refine (RA _).out.mono ?_
              rintro e w5 ⟨rfl, b5⟩
              have b6 : Below wc.heap.size wc w5 := ⟨b5.os, b5.tape, b5.output, b5.size, b5.block⟩
              obtain ⟨n0, n1, nz0, nz1⟩ := (E2.out.keep b6).xm.one HC.out
              have s1 := keepc b6 r1
              have s2 := keepc b6 r2
              have o1 := fun v1 v2 => cell_far (i := k * 2 + 1) (Ne.symm XB.out.2.2) (cell_far (i := k * 2) (Ne.symm XB.out.2.2) s1 v1) v2
              have o2 := fun v1 v2 => cell_far (i := k * 2 + 1) (Ne.symm XB.out.2.2) (cell_far (i := k * 2) (Ne.symm XB.out.2.2) s2 v1) v2
              refine hK.out _ _ (⟨s1, s2⟩) (fun hHeldb => ?_)
              clear hK K
              refine wpAnyH_take (i := 11) (oi := { dst := some 89, op := Go.Op.move (Go.Operand.tmp 100), type := 53, pos := "law.go:132", after := #[{ on := 10, ground := Go.Ground.data }], guard := none }) (v := ?_) rfl (by kernel_rfl) (by kernel_rfl) (by kernel_rfl) (fun _ _ _ h => h) (Or.inl ⟨by rfl, ?_⟩) (by assumption) ?_
              rotate_left
              · (intro w hSw; (try dsimp only at hSw); go_simp; (try with_reducible rfl))
              simp only [Act.put, List.setIfInBounds_toArray, List.set_cons_zero, List.set_cons_succ]
              refine wpAnyH_take (i := 12) (oi := { dst := some 101, op := Go.Op.extract (Go.Operand.tmp 89) 0, type := 52, pos := "law.go:132", after := #[{ on := 11, ground := Go.Ground.data }], guard := none }) (v := ?_) rfl (by kernel_rfl) (by kernel_rfl) (by kernel_rfl) (fun _ _ _ h => h) (Or.inl ⟨by rfl, ?_⟩) (by assumption) ?_
              rotate_left
              · (intro w hSw; (try dsimp only at hSw); go_simp; (try with_reducible rfl))
              simp only [Act.put, List.setIfInBounds_toArray, List.set_cons_zero, List.set_cons_succ]
              refine wpAnyH_take (i := 13) (oi := { dst := some 102, op := Go.Op.extract (Go.Operand.tmp 89) 1, type := 3, pos := "law.go:132", after := #[{ on := 11, ground := Go.Ground.data }, { on := 15, ground := Go.Ground.gcOnly Go.Departure.lateStores }], guard := none }) (v := ?_) rfl (by kernel_rfl) (by kernel_rfl) (by kernel_rfl) (fun _ _ _ h => h) (Or.inl ⟨by rfl, ?_⟩) (by assumption) ?_
              rotate_left
              · (intro w hSw; (try dsimp only at hSw); go_simp; (try with_reducible rfl))
              simp only [Act.put, List.setIfInBounds_toArray, List.set_cons_zero, List.set_cons_succ]
              refine wpAnyH_take (i := 14) (oi := { dst := some 103, op := Go.Op.indexAddr 50 (Go.Operand.tmp 90) (Go.Operand.tmp 92), type := 0, pos := "law.go:132", after := #[{ on := 0, ground := Go.Ground.data }, { on := 2, ground := Go.Ground.data }, { on := 0, ground := Go.Ground.phase }, { on := 1, ground := Go.Ground.phase }, { on := 2, ground := Go.Ground.phase }, { on := 3, ground := Go.Ground.phase }, { on := 4, ground := Go.Ground.phase }, { on := 5, ground := Go.Ground.phase }, { on := 6, ground := Go.Ground.phase }, { on := 7, ground := Go.Ground.phase }, { on := 8, ground := Go.Ground.phase }, { on := 9, ground := Go.Ground.phase }, { on := 10, ground := Go.Ground.phase }, { on := 11, ground := Go.Ground.phase }, { on := 12, ground := Go.Ground.phase }, { on := 13, ground := Go.Ground.textOnly Go.Departure.lateStores }], guard := none }) (v := ?_) rfl (by kernel_rfl) (by kernel_rfl) (by kernel_rfl) (fun _ _ _ h => h) (Or.inl ⟨by rfl, ?_⟩) (by assumption) ?_
              rotate_left
              · (intro w hSw; (try dsimp only at hSw); go_simp; (try with_reducible rfl))
              simp only [Act.put, List.setIfInBounds_toArray, List.set_cons_zero, List.set_cons_succ]
              refine wpAnyH_ready (rs := [15]) (by kernel_rfl) (by simp) ?_
              refine (AllReadyH.cons (o := { dst := none, op := Go.Op.store 52 (Go.Operand.tmp 103) (Go.Operand.tmp 101), type := 0, pos := "law.go:132", after := #[{ on := 14, ground := Go.Ground.data }, { on := 12, ground := Go.Ground.data }, { on := 10, ground := Go.Ground.chain }, { on := 0, ground := Go.Ground.phase }, { on := 1, ground := Go.Ground.phase }, { on := 2, ground := Go.Ground.phase }, { on := 3, ground := Go.Ground.phase }, { on := 4, ground := Go.Ground.phase }, { on := 5, ground := Go.Ground.phase }, { on := 6, ground := Go.Ground.phase }, { on := 7, ground := Go.Ground.phase }, { on := 8, ground := Go.Ground.phase }, { on := 9, ground := Go.Ground.phase }, { on := 10, ground := Go.Ground.phase }, { on := 11, ground := Go.Ground.phase }, { on := 12, ground := Go.Ground.phase }, { on := 13, ground := Go.Ground.textOnly Go.Departure.lateStores }], guard := none }) rfl (fun K hK => ?_) AllReadyH.nil)
              go_simp
              refine hK.out _ _ (⟨o1 _ _, o2 _ _⟩) (fun hHeldc => ?_)
              clear hK K
              refine wpAnyH_take (i := 16) (oi := { dst := some 12, op := Go.Op.assign (Go.Operand.tmp 102), type := 3, pos := "law.go:132", after := #[{ on := 13, ground := Go.Ground.data }, { on := 15, ground := Go.Ground.chain }, { on := 0, ground := Go.Ground.phase }, { on := 1, ground := Go.Ground.phase }, { on := 2, ground := Go.Ground.phase }, { on := 3, ground := Go.Ground.phase }, { on := 4, ground := Go.Ground.phase }, { on := 5, ground := Go.Ground.phase }, { on := 6, ground := Go.Ground.phase }, { on := 7, ground := Go.Ground.phase }, { on := 8, ground := Go.Ground.phase }, { on := 9, ground := Go.Ground.phase }, { on := 10, ground := Go.Ground.phase }, { on := 11, ground := Go.Ground.phase }, { on := 12, ground := Go.Ground.phase }, { on := 13, ground := Go.Ground.phase }, { on := 14, ground := Go.Ground.phase }, { on := 15, ground := Go.Ground.phase }], guard := none }) (v := ?_) rfl (by kernel_rfl) (by kernel_rfl) (by kernel_rfl) (fun _ _ _ h => h) (Or.inl ⟨by rfl, ?_⟩) (by assumption) ?_
              rotate_left
              · (intro w hSw; (try dsimp only at hSw); go_simp; (try with_reducible rfl))
              simp only [Act.put, List.setIfInBounds_toArray, List.set_cons_zero, List.set_cons_succ]
              refine wpAnyH_done (by kernel_rfl) ?_ _
              (try go_wp2_with fail)
              go_meet
              exact ⟨EE, _, rfl, rfl, NL.out.1, box NL.out.2, FIN w5 _ b6 rfl rfl rfl rfl⟩
            · by_cases k4 : kd = 4
              · subst k4
                have C1 := box (take_any k k rfl g h l wb E1.out.xt c HC.out CO.out)
                go_wp2_with fail
                refine C1.out.mono ?_
                rintro e wc ⟨rfl, x2, a2⟩
                have E2 := box (E1.out.taker x2 a2)
                have X2 := box (X1.out.same (a2.block mm X1.out.lt XB.out.2.1 (by simp)))
                obtain ⟨r0, r1, r2, rz⟩ := X2.out
                obtain ⟨m0, m1, mz0, mz1⟩ := E2.out.xm.one HC.out
                have RA := fun w => box (rtake_any c CO.out w)
                have NL := box (show (l.set k c.tkC).length = n ∧ ∀ x ∈ l.set k c.tkC, x.Ok from ⟨by rw [List.length_set]; exact hln, fun x hx => by
                  rcases List.mem_or_eq_of_mem_set hx with hx | hx
                  · exact hO.out x hx
                  · rw [hx]; exact CO.out.tk⟩)
                clear C1 x2 a2 p0 p1 p2 pz X1 E1
                obtain ⟨c', hc'⟩ : ∃ c', c.tkC = c' := ⟨_, rfl⟩
                obtain ⟨EE, hEE⟩ : ∃ EE, c.tkE = EE := ⟨_, rfl⟩
                rw [hc'] at E2 NL
                rw [hc', hEE] at RA
                rw [hEE]
                have FIN := fun (w5 wf : World) (b5 : Below wc.heap.size wc w5) e1 e2 e3 e => box (E2.out.store (k := k) (w1 := w5) (wf := wf) b5 hkl c' e1 e2 e3 e)
                unfold tcV at RA
                clear hc' hEE
                go_upto_region 23 with fail
                have r1d : wc.drew.cell? ⟨mm, 1, none⟩ = some (.int .i64 (k : Int)) := r1
                have r2d : wc.drew.cell? ⟨mm, 2, none⟩ = some (.int .i64 nm) := r2
                have m0d : wc.drew.cell? ⟨b, k * 2, none⟩ = some (.int .i64 (c.s : Int)) := m0
                have m1d : wc.drew.cell? ⟨b, k * 2 + 1, none⟩ = some (.int .i64 (c.l : Int)) := m1
                refine wp_region_held_drew (S := (fun w' => w'.cell? ⟨mm, 1, none⟩ = some (.int .i64 (k : Int)) ∧ w'.cell? ⟨mm, 2, none⟩ = some (.int .i64 nm))) (by kernel_rfl) (⟨r1d, r2d⟩) (fun hHeld => ?_)
                refine wpAnyH_take (i := 0) (oi := { dst := some 111, op := Go.Op.move (Go.Operand.tmp 8), type := 50, pos := "law.go:135", after := #[], guard := none }) (v := ?_) rfl (by kernel_rfl) (by kernel_rfl) (by kernel_rfl) (fun _ _ _ h => h) (Or.inl ⟨by rfl, ?_⟩) (by assumption) ?_
                rotate_left
                · (intro w hSw; (try dsimp only at hSw); go_simp; (try with_reducible rfl))
                simp only [Act.put, List.setIfInBounds_toArray, List.set_cons_zero, List.set_cons_succ]
                refine wpAnyH_take (i := 1) (oi := { dst := some 112, op := Go.Op.fieldAddr 43 (Go.Operand.tmp 10) 1, type := 0, pos := "law.go:135", after := #[], guard := none }) (v := ?_) rfl (by kernel_rfl) (by kernel_rfl) (by kernel_rfl) (fun _ _ _ h => h) (Or.inl ⟨by rfl, ?_⟩) (by assumption) ?_
                rotate_left
                · (intro w hSw; (try dsimp only at hSw); go_simp; (try with_reducible rfl))
                simp only [Act.put, List.setIfInBounds_toArray, List.set_cons_zero, List.set_cons_succ]
                refine wpAnyH_take (i := 2) (oi := { dst := some 113, op := Go.Op.load 3 (Go.Operand.tmp 112), type := 3, pos := "law.go:135", after := #[{ on := 1, ground := Go.Ground.data }], guard := none }) (v := ?_) rfl (by kernel_rfl) (by kernel_rfl) (by kernel_rfl) (fun _ _ _ h => h) (Or.inl ⟨by rfl, ?_⟩) (by assumption) ?_
                rotate_left
                · (intro w hSw; (try dsimp only at hSw); go_simp; (try with_reducible rfl))
                simp only [Act.put, List.setIfInBounds_toArray, List.set_cons_zero, List.set_cons_succ]
                refine wpAnyH_take (i := 3) (oi := { dst := some 114, op := Go.Op.move (Go.Operand.tmp 8), type := 50, pos := "law.go:135", after := #[], guard := none }) (v := ?_) rfl (by kernel_rfl) (by kernel_rfl) (by kernel_rfl) (fun _ _ _ h => h) (Or.inl ⟨by rfl, ?_⟩) (by assumption) ?_
                rotate_left
                · (intro w hSw; (try dsimp only at hSw); go_simp; (try with_reducible rfl))
                simp only [Act.put, List.setIfInBounds_toArray, List.set_cons_zero, List.set_cons_succ]
                refine wpAnyH_take (i := 4) (oi := { dst := some 115, op := Go.Op.fieldAddr 43 (Go.Operand.tmp 10) 1, type := 0, pos := "law.go:135", after := #[], guard := none }) (v := ?_) rfl (by kernel_rfl) (by kernel_rfl) (by kernel_rfl) (fun _ _ _ h => h) (Or.inl ⟨by rfl, ?_⟩) (by assumption) ?_
                rotate_left
                · (intro w hSw; (try dsimp only at hSw); go_simp; (try with_reducible rfl))
                simp only [Act.put, List.setIfInBounds_toArray, List.set_cons_zero, List.set_cons_succ]
                refine wpAnyH_take (i := 5) (oi := { dst := some 116, op := Go.Op.load 3 (Go.Operand.tmp 115), type := 3, pos := "law.go:135", after := #[{ on := 4, ground := Go.Ground.data }], guard := none }) (v := ?_) rfl (by kernel_rfl) (by kernel_rfl) (by kernel_rfl) (fun _ _ _ h => h) (Or.inl ⟨by rfl, ?_⟩) (by assumption) ?_
                rotate_left
                · (intro w hSw; (try dsimp only at hSw); go_simp; (try with_reducible rfl))
                simp only [Act.put, List.setIfInBounds_toArray, List.set_cons_zero, List.set_cons_succ]
                refine wpAnyH_take (i := 6) (oi := { dst := some 117, op := Go.Op.indexAddr 50 (Go.Operand.tmp 114) (Go.Operand.tmp 116), type := 0, pos := "law.go:135", after := #[{ on := 3, ground := Go.Ground.data }, { on := 5, ground := Go.Ground.data }], guard := none }) (v := ?_) rfl (by kernel_rfl) (by kernel_rfl) (by kernel_rfl) (fun _ _ _ h => h) (Or.inl ⟨by rfl, ?_⟩) (by assumption) ?_
                rotate_left
                · (intro w hSw; (try dsimp only at hSw); go_simp; (try with_reducible rfl))
                simp only [Act.put, List.setIfInBounds_toArray, List.set_cons_zero, List.set_cons_succ]
                refine wpAnyH_ready (rs := [7]) (by kernel_rfl) (by simp) ?_
                refine (AllReadyH.cons (o := { dst := some 118, op := Go.Op.load 52 (Go.Operand.tmp 117), type := 52, pos := "law.go:135", after := #[{ on := 6, ground := Go.Ground.data }], guard := none }) rfl (fun K hK => ?_) AllReadyH.nil)
                go_simp
                refine hK.out _ _ (⟨r1d, r2d⟩) (fun hHelda => ?_)
                clear hK K
                refine wpAnyH_ready (rs := [8]) (by kernel_rfl) (by simp) ?_
                refine (AllReadyH.cons (o := { dst := some 119, op := Go.Op.call { callee := Go.Callee.value (Go.Operand.func 29), args := #[Go.Operand.tmp 118], argTypes := #[52] }, type := 53, pos := "law.go:135", after := #[{ on := 7, ground := Go.Ground.data }], guard := none }) rfl (fun K hK => ?_) AllReadyH.nil)
                go_simp
                refine (RA _).out.mono ?_
                rintro e w5 ⟨rfl, b5⟩
                have b6 : Below wc.heap.size wc w5 := ⟨b5.os, b5.tape, b5.output, b5.size, b5.block⟩
                obtain ⟨n0, n1, nz0, nz1⟩ := (E2.out.keep b6).xm.one HC.out
                have s1 := keepc b6 r1
                have s2 := keepc b6 r2
                have o1 := fun v1 v2 => cell_far (i := k * 2 + 1) (Ne.symm XB.out.2.2) (cell_far (i := k * 2) (Ne.symm XB.out.2.2) s1 v1) v2
                have o2 := fun v1 v2 => cell_far (i := k * 2 + 1) (Ne.symm XB.out.2.2) (cell_far (i := k * 2) (Ne.symm XB.out.2.2) s2 v1) v2
                refine hK.out _ _ (⟨s1, s2⟩) (fun hHeldb => ?_)
                clear hK K
                refine wpAnyH_take (i := 9) (oi := { dst := some 110, op := Go.Op.move (Go.Operand.tmp 119), type := 53, pos := "law.go:135", after := #[{ on := 8, ground := Go.Ground.data }], guard := none }) (v := ?_) rfl (by kernel_rfl) (by kernel_rfl) (by kernel_rfl) (fun _ _ _ h => h) (Or.inl ⟨by rfl, ?_⟩) (by assumption) ?_
                rotate_left
                · (intro w hSw; (try dsimp only at hSw); go_simp; (try with_reducible rfl))
                simp only [Act.put, List.setIfInBounds_toArray, List.set_cons_zero, List.set_cons_succ]
                refine wpAnyH_take (i := 10) (oi := { dst := some 120, op := Go.Op.extract (Go.Operand.tmp 110) 0, type := 52, pos := "law.go:135", after := #[{ on := 9, ground := Go.Ground.data }], guard := none }) (v := ?_) rfl (by kernel_rfl) (by kernel_rfl) (by kernel_rfl) (fun _ _ _ h => h) (Or.inl ⟨by rfl, ?_⟩) (by assumption) ?_
                rotate_left
                · (intro w hSw; (try dsimp only at hSw); go_simp; (try with_reducible rfl))
                simp only [Act.put, List.setIfInBounds_toArray, List.set_cons_zero, List.set_cons_succ]
                refine wpAnyH_take (i := 11) (oi := { dst := some 121, op := Go.Op.extract (Go.Operand.tmp 110) 1, type := 3, pos := "law.go:135", after := #[{ on := 9, ground := Go.Ground.data }, { on := 13, ground := Go.Ground.gcOnly Go.Departure.lateStores }], guard := none }) (v := ?_) rfl (by kernel_rfl) (by kernel_rfl) (by kernel_rfl) (fun _ _ _ h => h) (Or.inl ⟨by rfl, ?_⟩) (by assumption) ?_
                rotate_left
                · (intro w hSw; (try dsimp only at hSw); go_simp; (try with_reducible rfl))
                simp only [Act.put, List.setIfInBounds_toArray, List.set_cons_zero, List.set_cons_succ]
                refine wpAnyH_take (i := 12) (oi := { dst := some 122, op := Go.Op.indexAddr 50 (Go.Operand.tmp 111) (Go.Operand.tmp 113), type := 0, pos := "law.go:135", after := #[{ on := 0, ground := Go.Ground.data }, { on := 2, ground := Go.Ground.data }, { on := 0, ground := Go.Ground.phase }, { on := 1, ground := Go.Ground.phase }, { on := 2, ground := Go.Ground.phase }, { on := 3, ground := Go.Ground.phase }, { on := 4, ground := Go.Ground.phase }, { on := 5, ground := Go.Ground.phase }, { on := 6, ground := Go.Ground.phase }, { on := 7, ground := Go.Ground.phase }, { on := 8, ground := Go.Ground.phase }, { on := 9, ground := Go.Ground.phase }, { on := 10, ground := Go.Ground.phase }, { on := 11, ground := Go.Ground.textOnly Go.Departure.lateStores }], guard := none }) (v := ?_) rfl (by kernel_rfl) (by kernel_rfl) (by kernel_rfl) (fun _ _ _ h => h) (Or.inl ⟨by rfl, ?_⟩) (by assumption) ?_
                rotate_left
                · (intro w hSw; (try dsimp only at hSw); go_simp; (try with_reducible rfl))
                simp only [Act.put, List.setIfInBounds_toArray, List.set_cons_zero, List.set_cons_succ]
                refine wpAnyH_ready (rs := [13]) (by kernel_rfl) (by simp) ?_
                refine (AllReadyH.cons (o := { dst := none, op := Go.Op.store 52 (Go.Operand.tmp 122) (Go.Operand.tmp 120), type := 0, pos := "law.go:135", after := #[{ on := 12, ground := Go.Ground.data }, { on := 10, ground := Go.Ground.data }, { on := 8, ground := Go.Ground.chain }, { on := 0, ground := Go.Ground.phase }, { on := 1, ground := Go.Ground.phase }, { on := 2, ground := Go.Ground.phase }, { on := 3, ground := Go.Ground.phase }, { on := 4, ground := Go.Ground.phase }, { on := 5, ground := Go.Ground.phase }, { on := 6, ground := Go.Ground.phase }, { on := 7, ground := Go.Ground.phase }, { on := 8, ground := Go.Ground.phase }, { on := 9, ground := Go.Ground.phase }, { on := 10, ground := Go.Ground.phase }, { on := 11, ground := Go.Ground.textOnly Go.Departure.lateStores }], guard := none }) rfl (fun K hK => ?_) AllReadyH.nil)
                go_simp
                refine hK.out _ _ (⟨o1 _ _, o2 _ _⟩) (fun hHeldc => ?_)
                clear hK K
                refine wpAnyH_take (i := 14) (oi := { dst := some 12, op := Go.Op.assign (Go.Operand.tmp 121), type := 3, pos := "law.go:135", after := #[{ on := 11, ground := Go.Ground.data }, { on := 13, ground := Go.Ground.chain }, { on := 0, ground := Go.Ground.phase }, { on := 1, ground := Go.Ground.phase }, { on := 2, ground := Go.Ground.phase }, { on := 3, ground := Go.Ground.phase }, { on := 4, ground := Go.Ground.phase }, { on := 5, ground := Go.Ground.phase }, { on := 6, ground := Go.Ground.phase }, { on := 7, ground := Go.Ground.phase }, { on := 8, ground := Go.Ground.phase }, { on := 9, ground := Go.Ground.phase }, { on := 10, ground := Go.Ground.phase }, { on := 11, ground := Go.Ground.phase }, { on := 12, ground := Go.Ground.phase }, { on := 13, ground := Go.Ground.phase }], guard := none }) (v := ?_) rfl (by kernel_rfl) (by kernel_rfl) (by kernel_rfl) (fun _ _ _ h => h) (Or.inl ⟨by rfl, ?_⟩) (by assumption) ?_
                rotate_left
                · (intro w hSw; (try dsimp only at hSw); go_simp; (try with_reducible rfl))
                simp only [Act.put, List.setIfInBounds_toArray, List.set_cons_zero, List.set_cons_succ]
                refine wpAnyH_done (by kernel_rfl) ?_ _
                (try go_wp2_with fail)
                go_meet
                exact ⟨EE, _, rfl, rfl, NL.out.1, box NL.out.2, FIN w5 _ b6 rfl rfl rfl rfl⟩
              · have FIN := box (show ∃ (E : Int) (l' : List Tc), Value.int .i64 0 = .int .i64 E ∧ Value.int .i64 0 = .int .i64 E ∧ l'.length = n ∧ Box (∀ c ∈ l', c.Ok) ∧ Box (TE w.heap.size w wb g h l' b l') from ⟨0, l, rfl, rfl, hln, hO, E1⟩)
                clear E1 X1
                go_wp2_with fail
                go_meet
                exact FIN.out
          case rest =>
            clear E1 X1 p0 p1 p2 pz hO HC CO
            obtain ⟨E, l', rfl, rfl, hln', hO, hE⟩ := hcut
            go_wp2_with fail
            go_loopw [127] (fun t127 wr' => ∃ j : Nat, j ≤ n ∧ t127 = .int .i64 j ∧ Box (TE w.heap.size w wr' g h l' b l')) (fun t127 _ => n - (intOf t127).toNat)
            case atStart => exact ⟨0, by omega, rfl, hE⟩
            case round =>
              clear hE
              obtain ⟨j, hj, rfl, hE⟩ := hrel
              by_cases hjn : j < n
              · have hjl : j < l'.length := by omega
                obtain ⟨c, hc⟩ : ∃ c, l'[j]? = some c := ⟨_, List.getElem?_eq_getElem hjl⟩
                have CO := box (hO.out c (List.mem_of_getElem? hc))
                obtain ⟨m0, m1, -, -⟩ := hE.out.xm.one hc
                have SQ := box (fun q => Calls.quiet_of (sent_any j j rfl g h l' _ (hE.out.xt.drewN q) c hc CO.out))
                have LQ := box (fun q => Calls.quiet_of (left_any j j rfl g h l' _ (hE.out.xt.drewN q) c hc CO.out))
                have KQ := box (fun q => hE.out.keep (drewN_below _ q))
                have hsb : c.s ≤ 1099511627776 := by have := CO.out.sl; have := CO.out.ll; unfold LIM at this; omega
                have hlb : c.l ≤ 1099511627776 := by have := CO.out.ll; unfold LIM at this; omega
                clear hc CO hE
                go_wp2_with fail
                go_quiet ((first | (go_at_call 17; exact SQ.out _) | (go_at_call 18; exact LQ.out _)))
                go_wp2_with fail
                go_roundw
                case rel => exact ⟨j + 1, by omega, by go_num, box (KQ.out _)⟩
                case measure => simp [intOf]; omega
              · go_wp2_with fail
                go_roundw
                case rel => exact ⟨i + 1, l', by omega, by go_num, hln', hO, hE⟩
                case measure => simp [intOf]; omega
      · go_wp2_with fail
        go_ret
        exact ⟨rfl, hE.out.bel⟩
end Go.Proofs.Ytoolphpideicoaa
