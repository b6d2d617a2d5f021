/- CreditGiver: its walk. -/
import Derived.Test.YtoolphpideicoaaCreO
import Derived.Test.YtoolphpideicoaaCreM
namespace Go.Proofs.Ytoolphpideicoaa
open Go.RowKit

/-- The reference's givers in memory. -/
structure MgAt (w : World) (b : Nat) (l : List Gc) : Prop where
  c0 : ∀ i (h : i < l.length), w.cell? ⟨b, i * 3, none⟩ = some (.int .i64 l[i].r)
  c1 : ∀ i (h : i < l.length), w.cell? ⟨b, i * 3 + 1, none⟩ = some (.int .i64 l[i].v)
  c2 : ∀ i (h : i < l.length), w.cell? ⟨b, i * 3 + 2, none⟩ = some (.int .i64 l[i].f)
  z : ∀ j, w.frozen? ⟨b, j, none⟩ = false
  lt : b < w.heap.size
theorem MgAt.same {w w' : World} {b : Nat} {l : List Gc} (x : MgAt w b l) (hs : w.heap.size ≤ w'.heap.size) (e : w'.heap[b]? = w.heap[b]?) : MgAt w' b l :=
  ⟨fun i h => (World.cell?_of_block (a := ⟨b, i * 3, none⟩) e).trans (x.c0 i h), fun i h => (World.cell?_of_block (a := ⟨b, i * 3 + 1, none⟩) e).trans (x.c1 i h), fun i h => (World.cell?_of_block (a := ⟨b, i * 3 + 2, none⟩) e).trans (x.c2 i h), fun j => (World.frozen?_of_block (a := ⟨b, j, none⟩) e).trans (x.z j), Nat.lt_of_lt_of_le x.lt hs⟩
theorem MgAt.keep {w w' : World} {b : Nat} {l : List Gc} (x : MgAt w b l) (hb : Below w.heap.size w w') : MgAt w' b l := x.same hb.size (hb.block b x.lt)
theorem MgAt.one {w : World} {b : Nat} {l : List Gc} (x : MgAt w b l) {k : Nat} {c : Gc} (hc : l[k]? = some c) : w.cell? ⟨b, k * 3, none⟩ = some (.int .i64 c.r) ∧ w.cell? ⟨b, k * 3 + 1, none⟩ = some (.int .i64 c.v) ∧ w.cell? ⟨b, k * 3 + 2, none⟩ = some (.int .i64 c.f) ∧ w.frozen? ⟨b, k * 3, none⟩ = false ∧ w.frozen? ⟨b, k * 3 + 1, none⟩ = false ∧ w.frozen? ⟨b, k * 3 + 2, none⟩ = false := by
  obtain ⟨hk, e⟩ := List.getElem?_eq_some_iff.1 hc
  have h0 := x.c0 k hk
  have h1 := x.c1 k hk
  have h2 := x.c2 k hk
  rw [e] at h0 h1 h2
  exact ⟨h0, h1, h2, x.z _, x.z _, x.z _⟩
theorem MgAt.store {w : World} {b : Nat} {l : List Gc} (x : MgAt w b l) {k : Nat} (c : Gc) : MgAt (((w.setCell ⟨b, k * 3, none⟩ (.int .i64 c.r)).setCell ⟨b, k * 3 + 1, none⟩ (.int .i64 c.v)).setCell ⟨b, k * 3 + 2, none⟩ (.int .i64 c.f)) b (l.set k c) := by
  refine ⟨fun i hi => ?_, fun i hi => ?_, fun i hi => ?_, fun j => by rw [World.frozen?_setCell, World.frozen?_setCell, World.frozen?_setCell]; exact x.z j, by simp; exact x.lt⟩
  · have hi' : i < l.length := by simpa using hi
    by_cases h : i = k
    · subst h
      rw [List.getElem_set_self]
      exact cell_else (by omega) (cell_else (by omega) (cell_put (x.c0 i hi') _) _) _
    · rw [List.getElem_set_ne (fun e => h e.symm)]
      exact cell_else (by omega) (cell_else (by omega) (cell_else (by omega) (x.c0 i hi') _) _) _
  · have hi' : i < l.length := by simpa using hi
    by_cases h : i = k
    · subst h
      rw [List.getElem_set_self]
      exact cell_else (by omega) (cell_put (cell_else (by omega) (x.c1 i hi') _) _) _
    · rw [List.getElem_set_ne (fun e => h e.symm)]
      exact cell_else (by omega) (cell_else (by omega) (cell_else (by omega) (x.c1 i hi') _) _) _
  · have hi' : i < l.length := by simpa using hi
    by_cases h : i = k
    · subst h
      rw [List.getElem_set_self]
      exact cell_put (cell_else (by omega) (cell_else (by omega) (x.c2 i hi') _) _) _
    · rw [List.getElem_set_ne (fun e => h e.symm)]
      exact cell_else (by omega) (cell_else (by omega) (cell_else (by omega) (x.c2 i hi') _) _) _
/-- A giver and the reference's givers. -/
structure GE (B : Nat) (w0 w : World) (g h : Nat) (l : List Gc) (b : Nat) (lm : List Gc) : Prop where
  xt : GvAt w g h l
  xm : MgAt w b lm
  bel : Below B w0 w
  sz : B ≤ w.heap.size
  bh : B ≤ h
  bb : B ≤ b
  n1 : b ≠ h
  n2 : g ≠ b
section
variable {B : Nat} {w0 w w' : World} {g h b : Nat} {l l' lm lm' : List Gc}
theorem GE.keep (x : GE B w0 w g h l b lm) (hb : Below w.heap.size w w') : GE B w0 w' g h l b lm :=
  ⟨x.xt.keep hb, x.xm.keep hb, x.bel.trans (hb.mono x.sz), Nat.le_trans x.sz hb.size, x.bh, x.bb, x.n1, x.n2⟩
theorem GE.giver (x : GE B w0 w g h l b lm) (x' : GvAt w' g h l') (a : Apart h none w w') : GE B w0 w' g h l' b lm :=
  ⟨x', x.xm.same a.size (a.block b x.xm.lt x.n1 (by simp)), a.below x.bel x.sz x.bh (fun k hk => by cases hk), Nat.le_trans x.sz a.size, x.bh, x.bb, x.n1, x.n2⟩
theorem GE.ref (x : GE B w0 w g h l b lm) (x' : MgAt w' b lm') (a : Apart b none w w') : GE B w0 w' g h l b lm' :=
  ⟨x.xt.apart a x.n2 (fun e => x.n1 e.symm), x', a.below x.bel x.sz x.bb (fun k hk => by cases hk), Nat.le_trans x.sz a.size, x.bh, x.bb, x.n1, x.n2⟩
end
/-- A struct stored into the reference's list. -/
theorem GE.store {B : Nat} {w0 w w1 wf : World} {g h b k : Nat} {l lm : List Gc} (x : GE B w0 w g h l b lm) (b1 : Below w.heap.size w w1) (c : Gc)
    (e1 : wf.os = w1.os) (e2 : wf.tape = w1.tape) (e3 : wf.output = w1.output) (e : wf.heap = (((w1.setCell ⟨b, k * 3, none⟩ (.int .i64 c.r)).setCell ⟨b, k * 3 + 1, none⟩ (.int .i64 c.v)).setCell ⟨b, k * 3 + 2, none⟩ (.int .i64 c.f)).heap) : GE B w0 wf g h l b (lm.set k c) := by
  have x1 := x.keep b1
  have m := x1.xm.store (k := k) c
  refine x1.ref (m.same (by rw [e]; exact Nat.le_refl _) (by rw [e])) ?_
  exact (((((Apart.refl b none w1).setCell (k * 3) (.int .i64 c.r)).setCell (k * 3 + 1) (.int .i64 c.v)).setCell (k * 3 + 2) (.int .i64 c.f)).heap (w'' := wf) e1 e2 e3 e)
theorem recv_f (c : Gc) : c.recvC.f ≤ c.f + 64 := by
  unfold Gc.recvC
  split
  · omega
  · show c.f ≤ c.f + 64; omega
theorem free_f (c : Gc) : c.freeC.f ≤ c.f + 64 := by
  unfold Gc.freeC
  split
  · omega
  · show c.f + 1 ≤ c.f + 64; omega
theorem aud_f (c : Gc) (ok : c.Ok) (s : Int) : (c.audC s).f ≤ c.f + 64 := by
  obtain ⟨a1, a2, a3, a4, a5⟩ := ok
  have h6 : c.lim ≤ c.r + c.f := Nat.min_le_left _ _
  unfold Gc.audC
  split
  · omega
  · show c.f + (s.toNat - c.v) ≤ c.f + 64
    omega
/-- The cells of a list of classes. -/
def flatG (l : List Gc) : List Value := l.flatMap (fun c => [.int .i64 (c.r : Int), .int .i64 (c.v : Int), .int .i64 (c.f : Int)])
theorem flatG_at : ∀ (l : List Gc) (i : Nat) (h : i < l.length), (flatG l)[i * 3]? = some (.int .i64 (l[i].r : Int)) ∧ (flatG l)[i * 3 + 1]? = some (.int .i64 (l[i].v : Int)) ∧ (flatG l)[i * 3 + 2]? = some (.int .i64 (l[i].f : Int))
  | [], _, h => by cases h
  | c :: l, 0, _ => ⟨rfl, rfl, rfl⟩
  | c :: l, i + 1, h => by
    have ih := flatG_at l i (by simpa using h)
    have e : ∀ j, (flatG (c :: l))[j + 3]? = (flatG l)[j]? := fun j => rfl
    refine ⟨?_, ?_, ?_⟩
    · rw [show (i + 1) * 3 = i * 3 + 3 by omega, e]; exact ih.1
    · rw [show (i + 1) * 3 + 1 = i * 3 + 1 + 3 by omega, e]; exact ih.2.1
    · rw [show (i + 1) * 3 + 2 = i * 3 + 2 + 3 by omega, e]; exact ih.2.2
theorem flatG_snoc (l : List Gc) (c : Gc) : flatG (l ++ [c]) = flatG l ++ [.int .i64 (c.r : Int), .int .i64 (c.v : Int), .int .i64 (c.f : Int)] := by unfold flatG; simp
theorem Try.infoRg : (Try.prog.info? 41).map (fun i => (i.zero, i.size, i.bytes)) = some (some (.agg #[.int .i64 0, .int .i64 0, .int .i64 0]), 3, 24) := by kernel_rfl

set_option maxRecDepth 100000 in
set_option maxHeartbeats 8000000 in
theorem giver_any (a0 : Option Addr) (n c0p : Nat) (zs : List Int) (hn : zs.length = n) (a : Option Addr) (m cp : Nat) (xs : List Act') (hm : xs.length = m) (w : World) (hz : Ints w a0 zs) (hin : Acts w a xs) :
    Calls Try.prog 4 #[.slice a0 n c0p, .slice a m cp] w fun e w' => e = .returned (.bool true) ∧ Below w.heap.size w w' := by
  have AW := box (awake_any w)
  have HI := box hin
  have HZ := box hz
  have HM := box hm
  have HN := box hn
  clear hin hm hz hn
  go_enter Try.func4, Try.ntmps4
  go_wp2_with fail
  refine AW.out.mono ?_
  rintro e w1 ⟨rfl, b1⟩
  have B1 := box b1
  clear AW b1
  by_cases h40 : 40 < m
  · go_wp2_with fail
    go_ret
    exact ⟨rfl, B1.out⟩
  · have RM := box (rooms_any a0 n c0p zs HN.out w1 (HZ.out.below B1.out))
    go_wp2_with fail
    refine RM.out.mono ?_
    rintro e w1' ⟨rfl, rfl⟩
    clear RM
    by_cases hr : okRooms zs = false
    · rw [hr]
      clear hr
      go_wp2_with fail
      go_ret
      exact ⟨rfl, B1.out⟩
    · have hr : okRooms zs = true := by simpa using hr
      have HR := box hr
      have hn4 : 1 ≤ n ∧ n ≤ 4 := by have h := okRooms_iff.1 hr; rw [HN.out] at h; exact ⟨h.1, h.2.1⟩
      rw [hr]
      clear hr
      have NG := box (newg_any a0 n c0p zs HN.out w1 (HZ.out.below B1.out) (by omega))
      go_wp2_with fail
      refine NG.out.mono ?_
      rintro e w2 (⟨-, g, h, rfl, xg, hg, hh, b2⟩ | ⟨hr, -⟩)
      · have B2 := box (B1.out.trans (b2.mono B1.out.size))
        have XG := box (And.intro xg (Nat.le_trans B1.out.size hh))
        clear NG xg hg hh b2
        obtain ⟨ti, hi1, hz1, hs1, hb1⟩ := info_parts Try.infoRg
        have R0 := box (World.ownsRow_nil w2 w2.heap.size 41 3)
        go_wp2_with fail
        go_loopw [7, 42] (fun t7 t42 wr => ∃ i : Nat, i ≤ n ∧ t42 = .int .i64 i ∧ Box (wr.ownsRow w2.heap.size 41 3 t7 i (flatG ((zs.take i).map gc0))) ∧ Box (Below w2.heap.size w2 wr)) (fun _ t42 _ => n - (intOf t42).toNat)
        case atStart => exact ⟨0, by omega, rfl, R0, box (Below.refl _ _)⟩
        case round =>
          clear R0
          obtain ⟨i, hi, rfl, hRow, hK⟩ := hrel
          by_cases hin : i < n
          · have hiz : i < zs.length := by rw [HN.out]; exact hin
            obtain ⟨ga, oa, rfl, cz0⟩ := HZ.out.at_ hiz
            have cz := keepc (B2.out.trans (hK.out.mono B2.out.size)) cz0
            have OZ := box ((okRooms_iff.1 HR.out).2.2 zs[i] (List.getElem_mem _))
            have TK := box (show (zs.take (i + 1)).map gc0 = (zs.take i).map gc0 ++ [gc0 zs[i]] from by rw [List.take_succ_eq_append_getElem hiz, List.map_append]; rfl)
            obtain ⟨z, hz⟩ : ∃ z, zs[i] = z := ⟨_, rfl⟩
            rw [hz] at cz OZ TK
            clear hz cz0 hiz
            have kA : Below wr.heap.size wr (wr.alloc (.cells #[.int .i64 z, .int .i64 0, .int .i64 0] 41)) := (Below.refl _ _).alloc (Nat.le_refl _) _
            have ROW := box (row_below hRow.out kA)
            have K2 := box (hK.out.trans (kA.mono hK.out.size))
            have X := R3.new wr (.int .i64 z) (.int .i64 0) (.int .i64 0) 41 wr.heap.size rfl
            have N5 := box (show ∀ j u, ([Value.int .i64 z, .int .i64 0, .int .i64 0] : List Value)[j]? = some u → (wr.alloc (.cells #[.int .i64 z, .int .i64 0, .int .i64 0] 41)).cell? ((⟨wr.heap.size, 0, none⟩ : Addr).add j) = some u from fun j u hu => by
              rw [add_off]
              match j, hu with
              | 0, hu => cases hu; exact X.q0
              | 1, hu => cases hu; exact X.q1
              | 2, hu => cases hu; exact X.q2)
            clear kA X hRow hK
            go_wp2_with (at_builtin; refine wpList_append_own_at (o := ⟨some 50, _, _, _, _, _⟩) (wr.alloc (.cells #[.int .i64 z, .int .i64 0, .int .i64 0] 41)) rfl (.tmp 46) (.tmp 49) 39 rfl w2.heap.size 41 ti _ 3 24 Try.underlying39 hi1 hz1 hs1 hb1 rfl (by decide) u7 i _ rfl ROW.out ⟨wr.heap.size, 0, none⟩ 1 1 [.int .i64 z, .int .i64 0, .int .i64 0] rfl rfl N5.out (fun u hu => by simp at hu; rcases hu with rfl | rfl <;> rfl) (by unfold maxLen; omega) (by omega) K2.out.size ?_; intro v8 w8 h8 g8 _ f8)
            have ROW8 := box (show w8.ownsRow w2.heap.size 41 3 v8 (i + 1) (flatG ((zs.take (i + 1)).map gc0)) from by
              rw [TK.out, flatG_snoc]
              rw [show ((gc0 z).r : Int) = z from by show ((z.toNat : Nat) : Int) = z; have := OZ.out; omega]
              exact h8)
            have K8 := box (own_below ROW.out (Nat.le_refl _) K2.out K2.out.size g8)
            clear h8 g8 f8 N5 ROW K2
            go_wp2_with fail
            go_roundw
            case rel => exact ⟨i + 1, by omega, by go_num, ROW8, K8⟩
            case measure => simp [intOf]; omega
          · obtain rfl : i = n := by omega
            have L0 := box (show (zs.map gc0).length = i ∧ ∀ c ∈ zs.map gc0, c.Ok ∧ c.f ≤ 64 * 0 from ⟨by rw [List.length_map]; exact HN.out, fun c hc => by
              obtain ⟨z, hz, rfl⟩ := List.mem_map.1 hc
              exact ⟨gc0_ok ((okRooms_iff.1 HR.out).2.2 z hz), Nat.le_refl _⟩⟩)
            obtain ⟨b, cpb, rfl, E0⟩ : ∃ b cpb, u7 = .slice (some ⟨b, 0, none⟩) i cpb ∧ Box (GE w.heap.size w wr g h (zs.map gc0) b (zs.map gc0)) := by
              have hrow := hRow.out
              rw [show (zs.take i).map gc0 = zs.map gc0 by rw [← HN.out, List.take_length]] at hrow
              rcases row_form hrow with ⟨_, h0, _⟩ | ⟨b, k, rfl, hb, hlt, _, _, hc⟩
              · omega
              · refine ⟨b, k, rfl, box ⟨XG.out.1.keep hK.out, ⟨fun q hq => hc _ _ (flatG_at _ q hq).1, fun q hq => hc _ _ (flatG_at _ q hq).2.1, fun q hq => hc _ _ (flatG_at _ q hq).2.2, fun j => hrow.frozenAt j, hlt⟩, B2.out.trans (hK.out.mono B2.out.size), Nat.le_trans B2.out.size hK.out.size, XG.out.2, Nat.le_trans B2.out.size hb, by have := XG.out.1.lt; omega, by have := XG.out.1.glt; omega⟩⟩
            clear hRow hK XG hi1 hz1 hs1 hb1 HR
            generalize zs.map gc0 = l0 at L0 E0
            go_wp2_with fail
            go_loopw [54] (fun t54 wr => ∃ (j : Nat) (l : List Gc), j ≤ m ∧ t54 = .int .i64 j ∧ l.length = i ∧ Box (∀ c ∈ l, c.Ok ∧ c.f ≤ 64 * j) ∧ Box (GE w.heap.size w wr g h l b l)) (fun t54 _ => m - (intOf t54).toNat)
            case atStart => exact ⟨0, l0, by omega, rfl, L0.out.1, box L0.out.2, E0⟩
            case round =>
              clear E0 L0 B1 B2
              obtain ⟨j, l, hj, rfl, hln, hO, hE⟩ := hrel
              by_cases hjm : j < m
              · obtain ⟨ga, oa, rfl, c0, c1, c2⟩ := acts_at HI.out (show j < xs.length by rw [HM.out]; exact hjm)
                replace c0 := keepc hE.out.bel c0
                replace c1 := keepc hE.out.bel c1
                replace c2 := keepc hE.out.bel c2
                obtain ⟨kd, hkd⟩ : ∃ kd, (xs[j]'(by rw [HM.out]; exact hjm)).kind = kd := ⟨_, rfl⟩
                obtain ⟨cl, hcl⟩ : ∃ cl, (xs[j]'(by rw [HM.out]; exact hjm)).cls = cl := ⟨_, rfl⟩
                obtain ⟨nm, hnm⟩ : ∃ nm, (xs[j]'(by rw [HM.out]; exact hjm)).num = nm := ⟨_, rfl⟩
                rw [hkd] at c0
                rw [hcl] at c1
                rw [hnm] at c2
                clear hkd hcl hnm
                have kA : Below wr.heap.size wr (wr.alloc (.cells #[.int .i64 kd, .int .i64 cl, .int .i64 nm] 43)) := (Below.refl _ _).alloc (Nat.le_refl _) _
                have E1 := box (hE.out.keep kA)
                have X1 := box (R3.new wr (.int .i64 kd) (.int .i64 cl) (.int .i64 nm) 43 wr.heap.size rfl)
                have XB := box (show w.heap.size ≤ wr.heap.size ∧ wr.heap.size ≠ h ∧ wr.heap.size ≠ b from ⟨hE.out.sz, by have := hE.out.xt.lt; omega, by have := hE.out.xm.lt; omega⟩)
                obtain ⟨mm, hmm⟩ : ∃ mm, wr.heap.size = mm := ⟨_, rfl⟩
                have HMM := box hmm
                rw [hmm] at X1 XB
                clear kA hE
                go_upto_region 17 with fail
                (try simp only [HMM.out])
                generalize wr.alloc (.cells #[.int .i64 kd, .int .i64 cl, .int .i64 nm] 43) = wb at E1 X1 ⊢
                clear c0 c1 c2 hmm
                obtain ⟨p0, p1, p2, pz⟩ := X1.out
                by_cases hbad : cl < 0 ∨ (i : Int) ≤ cl
                · by_cases hb1 : cl < 0
                  · have C0 := box (audit_bad nm cl g h l (by rw [hln]; exact hbad) wb E1.out.xt)
                    go_wp2_with fail
                    refine C0.out.mono ?_
                    rintro e wc ⟨rfl, bc⟩
                    have E2 := box (E1.out.keep bc)
                    have X2 := box (X1.out.keep bc)
                    obtain ⟨r0, r1, r2, rz⟩ := X2.out
                    have C1 := box (receive_bad cl g h l (by rw [hln]; exact hbad) wc E2.out.xt)
                    have C2 := box (free_bad cl g h l (by rw [hln]; exact hbad) wc E2.out.xt)
                    have C3 := box (limit_bad cl g h l (by rw [hln]; exact hbad) wc E2.out.xt)
                    have C4 := box (held_bad cl g h l (by rw [hln]; exact hbad) wc E2.out.xt)
                    have HO2 := box (show ∀ c ∈ l, c.Ok ∧ c.f ≤ 64 * (j + 1) from fun c hc => ⟨(hO.out c hc).1, by have := (hO.out c hc).2; omega⟩)
                    clear C0 bc p0 p1 p2 pz E1 X1 hO
                    go_wp2_with fail
                    refine C1.out.mono ?_
                    rintro e wd ⟨rfl, rfl⟩
                    go_wp2_with fail
                    refine C2.out.mono ?_
                    rintro e wd ⟨rfl, rfl⟩
                    go_wp2_with fail
                    refine C3.out.mono ?_
                    rintro e wd ⟨rfl, rfl⟩
                    go_wp2_with fail
                    refine C4.out.mono ?_
                    rintro e wd ⟨rfl, rfl⟩
                    go_wp2_with fail
                    go_roundw
                    case rel => exact ⟨j + 1, l, by omega, by go_num, hln, HO2, E2⟩
                    case measure => simp [intOf]; omega
                  · have hb2 : (i : Int) ≤ cl := by omega
                    have C0 := box (audit_bad nm cl g h l (by rw [hln]; exact hbad) wb E1.out.xt)
                    go_wp2_with fail
                    refine C0.out.mono ?_
                    rintro e wc ⟨rfl, bc⟩
                    have E2 := box (E1.out.keep bc)
                    have X2 := box (X1.out.keep bc)
                    obtain ⟨r0, r1, r2, rz⟩ := X2.out
                    have C1 := box (receive_bad cl g h l (by rw [hln]; exact hbad) wc E2.out.xt)
                    have C2 := box (free_bad cl g h l (by rw [hln]; exact hbad) wc E2.out.xt)
                    have C3 := box (limit_bad cl g h l (by rw [hln]; exact hbad) wc E2.out.xt)
                    have C4 := box (held_bad cl g h l (by rw [hln]; exact hbad) wc E2.out.xt)
                    have HO2 := box (show ∀ c ∈ l, c.Ok ∧ c.f ≤ 64 * (j + 1) from fun c hc => ⟨(hO.out c hc).1, by have := (hO.out c hc).2; omega⟩)
                    clear C0 bc p0 p1 p2 pz E1 X1 hO
                    go_wp2_with fail
                    refine C1.out.mono ?_
                    rintro e wd ⟨rfl, rfl⟩
                    go_wp2_with fail
                    refine C2.out.mono ?_
                    rintro e wd ⟨rfl, rfl⟩
                    go_wp2_with fail
                    refine C3.out.mono ?_
                    rintro e wd ⟨rfl, rfl⟩
                    go_wp2_with fail
                    refine C4.out.mono ?_
                    rintro e wd ⟨rfl, rfl⟩
                    go_wp2_with fail
                    go_roundw
                    case rel => exact ⟨j + 1, l, by omega, by go_num, hln, HO2, E2⟩
                    case measure => simp [intOf]; omega
                · obtain ⟨k, rfl⟩ : ∃ k : Nat, cl = k := ⟨cl.toNat, by omega⟩
                  have hkn : k < i := by omega
                  have hkl : k < l.length := by omega
                  obtain ⟨c, hc⟩ : ∃ c, l[k]? = some c := ⟨_, List.getElem?_eq_getElem hkl⟩
                  have CO := box (hO.out c (List.mem_of_getElem? hc))
                  have CS := box (show c.r + c.f ≤ 1000000 from by have h1 := CO.out.1.r2; have h2 := CO.out.2; omega)
                  have HC := box hc
                  clear hbad hc
                  go_upto_block 4 with fail
                  go_cut [14, 15, 16, 17] (fun t14 t15 t16 t17 wx => ∃ (E N : Int) (l' : List Gc), t14 = .int .i64 E ∧ t15 = .int .i64 E ∧ t16 = .int .i64 N ∧ t17 = .int .i64 N ∧ l'.length = i ∧ Box (∀ c ∈ l', c.Ok ∧ c.f ≤ 64 * (j + 1)) ∧ Box (GE w.heap.size w wx g h l' b l'))
                  case first =>
                    by_cases k0 : kd = 0
                    · subst k0
                      have C1 := box (receive_any k k rfl g h l wb E1.out.xt c HC.out CO.out.1)
                      go_wp2_with fail
                      refine C1.out.mono ?_
                      rintro e wc ⟨rfl, x2, a2⟩
                      have E2 := box (E1.out.giver x2 a2)
                      have X2 := box (X1.out.same (a2.block mm X1.out.lt XB.out.2.1 (by simp)))
                      obtain ⟨r0, r1, r2, rz⟩ := X2.out
                      obtain ⟨m0, m1, m2, mz0, mz1, mz2⟩ := E2.out.xm.one HC.out
                      have RA := fun w => box (rrecv_any c CO.out.1 CS.out w)
                      have NL := box (show (l.set k c.recvC).length = i ∧ ∀ x ∈ l.set k c.recvC, x.Ok ∧ x.f ≤ 64 * (j + 1) from ⟨by rw [List.length_set]; exact hln, fun x hx => by
                        rcases List.mem_or_eq_of_mem_set hx with hx | hx
                        · exact ⟨(hO.out x hx).1, by have := (hO.out x hx).2; omega⟩
                        · rw [hx]; exact ⟨CO.out.1.recv, by have := recv_f c; have := CO.out.2; omega⟩⟩)
                      clear C1 x2 a2 p0 p1 p2 pz X1 E1
                      obtain ⟨c', hc'⟩ : ∃ c', c.recvC = c' := ⟨_, rfl⟩
                      obtain ⟨EE, hEE⟩ : ∃ EE, c.recvE = EE := ⟨_, rfl⟩
                      rw [hc'] at E2 NL
                      rw [hc', hEE] at RA
                      rw [hEE]
                      have FIN := fun (w5 wf : World) (b5 : Below wc.heap.size wc w5) e1 e2 e3 e => box (E2.out.store (k := k) (w1 := w5) (wf := wf) b5 c' e1 e2 e3 e)
                      unfold gcV at RA
                      clear hc' hEE
                      go_upto_region 25 with fail
                      have r1d : wc.drew.cell? ⟨mm, 1, none⟩ = some (.int .i64 (k : Int)) := r1
                      have r2d : wc.drew.cell? ⟨mm, 2, none⟩ = some (.int .i64 nm) := r2
                      have m0d : wc.drew.cell? ⟨b, k * 3, none⟩ = some (.int .i64 (c.r : Int)) := m0
                      have m1d : wc.drew.cell? ⟨b, k * 3 + 1, none⟩ = some (.int .i64 (c.v : Int)) := m1
                      have m2d : wc.drew.cell? ⟨b, k * 3 + 2, none⟩ = some (.int .i64 (c.f : Int)) := m2
                      refine wp_region_held_drew (S := (fun w' => w'.cell? ⟨mm, 1, none⟩ = some (.int .i64 (k : Int)) ∧ w'.cell? ⟨mm, 2, none⟩ = some (.int .i64 nm))) (by kernel_rfl) (⟨r1d, r2d⟩) (fun hHeld => ?_)
                      refine wpAnyH_take (i := 0) (oi := { dst := some 120, op := Go.Op.move (Go.Operand.tmp 7), type := 39, pos := "law.go:87", after := #[], guard := none }) (v := ?_) rfl (by kernel_rfl) (by kernel_rfl) (by kernel_rfl) (fun _ _ _ h => h) (Or.inl ⟨by rfl, ?_⟩) (by assumption) ?_
                      rotate_left
                      · (intro w hSw; (try dsimp only at hSw); go_simp; (try with_reducible rfl))
                      simp only [Act.put, List.setIfInBounds_toArray, List.set_cons_zero, List.set_cons_succ]
                      refine wpAnyH_take (i := 1) (oi := { dst := some 121, op := Go.Op.fieldAddr 43 (Go.Operand.tmp 11) 1, type := 0, pos := "law.go:87", after := #[], guard := none }) (v := ?_) rfl (by kernel_rfl) (by kernel_rfl) (by kernel_rfl) (fun _ _ _ h => h) (Or.inl ⟨by rfl, ?_⟩) (by assumption) ?_
                      rotate_left
                      · (intro w hSw; (try dsimp only at hSw); go_simp; (try with_reducible rfl))
                      simp only [Act.put, List.setIfInBounds_toArray, List.set_cons_zero, List.set_cons_succ]
                      refine wpAnyH_take (i := 2) (oi := { dst := some 122, op := Go.Op.load 3 (Go.Operand.tmp 121), type := 3, pos := "law.go:87", after := #[{ on := 1, ground := Go.Ground.data }], guard := none }) (v := ?_) rfl (by kernel_rfl) (by kernel_rfl) (by kernel_rfl) (fun _ _ _ h => h) (Or.inl ⟨by rfl, ?_⟩) (by assumption) ?_
                      rotate_left
                      · (intro w hSw; (try dsimp only at hSw); go_simp; (try with_reducible rfl))
                      simp only [Act.put, List.setIfInBounds_toArray, List.set_cons_zero, List.set_cons_succ]
                      refine wpAnyH_take (i := 3) (oi := { dst := some 123, op := Go.Op.move (Go.Operand.tmp 7), type := 39, pos := "law.go:87", after := #[], guard := none }) (v := ?_) rfl (by kernel_rfl) (by kernel_rfl) (by kernel_rfl) (fun _ _ _ h => h) (Or.inl ⟨by rfl, ?_⟩) (by assumption) ?_
                      rotate_left
                      · (intro w hSw; (try dsimp only at hSw); go_simp; (try with_reducible rfl))
                      simp only [Act.put, List.setIfInBounds_toArray, List.set_cons_zero, List.set_cons_succ]
                      refine wpAnyH_take (i := 4) (oi := { dst := some 124, op := Go.Op.fieldAddr 43 (Go.Operand.tmp 11) 1, type := 0, pos := "law.go:87", after := #[], guard := none }) (v := ?_) rfl (by kernel_rfl) (by kernel_rfl) (by kernel_rfl) (fun _ _ _ h => h) (Or.inl ⟨by rfl, ?_⟩) (by assumption) ?_
                      rotate_left
                      · (intro w hSw; (try dsimp only at hSw); go_simp; (try with_reducible rfl))
                      simp only [Act.put, List.setIfInBounds_toArray, List.set_cons_zero, List.set_cons_succ]
                      refine wpAnyH_take (i := 5) (oi := { dst := some 125, op := Go.Op.load 3 (Go.Operand.tmp 124), type := 3, pos := "law.go:87", after := #[{ on := 4, ground := Go.Ground.data }], guard := none }) (v := ?_) rfl (by kernel_rfl) (by kernel_rfl) (by kernel_rfl) (fun _ _ _ h => h) (Or.inl ⟨by rfl, ?_⟩) (by assumption) ?_
                      rotate_left
                      · (intro w hSw; (try dsimp only at hSw); go_simp; (try with_reducible rfl))
                      simp only [Act.put, List.setIfInBounds_toArray, List.set_cons_zero, List.set_cons_succ]
                      refine wpAnyH_take (i := 6) (oi := { dst := some 126, op := Go.Op.indexAddr 39 (Go.Operand.tmp 123) (Go.Operand.tmp 125), type := 0, pos := "law.go:87", after := #[{ on := 3, ground := Go.Ground.data }, { on := 5, ground := Go.Ground.data }], guard := none }) (v := ?_) rfl (by kernel_rfl) (by kernel_rfl) (by kernel_rfl) (fun _ _ _ h => h) (Or.inl ⟨by rfl, ?_⟩) (by assumption) ?_
                      rotate_left
                      · (intro w hSw; (try dsimp only at hSw); go_simp; (try with_reducible rfl))
                      simp only [Act.put, List.setIfInBounds_toArray, List.set_cons_zero, List.set_cons_succ]
                      refine wpAnyH_ready (rs := [7]) (by kernel_rfl) (by simp) ?_
                      refine (AllReadyH.cons (o := { dst := some 127, op := Go.Op.load 41 (Go.Operand.tmp 126), type := 41, pos := "law.go:87", after := #[{ on := 6, ground := Go.Ground.data }], guard := none }) rfl (fun K hK => ?_) AllReadyH.nil)
                      go_simp
                      refine hK.out _ _ (⟨r1d, r2d⟩) (fun hHelda => ?_)
                      clear hK K
                      refine wpAnyH_ready (rs := [8]) (by kernel_rfl) (by simp) ?_
                      refine (AllReadyH.cons (o := { dst := some 128, op := Go.Op.call { callee := Go.Callee.value (Go.Operand.func 24), args := #[Go.Operand.tmp 127], argTypes := #[41] }, type := 44, pos := "law.go:87", after := #[{ on := 7, ground := Go.Ground.data }], guard := none }) rfl (fun K hK => ?_) AllReadyH.nil)
                      go_simp
                      refine (RA _).out.mono ?_
                      rintro e w5 ⟨rfl, b5⟩
                      have b6 : Below wc.heap.size wc w5 := ⟨b5.os, b5.tape, b5.output, b5.size, b5.block⟩
                      obtain ⟨n0, n1, n2, nz0, nz1, nz2⟩ := (E2.out.keep b6).xm.one HC.out
                      have s1 := keepc b6 r1
                      have s2 := keepc b6 r2
                      have o1 := fun v1 v2 v3 => cell_far (i := k * 3 + 2) (Ne.symm XB.out.2.2) (cell_far (i := k * 3 + 1) (Ne.symm XB.out.2.2) (cell_far (i := k * 3) (Ne.symm XB.out.2.2) s1 v1) v2) v3
                      have o2 := fun v1 v2 v3 => cell_far (i := k * 3 + 2) (Ne.symm XB.out.2.2) (cell_far (i := k * 3 + 1) (Ne.symm XB.out.2.2) (cell_far (i := k * 3) (Ne.symm XB.out.2.2) s2 v1) v2) v3
                      refine hK.out _ _ (⟨s1, s2⟩) (fun hHeldb => ?_)
                      clear hK K
                      refine wpAnyH_take (i := 9) (oi := { dst := some 119, op := Go.Op.move (Go.Operand.tmp 128), type := 44, pos := "law.go:87", after := #[{ on := 8, ground := Go.Ground.data }], guard := none }) (v := ?_) rfl (by kernel_rfl) (by kernel_rfl) (by kernel_rfl) (fun _ _ _ h => h) (Or.inl ⟨by rfl, ?_⟩) (by assumption) ?_
                      rotate_left
                      · (intro w hSw; (try dsimp only at hSw); go_simp; (try with_reducible rfl))
                      simp only [Act.put, List.setIfInBounds_toArray, List.set_cons_zero, List.set_cons_succ]
                      refine wpAnyH_take (i := 10) (oi := { dst := some 129, op := Go.Op.extract (Go.Operand.tmp 119) 0, type := 41, pos := "law.go:87", after := #[{ on := 9, ground := Go.Ground.data }], guard := none }) (v := ?_) rfl (by kernel_rfl) (by kernel_rfl) (by kernel_rfl) (fun _ _ _ h => h) (Or.inl ⟨by rfl, ?_⟩) (by assumption) ?_
                      rotate_left
                      · (intro w hSw; (try dsimp only at hSw); go_simp; (try with_reducible rfl))
                      simp only [Act.put, List.setIfInBounds_toArray, List.set_cons_zero, List.set_cons_succ]
                      refine wpAnyH_take (i := 11) (oi := { dst := some 130, op := Go.Op.extract (Go.Operand.tmp 119) 1, type := 3, pos := "law.go:87", after := #[{ on := 9, ground := Go.Ground.data }, { on := 13, ground := Go.Ground.gcOnly Go.Departure.lateStores }], guard := none }) (v := ?_) rfl (by kernel_rfl) (by kernel_rfl) (by kernel_rfl) (fun _ _ _ h => h) (Or.inl ⟨by rfl, ?_⟩) (by assumption) ?_
                      rotate_left
                      · (intro w hSw; (try dsimp only at hSw); go_simp; (try with_reducible rfl))
                      simp only [Act.put, List.setIfInBounds_toArray, List.set_cons_zero, List.set_cons_succ]
                      refine wpAnyH_take (i := 12) (oi := { dst := some 131, op := Go.Op.indexAddr 39 (Go.Operand.tmp 120) (Go.Operand.tmp 122), type := 0, pos := "law.go:87", after := #[{ on := 0, ground := Go.Ground.data }, { on := 2, ground := Go.Ground.data }, { on := 0, ground := Go.Ground.phase }, { on := 1, ground := Go.Ground.phase }, { on := 2, ground := Go.Ground.phase }, { on := 3, ground := Go.Ground.phase }, { on := 4, ground := Go.Ground.phase }, { on := 5, ground := Go.Ground.phase }, { on := 6, ground := Go.Ground.phase }, { on := 7, ground := Go.Ground.phase }, { on := 8, ground := Go.Ground.phase }, { on := 9, ground := Go.Ground.phase }, { on := 10, ground := Go.Ground.phase }, { on := 11, ground := Go.Ground.textOnly Go.Departure.lateStores }], guard := none }) (v := ?_) rfl (by kernel_rfl) (by kernel_rfl) (by kernel_rfl) (fun _ _ _ h => h) (Or.inl ⟨by rfl, ?_⟩) (by assumption) ?_
                      rotate_left
                      · (intro w hSw; (try dsimp only at hSw); go_simp; (try with_reducible rfl))
                      simp only [Act.put, List.setIfInBounds_toArray, List.set_cons_zero, List.set_cons_succ]
                      refine wpAnyH_ready (rs := [13]) (by kernel_rfl) (by simp) ?_
                      refine (AllReadyH.cons (o := { dst := none, op := Go.Op.store 41 (Go.Operand.tmp 131) (Go.Operand.tmp 129), type := 0, pos := "law.go:87", after := #[{ on := 12, ground := Go.Ground.data }, { on := 10, ground := Go.Ground.data }, { on := 8, ground := Go.Ground.chain }, { on := 0, ground := Go.Ground.phase }, { on := 1, ground := Go.Ground.phase }, { on := 2, ground := Go.Ground.phase }, { on := 3, ground := Go.Ground.phase }, { on := 4, ground := Go.Ground.phase }, { on := 5, ground := Go.Ground.phase }, { on := 6, ground := Go.Ground.phase }, { on := 7, ground := Go.Ground.phase }, { on := 8, ground := Go.Ground.phase }, { on := 9, ground := Go.Ground.phase }, { on := 10, ground := Go.Ground.phase }, { on := 11, ground := Go.Ground.textOnly Go.Departure.lateStores }], guard := none }) rfl (fun K hK => ?_) AllReadyH.nil)
                      go_simp
                      refine hK.out _ _ (⟨o1 _ _ _, o2 _ _ _⟩) (fun hHeldc => ?_)
                      clear hK K
                      refine wpAnyH_take (i := 14) (oi := { dst := some 15, op := Go.Op.assign (Go.Operand.tmp 130), type := 3, pos := "law.go:87", after := #[{ on := 11, ground := Go.Ground.data }, { on := 13, ground := Go.Ground.chain }, { on := 0, ground := Go.Ground.phase }, { on := 1, ground := Go.Ground.phase }, { on := 2, ground := Go.Ground.phase }, { on := 3, ground := Go.Ground.phase }, { on := 4, ground := Go.Ground.phase }, { on := 5, ground := Go.Ground.phase }, { on := 6, ground := Go.Ground.phase }, { on := 7, ground := Go.Ground.phase }, { on := 8, ground := Go.Ground.phase }, { on := 9, ground := Go.Ground.phase }, { on := 10, ground := Go.Ground.phase }, { on := 11, ground := Go.Ground.phase }, { on := 12, ground := Go.Ground.phase }, { on := 13, ground := Go.Ground.phase }], guard := none }) (v := ?_) rfl (by kernel_rfl) (by kernel_rfl) (by kernel_rfl) (fun _ _ _ h => h) (Or.inl ⟨by rfl, ?_⟩) (by assumption) ?_
                      rotate_left
                      · (intro w hSw; (try dsimp only at hSw); go_simp; (try with_reducible rfl))
                      simp only [Act.put, List.setIfInBounds_toArray, List.set_cons_zero, List.set_cons_succ]
                      refine wpAnyH_done (by kernel_rfl) ?_ _
                      (try go_wp2_with fail)
                      go_meet
                      exact ⟨EE, 0, _, rfl, rfl, rfl, rfl, NL.out.1, box NL.out.2, FIN w5 _ b6 rfl rfl rfl rfl⟩
                    · by_cases k1 : kd = 1
                      · subst k1
                        have C1 := box (free_any k k rfl g h l wb E1.out.xt c HC.out CO.out.1)
                        go_wp2_with fail
                        refine C1.out.mono ?_
                        rintro e wc ⟨rfl, x2, a2⟩
                        have E2 := box (E1.out.giver x2 a2)
                        have X2 := box (X1.out.same (a2.block mm X1.out.lt XB.out.2.1 (by simp)))
                        obtain ⟨r0, r1, r2, rz⟩ := X2.out
                        obtain ⟨m0, m1, m2, mz0, mz1, mz2⟩ := E2.out.xm.one HC.out
                        have RA := fun w => box (rfree_any c CO.out.1 CS.out w)
                        have NL := box (show (l.set k c.freeC).length = i ∧ ∀ x ∈ l.set k c.freeC, x.Ok ∧ x.f ≤ 64 * (j + 1) from ⟨by rw [List.length_set]; exact hln, fun x hx => by
                          rcases List.mem_or_eq_of_mem_set hx with hx | hx
                          · exact ⟨(hO.out x hx).1, by have := (hO.out x hx).2; omega⟩
                          · rw [hx]; exact ⟨CO.out.1.free, by have := free_f c; have := CO.out.2; omega⟩⟩)
                        clear C1 x2 a2 p0 p1 p2 pz X1 E1
                        obtain ⟨c', hc'⟩ : ∃ c', c.freeC = c' := ⟨_, rfl⟩
                        obtain ⟨EE, hEE⟩ : ∃ EE, c.freeE = EE := ⟨_, rfl⟩
                        rw [hc'] at E2 NL
                        rw [hc', hEE] at RA
                        rw [hEE]
                        have FIN := fun (w5 wf : World) (b5 : Below wc.heap.size wc w5) e1 e2 e3 e => box (E2.out.store (k := k) (w1 := w5) (wf := wf) b5 c' e1 e2 e3 e)
                        unfold gcV at RA
                        clear hc' hEE
                        go_upto_region 28 with fail
                        have r1d : wc.drew.cell? ⟨mm, 1, none⟩ = some (.int .i64 (k : Int)) := r1
                        have r2d : wc.drew.cell? ⟨mm, 2, none⟩ = some (.int .i64 nm) := r2
                        have m0d : wc.drew.cell? ⟨b, k * 3, none⟩ = some (.int .i64 (c.r : Int)) := m0
                        have m1d : wc.drew.cell? ⟨b, k * 3 + 1, none⟩ = some (.int .i64 (c.v : Int)) := m1
                        have m2d : wc.drew.cell? ⟨b, k * 3 + 2, none⟩ = some (.int .i64 (c.f : Int)) := m2
                        refine wp_region_held_drew (S := (fun w' => w'.cell? ⟨mm, 1, none⟩ = some (.int .i64 (k : Int)) ∧ w'.cell? ⟨mm, 2, none⟩ = some (.int .i64 nm))) (by kernel_rfl) (⟨r1d, r2d⟩) (fun hHeld => ?_)
                        refine wpAnyH_take (i := 0) (oi := { dst := some 139, op := Go.Op.move (Go.Operand.tmp 7), type := 39, pos := "law.go:90", after := #[], guard := none }) (v := ?_) rfl (by kernel_rfl) (by kernel_rfl) (by kernel_rfl) (fun _ _ _ h => h) (Or.inl ⟨by rfl, ?_⟩) (by assumption) ?_
                        rotate_left
                        · (intro w hSw; (try dsimp only at hSw); go_simp; (try with_reducible rfl))
                        simp only [Act.put, List.setIfInBounds_toArray, List.set_cons_zero, List.set_cons_succ]
                        refine wpAnyH_take (i := 1) (oi := { dst := some 140, op := Go.Op.fieldAddr 43 (Go.Operand.tmp 11) 1, type := 0, pos := "law.go:90", after := #[], guard := none }) (v := ?_) rfl (by kernel_rfl) (by kernel_rfl) (by kernel_rfl) (fun _ _ _ h => h) (Or.inl ⟨by rfl, ?_⟩) (by assumption) ?_
                        rotate_left
                        · (intro w hSw; (try dsimp only at hSw); go_simp; (try with_reducible rfl))
                        simp only [Act.put, List.setIfInBounds_toArray, List.set_cons_zero, List.set_cons_succ]
                        refine wpAnyH_take (i := 2) (oi := { dst := some 141, op := Go.Op.load 3 (Go.Operand.tmp 140), type := 3, pos := "law.go:90", after := #[{ on := 1, ground := Go.Ground.data }], guard := none }) (v := ?_) rfl (by kernel_rfl) (by kernel_rfl) (by kernel_rfl) (fun _ _ _ h => h) (Or.inl ⟨by rfl, ?_⟩) (by assumption) ?_
                        rotate_left
                        · (intro w hSw; (try dsimp only at hSw); go_simp; (try with_reducible rfl))
                        simp only [Act.put, List.setIfInBounds_toArray, List.set_cons_zero, List.set_cons_succ]
                        refine wpAnyH_take (i := 3) (oi := { dst := some 142, op := Go.Op.move (Go.Operand.tmp 7), type := 39, pos := "law.go:90", after := #[], guard := none }) (v := ?_) rfl (by kernel_rfl) (by kernel_rfl) (by kernel_rfl) (fun _ _ _ h => h) (Or.inl ⟨by rfl, ?_⟩) (by assumption) ?_
                        rotate_left
                        · (intro w hSw; (try dsimp only at hSw); go_simp; (try with_reducible rfl))
                        simp only [Act.put, List.setIfInBounds_toArray, List.set_cons_zero, List.set_cons_succ]
                        refine wpAnyH_take (i := 4) (oi := { dst := some 143, op := Go.Op.fieldAddr 43 (Go.Operand.tmp 11) 1, type := 0, pos := "law.go:90", after := #[], guard := none }) (v := ?_) rfl (by kernel_rfl) (by kernel_rfl) (by kernel_rfl) (fun _ _ _ h => h) (Or.inl ⟨by rfl, ?_⟩) (by assumption) ?_
                        rotate_left
                        · (intro w hSw; (try dsimp only at hSw); go_simp; (try with_reducible rfl))
                        simp only [Act.put, List.setIfInBounds_toArray, List.set_cons_zero, List.set_cons_succ]
                        refine wpAnyH_take (i := 5) (oi := { dst := some 144, op := Go.Op.load 3 (Go.Operand.tmp 143), type := 3, pos := "law.go:90", after := #[{ on := 4, ground := Go.Ground.data }], guard := none }) (v := ?_) rfl (by kernel_rfl) (by kernel_rfl) (by kernel_rfl) (fun _ _ _ h => h) (Or.inl ⟨by rfl, ?_⟩) (by assumption) ?_
                        rotate_left
                        · (intro w hSw; (try dsimp only at hSw); go_simp; (try with_reducible rfl))
                        simp only [Act.put, List.setIfInBounds_toArray, List.set_cons_zero, List.set_cons_succ]
                        refine wpAnyH_take (i := 6) (oi := { dst := some 145, op := Go.Op.indexAddr 39 (Go.Operand.tmp 142) (Go.Operand.tmp 144), type := 0, pos := "law.go:90", after := #[{ on := 3, ground := Go.Ground.data }, { on := 5, ground := Go.Ground.data }], guard := none }) (v := ?_) rfl (by kernel_rfl) (by kernel_rfl) (by kernel_rfl) (fun _ _ _ h => h) (Or.inl ⟨by rfl, ?_⟩) (by assumption) ?_
                        rotate_left
                        · (intro w hSw; (try dsimp only at hSw); go_simp; (try with_reducible rfl))
                        simp only [Act.put, List.setIfInBounds_toArray, List.set_cons_zero, List.set_cons_succ]
                        refine wpAnyH_ready (rs := [7]) (by kernel_rfl) (by simp) ?_
                        refine (AllReadyH.cons (o := { dst := some 146, op := Go.Op.load 41 (Go.Operand.tmp 145), type := 41, pos := "law.go:90", after := #[{ on := 6, ground := Go.Ground.data }], guard := none }) rfl (fun K hK => ?_) AllReadyH.nil)
                        go_simp
                        refine hK.out _ _ (⟨r1d, r2d⟩) (fun hHelda => ?_)
                        clear hK K
                        refine wpAnyH_ready (rs := [8]) (by kernel_rfl) (by simp) ?_
                        refine (AllReadyH.cons (o := { dst := some 147, op := Go.Op.call { callee := Go.Callee.value (Go.Operand.func 25), args := #[Go.Operand.tmp 146], argTypes := #[41] }, type := 44, pos := "law.go:90", after := #[{ on := 7, ground := Go.Ground.data }], guard := none }) rfl (fun K hK => ?_) AllReadyH.nil)
                        go_simp
                        refine (RA _).out.mono ?_
                        rintro e w5 ⟨rfl, b5⟩
                        have b6 : Below wc.heap.size wc w5 := ⟨b5.os, b5.tape, b5.output, b5.size, b5.block⟩
                        obtain ⟨n0, n1, n2, nz0, nz1, nz2⟩ := (E2.out.keep b6).xm.one HC.out
                        have s1 := keepc b6 r1
                        have s2 := keepc b6 r2
                        have o1 := fun v1 v2 v3 => cell_far (i := k * 3 + 2) (Ne.symm XB.out.2.2) (cell_far (i := k * 3 + 1) (Ne.symm XB.out.2.2) (cell_far (i := k * 3) (Ne.symm XB.out.2.2) s1 v1) v2) v3
                        have o2 := fun v1 v2 v3 => cell_far (i := k * 3 + 2) (Ne.symm XB.out.2.2) (cell_far (i := k * 3 + 1) (Ne.symm XB.out.2.2) (cell_far (i := k * 3) (Ne.symm XB.out.2.2) s2 v1) v2) v3
                        refine hK.out _ _ (⟨s1, s2⟩) (fun hHeldb => ?_)
                        clear hK K
                        refine wpAnyH_take (i := 9) (oi := { dst := some 138, op := Go.Op.move (Go.Operand.tmp 147), type := 44, pos := "law.go:90", after := #[{ on := 8, ground := Go.Ground.data }], guard := none }) (v := ?_) rfl (by kernel_rfl) (by kernel_rfl) (by kernel_rfl) (fun _ _ _ h => h) (Or.inl ⟨by rfl, ?_⟩) (by assumption) ?_
                        rotate_left
                        · (intro w hSw; (try dsimp only at hSw); go_simp; (try with_reducible rfl))
                        simp only [Act.put, List.setIfInBounds_toArray, List.set_cons_zero, List.set_cons_succ]
                        refine wpAnyH_take (i := 10) (oi := { dst := some 148, op := Go.Op.extract (Go.Operand.tmp 138) 0, type := 41, pos := "law.go:90", after := #[{ on := 9, ground := Go.Ground.data }], guard := none }) (v := ?_) rfl (by kernel_rfl) (by kernel_rfl) (by kernel_rfl) (fun _ _ _ h => h) (Or.inl ⟨by rfl, ?_⟩) (by assumption) ?_
                        rotate_left
                        · (intro w hSw; (try dsimp only at hSw); go_simp; (try with_reducible rfl))
                        simp only [Act.put, List.setIfInBounds_toArray, List.set_cons_zero, List.set_cons_succ]
                        refine wpAnyH_take (i := 11) (oi := { dst := some 149, op := Go.Op.extract (Go.Operand.tmp 138) 1, type := 3, pos := "law.go:90", after := #[{ on := 9, ground := Go.Ground.data }, { on := 13, ground := Go.Ground.gcOnly Go.Departure.lateStores }], guard := none }) (v := ?_) rfl (by kernel_rfl) (by kernel_rfl) (by kernel_rfl) (fun _ _ _ h => h) (Or.inl ⟨by rfl, ?_⟩) (by assumption) ?_
                        rotate_left
                        · (intro w hSw; (try dsimp only at hSw); go_simp; (try with_reducible rfl))
                        simp only [Act.put, List.setIfInBounds_toArray, List.set_cons_zero, List.set_cons_succ]
                        refine wpAnyH_take (i := 12) (oi := { dst := some 150, op := Go.Op.indexAddr 39 (Go.Operand.tmp 139) (Go.Operand.tmp 141), type := 0, pos := "law.go:90", after := #[{ on := 0, ground := Go.Ground.data }, { on := 2, ground := Go.Ground.data }, { on := 0, ground := Go.Ground.phase }, { on := 1, ground := Go.Ground.phase }, { on := 2, ground := Go.Ground.phase }, { on := 3, ground := Go.Ground.phase }, { on := 4, ground := Go.Ground.phase }, { on := 5, ground := Go.Ground.phase }, { on := 6, ground := Go.Ground.phase }, { on := 7, ground := Go.Ground.phase }, { on := 8, ground := Go.Ground.phase }, { on := 9, ground := Go.Ground.phase }, { on := 10, ground := Go.Ground.phase }, { on := 11, ground := Go.Ground.textOnly Go.Departure.lateStores }], guard := none }) (v := ?_) rfl (by kernel_rfl) (by kernel_rfl) (by kernel_rfl) (fun _ _ _ h => h) (Or.inl ⟨by rfl, ?_⟩) (by assumption) ?_
                        rotate_left
                        · (intro w hSw; (try dsimp only at hSw); go_simp; (try with_reducible rfl))
                        simp only [Act.put, List.setIfInBounds_toArray, List.set_cons_zero, List.set_cons_succ]
                        refine wpAnyH_ready (rs := [13]) (by kernel_rfl) (by simp) ?_
                        refine (AllReadyH.cons (o := { dst := none, op := Go.Op.store 41 (Go.Operand.tmp 150) (Go.Operand.tmp 148), type := 0, pos := "law.go:90", after := #[{ on := 12, ground := Go.Ground.data }, { on := 10, ground := Go.Ground.data }, { on := 8, ground := Go.Ground.chain }, { on := 0, ground := Go.Ground.phase }, { on := 1, ground := Go.Ground.phase }, { on := 2, ground := Go.Ground.phase }, { on := 3, ground := Go.Ground.phase }, { on := 4, ground := Go.Ground.phase }, { on := 5, ground := Go.Ground.phase }, { on := 6, ground := Go.Ground.phase }, { on := 7, ground := Go.Ground.phase }, { on := 8, ground := Go.Ground.phase }, { on := 9, ground := Go.Ground.phase }, { on := 10, ground := Go.Ground.phase }, { on := 11, ground := Go.Ground.textOnly Go.Departure.lateStores }], guard := none }) rfl (fun K hK => ?_) AllReadyH.nil)
                        go_simp
                        refine hK.out _ _ (⟨o1 _ _ _, o2 _ _ _⟩) (fun hHeldc => ?_)
                        clear hK K
                        refine wpAnyH_take (i := 14) (oi := { dst := some 15, op := Go.Op.assign (Go.Operand.tmp 149), type := 3, pos := "law.go:90", after := #[{ on := 11, ground := Go.Ground.data }, { on := 13, ground := Go.Ground.chain }, { on := 0, ground := Go.Ground.phase }, { on := 1, ground := Go.Ground.phase }, { on := 2, ground := Go.Ground.phase }, { on := 3, ground := Go.Ground.phase }, { on := 4, ground := Go.Ground.phase }, { on := 5, ground := Go.Ground.phase }, { on := 6, ground := Go.Ground.phase }, { on := 7, ground := Go.Ground.phase }, { on := 8, ground := Go.Ground.phase }, { on := 9, ground := Go.Ground.phase }, { on := 10, ground := Go.Ground.phase }, { on := 11, ground := Go.Ground.phase }, { on := 12, ground := Go.Ground.phase }, { on := 13, ground := Go.Ground.phase }], guard := none }) (v := ?_) rfl (by kernel_rfl) (by kernel_rfl) (by kernel_rfl) (fun _ _ _ h => h) (Or.inl ⟨by rfl, ?_⟩) (by assumption) ?_
                        rotate_left
                        · (intro w hSw; (try dsimp only at hSw); go_simp; (try with_reducible rfl))
                        simp only [Act.put, List.setIfInBounds_toArray, List.set_cons_zero, List.set_cons_succ]
                        refine wpAnyH_done (by kernel_rfl) ?_ _
                        (try go_wp2_with fail)
                        go_meet
                        exact ⟨EE, 0, _, rfl, rfl, rfl, rfl, NL.out.1, box NL.out.2, FIN w5 _ b6 rfl rfl rfl rfl⟩
                      · by_cases k2 : kd = 2
                        · subst k2
                          have C1 := box (audit_any nm k k rfl g h l wb E1.out.xt c HC.out CO.out.1)
                          go_wp2_with fail
                          refine C1.out.mono ?_
                          rintro e wc ⟨rfl, x2, a2⟩
                          have E2 := box (E1.out.giver x2 a2)
                          have X2 := box (X1.out.same (a2.block mm X1.out.lt XB.out.2.1 (by simp)))
                          obtain ⟨r0, r1, r2, rz⟩ := X2.out
                          obtain ⟨m0, m1, m2, mz0, mz1, mz2⟩ := E2.out.xm.one HC.out
                          have RA := fun w => box (raudit_any c CO.out.1 CS.out nm w)
                          have NL := box (show (l.set k (c.audC nm)).length = i ∧ ∀ x ∈ l.set k (c.audC nm), x.Ok ∧ x.f ≤ 64 * (j + 1) from ⟨by rw [List.length_set]; exact hln, fun x hx => by
                            rcases List.mem_or_eq_of_mem_set hx with hx | hx
                            · exact ⟨(hO.out x hx).1, by have := (hO.out x hx).2; omega⟩
                            · rw [hx]; exact ⟨CO.out.1.aud nm, by have := aud_f c CO.out.1 nm; have := CO.out.2; omega⟩⟩)
                          clear C1 x2 a2 p0 p1 p2 pz X1 E1
                          obtain ⟨c', hc'⟩ : ∃ c', (c.audC nm) = c' := ⟨_, rfl⟩
                          obtain ⟨EE, hEE⟩ : ∃ EE, c.audE nm = EE := ⟨_, rfl⟩
                          rw [hc'] at E2 NL
                          rw [hc', hEE] at RA
                          rw [hEE]
                          obtain ⟨NN, hNN⟩ : ∃ NN, c.audN nm = NN := ⟨_, rfl⟩
                          rw [hNN] at RA
                          rw [hNN]
                          clear hNN
                          have FIN := fun (w5 wf : World) (b5 : Below wc.heap.size wc w5) e1 e2 e3 e => box (E2.out.store (k := k) (w1 := w5) (wf := wf) b5 c' e1 e2 e3 e)
                          unfold gcV at RA
                          clear hc' hEE
                          go_upto_region 31 with fail
                          have r1d : wc.drew.cell? ⟨mm, 1, none⟩ = some (.int .i64 (k : Int)) := r1
                          have r2d : wc.drew.cell? ⟨mm, 2, none⟩ = some (.int .i64 nm) := r2
                          have m0d : wc.drew.cell? ⟨b, k * 3, none⟩ = some (.int .i64 (c.r : Int)) := m0
                          have m1d : wc.drew.cell? ⟨b, k * 3 + 1, none⟩ = some (.int .i64 (c.v : Int)) := m1
                          have m2d : wc.drew.cell? ⟨b, k * 3 + 2, none⟩ = some (.int .i64 (c.f : Int)) := m2
                          refine wp_region_held_drew (S := (fun w' => w'.cell? ⟨mm, 1, none⟩ = some (.int .i64 (k : Int)) ∧ w'.cell? ⟨mm, 2, none⟩ = some (.int .i64 nm))) (by kernel_rfl) (⟨r1d, r2d⟩) (fun hHeld => ?_)
                          refine wpAnyH_take (i := 0) (oi := { dst := some 163, op := Go.Op.move (Go.Operand.tmp 7), type := 39, pos := "law.go:93", after := #[], guard := none }) (v := ?_) rfl (by kernel_rfl) (by kernel_rfl) (by kernel_rfl) (fun _ _ _ h => h) (Or.inl ⟨by rfl, ?_⟩) (by assumption) ?_
                          rotate_left
                          · (intro w hSw; (try dsimp only at hSw); go_simp; (try with_reducible rfl))
                          simp only [Act.put, List.setIfInBounds_toArray, List.set_cons_zero, List.set_cons_succ]
                          refine wpAnyH_take (i := 1) (oi := { dst := some 164, op := Go.Op.fieldAddr 43 (Go.Operand.tmp 11) 1, type := 0, pos := "law.go:93", after := #[], guard := none }) (v := ?_) rfl (by kernel_rfl) (by kernel_rfl) (by kernel_rfl) (fun _ _ _ h => h) (Or.inl ⟨by rfl, ?_⟩) (by assumption) ?_
                          rotate_left
                          · (intro w hSw; (try dsimp only at hSw); go_simp; (try with_reducible rfl))
                          simp only [Act.put, List.setIfInBounds_toArray, List.set_cons_zero, List.set_cons_succ]
                          refine wpAnyH_take (i := 2) (oi := { dst := some 165, op := Go.Op.load 3 (Go.Operand.tmp 164), type := 3, pos := "law.go:93", after := #[{ on := 1, ground := Go.Ground.data }], guard := none }) (v := ?_) rfl (by kernel_rfl) (by kernel_rfl) (by kernel_rfl) (fun _ _ _ h => h) (Or.inl ⟨by rfl, ?_⟩) (by assumption) ?_
                          rotate_left
                          · (intro w hSw; (try dsimp only at hSw); go_simp; (try with_reducible rfl))
                          simp only [Act.put, List.setIfInBounds_toArray, List.set_cons_zero, List.set_cons_succ]
                          refine wpAnyH_take (i := 3) (oi := { dst := some 166, op := Go.Op.move (Go.Operand.tmp 7), type := 39, pos := "law.go:93", after := #[], guard := none }) (v := ?_) rfl (by kernel_rfl) (by kernel_rfl) (by kernel_rfl) (fun _ _ _ h => h) (Or.inl ⟨by rfl, ?_⟩) (by assumption) ?_
                          rotate_left
                          · (intro w hSw; (try dsimp only at hSw); go_simp; (try with_reducible rfl))
                          simp only [Act.put, List.setIfInBounds_toArray, List.set_cons_zero, List.set_cons_succ]
                          refine wpAnyH_take (i := 4) (oi := { dst := some 167, op := Go.Op.fieldAddr 43 (Go.Operand.tmp 11) 1, type := 0, pos := "law.go:93", after := #[], guard := none }) (v := ?_) rfl (by kernel_rfl) (by kernel_rfl) (by kernel_rfl) (fun _ _ _ h => h) (Or.inl ⟨by rfl, ?_⟩) (by assumption) ?_
                          rotate_left
                          · (intro w hSw; (try dsimp only at hSw); go_simp; (try with_reducible rfl))
                          simp only [Act.put, List.setIfInBounds_toArray, List.set_cons_zero, List.set_cons_succ]
                          refine wpAnyH_take (i := 5) (oi := { dst := some 168, op := Go.Op.load 3 (Go.Operand.tmp 167), type := 3, pos := "law.go:93", after := #[{ on := 4, ground := Go.Ground.data }], guard := none }) (v := ?_) rfl (by kernel_rfl) (by kernel_rfl) (by kernel_rfl) (fun _ _ _ h => h) (Or.inl ⟨by rfl, ?_⟩) (by assumption) ?_
                          rotate_left
                          · (intro w hSw; (try dsimp only at hSw); go_simp; (try with_reducible rfl))
                          simp only [Act.put, List.setIfInBounds_toArray, List.set_cons_zero, List.set_cons_succ]
                          refine wpAnyH_take (i := 6) (oi := { dst := some 169, op := Go.Op.indexAddr 39 (Go.Operand.tmp 166) (Go.Operand.tmp 168), type := 0, pos := "law.go:93", after := #[{ on := 3, ground := Go.Ground.data }, { on := 5, ground := Go.Ground.data }], guard := none }) (v := ?_) rfl (by kernel_rfl) (by kernel_rfl) (by kernel_rfl) (fun _ _ _ h => h) (Or.inl ⟨by rfl, ?_⟩) (by assumption) ?_
                          rotate_left
                          · (intro w hSw; (try dsimp only at hSw); go_simp; (try with_reducible rfl))
                          simp only [Act.put, List.setIfInBounds_toArray, List.set_cons_zero, List.set_cons_succ]
                          refine wpAnyH_take (i := 8) (oi := { dst := some 171, op := Go.Op.fieldAddr 43 (Go.Operand.tmp 11) 2, type := 0, pos := "law.go:93", after := #[], guard := none }) (v := ?_) rfl (by kernel_rfl) (by kernel_rfl) (by kernel_rfl) (fun _ _ _ h => h) (Or.inl ⟨by rfl, ?_⟩) (by assumption) ?_
                          rotate_left
                          · (intro w hSw; (try dsimp only at hSw); go_simp; (try with_reducible rfl))
                          simp only [Act.put, List.setIfInBounds_toArray, List.set_cons_zero, List.set_cons_succ]
                          refine wpAnyH_take (i := 9) (oi := { dst := some 172, op := Go.Op.load 3 (Go.Operand.tmp 171), type := 3, pos := "law.go:93", after := #[{ on := 8, ground := Go.Ground.data }], guard := none }) (v := ?_) rfl (by kernel_rfl) (by kernel_rfl) (by kernel_rfl) (fun _ _ _ h => h) (Or.inl ⟨by rfl, ?_⟩) (by assumption) ?_
                          rotate_left
                          · (intro w hSw; (try dsimp only at hSw); go_simp; (try with_reducible rfl))
                          simp only [Act.put, List.setIfInBounds_toArray, List.set_cons_zero, List.set_cons_succ]
                          refine wpAnyH_ready (rs := [7]) (by kernel_rfl) (by simp) ?_
                          refine (AllReadyH.cons (o := { dst := some 170, op := Go.Op.load 41 (Go.Operand.tmp 169), type := 41, pos := "law.go:93", after := #[{ on := 6, ground := Go.Ground.data }], guard := none }) rfl (fun K hK => ?_) AllReadyH.nil)
                          go_simp
                          refine hK.out _ _ (⟨r1d, r2d⟩) (fun hHelda => ?_)
                          clear hK K
                          refine wpAnyH_ready (rs := [10]) (by kernel_rfl) (by simp) ?_
                          refine (AllReadyH.cons (o := { dst := some 173, op := Go.Op.call { callee := Go.Callee.value (Go.Operand.func 26), args := #[Go.Operand.tmp 170, Go.Operand.tmp 172], argTypes := #[41, 3] }, type := 46, pos := "law.go:93", after := #[{ on := 7, ground := Go.Ground.data }, { on := 9, ground := Go.Ground.data }], guard := none }) rfl (fun K hK => ?_) AllReadyH.nil)
                          go_simp
                          refine (RA _).out.mono ?_
                          rintro e w5 ⟨rfl, b5⟩
                          have b6 : Below wc.heap.size wc w5 := ⟨b5.os, b5.tape, b5.output, b5.size, b5.block⟩
                          obtain ⟨n0, n1, n2, nz0, nz1, nz2⟩ := (E2.out.keep b6).xm.one HC.out
                          have s1 := keepc b6 r1
                          have s2 := keepc b6 r2
                          have o1 := fun v1 v2 v3 => cell_far (i := k * 3 + 2) (Ne.symm XB.out.2.2) (cell_far (i := k * 3 + 1) (Ne.symm XB.out.2.2) (cell_far (i := k * 3) (Ne.symm XB.out.2.2) s1 v1) v2) v3
                          have o2 := fun v1 v2 v3 => cell_far (i := k * 3 + 2) (Ne.symm XB.out.2.2) (cell_far (i := k * 3 + 1) (Ne.symm XB.out.2.2) (cell_far (i := k * 3) (Ne.symm XB.out.2.2) s2 v1) v2) v3
                          refine hK.out _ _ (⟨s1, s2⟩) (fun hHeldb => ?_)
                          clear hK K
                          refine wpAnyH_take (i := 11) (oi := { dst := some 162, op := Go.Op.move (Go.Operand.tmp 173), type := 46, pos := "law.go:93", after := #[{ on := 10, ground := Go.Ground.data }], guard := none }) (v := ?_) rfl (by kernel_rfl) (by kernel_rfl) (by kernel_rfl) (fun _ _ _ h => h) (Or.inl ⟨by rfl, ?_⟩) (by assumption) ?_
                          rotate_left
                          · (intro w hSw; (try dsimp only at hSw); go_simp; (try with_reducible rfl))
                          simp only [Act.put, List.setIfInBounds_toArray, List.set_cons_zero, List.set_cons_succ]
                          refine wpAnyH_take (i := 12) (oi := { dst := some 174, op := Go.Op.extract (Go.Operand.tmp 162) 0, type := 41, pos := "law.go:93", after := #[{ on := 11, ground := Go.Ground.data }], guard := none }) (v := ?_) rfl (by kernel_rfl) (by kernel_rfl) (by kernel_rfl) (fun _ _ _ h => h) (Or.inl ⟨by rfl, ?_⟩) (by assumption) ?_
                          rotate_left
                          · (intro w hSw; (try dsimp only at hSw); go_simp; (try with_reducible rfl))
                          simp only [Act.put, List.setIfInBounds_toArray, List.set_cons_zero, List.set_cons_succ]
                          refine wpAnyH_take (i := 13) (oi := { dst := some 175, op := Go.Op.extract (Go.Operand.tmp 162) 1, type := 3, pos := "law.go:93", after := #[{ on := 11, ground := Go.Ground.data }, { on := 16, ground := Go.Ground.gcOnly Go.Departure.lateStores }], guard := none }) (v := ?_) rfl (by kernel_rfl) (by kernel_rfl) (by kernel_rfl) (fun _ _ _ h => h) (Or.inl ⟨by rfl, ?_⟩) (by assumption) ?_
                          rotate_left
                          · (intro w hSw; (try dsimp only at hSw); go_simp; (try with_reducible rfl))
                          simp only [Act.put, List.setIfInBounds_toArray, List.set_cons_zero, List.set_cons_succ]
                          refine wpAnyH_take (i := 14) (oi := { dst := some 176, op := Go.Op.extract (Go.Operand.tmp 162) 2, type := 3, pos := "law.go:93", after := #[{ on := 11, ground := Go.Ground.data }, { on := 17, ground := Go.Ground.gcOnly Go.Departure.lateStores }], guard := none }) (v := ?_) rfl (by kernel_rfl) (by kernel_rfl) (by kernel_rfl) (fun _ _ _ h => h) (Or.inl ⟨by rfl, ?_⟩) (by assumption) ?_
                          rotate_left
                          · (intro w hSw; (try dsimp only at hSw); go_simp; (try with_reducible rfl))
                          simp only [Act.put, List.setIfInBounds_toArray, List.set_cons_zero, List.set_cons_succ]
                          refine wpAnyH_take (i := 15) (oi := { dst := some 177, op := Go.Op.indexAddr 39 (Go.Operand.tmp 163) (Go.Operand.tmp 165), type := 0, pos := "law.go:93", after := #[{ on := 0, ground := Go.Ground.data }, { on := 2, ground := Go.Ground.data }, { on := 0, ground := Go.Ground.phase }, { on := 1, ground := Go.Ground.phase }, { on := 2, ground := Go.Ground.phase }, { on := 3, ground := Go.Ground.phase }, { on := 4, ground := Go.Ground.phase }, { on := 5, ground := Go.Ground.phase }, { on := 6, ground := Go.Ground.phase }, { on := 7, ground := Go.Ground.phase }, { on := 8, ground := Go.Ground.phase }, { on := 9, ground := Go.Ground.phase }, { on := 10, ground := Go.Ground.phase }, { on := 11, ground := Go.Ground.phase }, { on := 12, ground := Go.Ground.phase }, { on := 13, ground := Go.Ground.textOnly Go.Departure.lateStores }, { on := 14, ground := Go.Ground.textOnly Go.Departure.lateStores }], guard := none }) (v := ?_) rfl (by kernel_rfl) (by kernel_rfl) (by kernel_rfl) (fun _ _ _ h => h) (Or.inl ⟨by rfl, ?_⟩) (by assumption) ?_
                          rotate_left
                          · (intro w hSw; (try dsimp only at hSw); go_simp; (try with_reducible rfl))
                          simp only [Act.put, List.setIfInBounds_toArray, List.set_cons_zero, List.set_cons_succ]
                          refine wpAnyH_ready (rs := [16]) (by kernel_rfl) (by simp) ?_
                          refine (AllReadyH.cons (o := { dst := none, op := Go.Op.store 41 (Go.Operand.tmp 177) (Go.Operand.tmp 174), type := 0, pos := "law.go:93", after := #[{ on := 15, ground := Go.Ground.data }, { on := 12, ground := Go.Ground.data }, { on := 10, ground := Go.Ground.chain }, { on := 0, ground := Go.Ground.phase }, { on := 1, ground := Go.Ground.phase }, { on := 2, ground := Go.Ground.phase }, { on := 3, ground := Go.Ground.phase }, { on := 4, ground := Go.Ground.phase }, { on := 5, ground := Go.Ground.phase }, { on := 6, ground := Go.Ground.phase }, { on := 7, ground := Go.Ground.phase }, { on := 8, ground := Go.Ground.phase }, { on := 9, ground := Go.Ground.phase }, { on := 10, ground := Go.Ground.phase }, { on := 11, ground := Go.Ground.phase }, { on := 12, ground := Go.Ground.phase }, { on := 13, ground := Go.Ground.textOnly Go.Departure.lateStores }, { on := 14, ground := Go.Ground.textOnly Go.Departure.lateStores }], guard := none }) rfl (fun K hK => ?_) AllReadyH.nil)
                          go_simp
                          refine hK.out _ _ (⟨o1 _ _ _, o2 _ _ _⟩) (fun hHeldc => ?_)
                          clear hK K
                          refine wpAnyH_take (i := 17) (oi := { dst := some 17, op := Go.Op.assign (Go.Operand.tmp 175), type := 3, pos := "law.go:93", after := #[{ on := 13, ground := Go.Ground.data }, { on := 16, ground := Go.Ground.chain }, { on := 0, ground := Go.Ground.phase }, { on := 1, ground := Go.Ground.phase }, { on := 2, ground := Go.Ground.phase }, { on := 3, ground := Go.Ground.phase }, { on := 4, ground := Go.Ground.phase }, { on := 5, ground := Go.Ground.phase }, { on := 6, ground := Go.Ground.phase }, { on := 7, ground := Go.Ground.phase }, { on := 8, ground := Go.Ground.phase }, { on := 9, ground := Go.Ground.phase }, { on := 10, ground := Go.Ground.phase }, { on := 11, ground := Go.Ground.phase }, { on := 12, ground := Go.Ground.phase }, { on := 13, ground := Go.Ground.phase }, { on := 14, ground := Go.Ground.textOnly Go.Departure.lateStores }, { on := 15, ground := Go.Ground.phase }, { on := 16, ground := Go.Ground.phase }], guard := none }) (v := ?_) rfl (by kernel_rfl) (by kernel_rfl) (by kernel_rfl) (fun _ _ _ h => h) (Or.inl ⟨by rfl, ?_⟩) (by assumption) ?_
                          rotate_left
                          · (intro w hSw; (try dsimp only at hSw); go_simp; (try with_reducible rfl))
                          simp only [Act.put, List.setIfInBounds_toArray, List.set_cons_zero, List.set_cons_succ]
                          refine wpAnyH_take (i := 18) (oi := { dst := some 15, op := Go.Op.assign (Go.Operand.tmp 176), type := 3, pos := "law.go:93", after := #[{ on := 14, ground := Go.Ground.data }, { on := 17, ground := Go.Ground.chain }, { on := 0, ground := Go.Ground.phase }, { on := 1, ground := Go.Ground.phase }, { on := 2, ground := Go.Ground.phase }, { on := 3, ground := Go.Ground.phase }, { on := 4, ground := Go.Ground.phase }, { on := 5, ground := Go.Ground.phase }, { on := 6, ground := Go.Ground.phase }, { on := 7, ground := Go.Ground.phase }, { on := 8, ground := Go.Ground.phase }, { on := 9, ground := Go.Ground.phase }, { on := 10, ground := Go.Ground.phase }, { on := 11, ground := Go.Ground.phase }, { on := 12, ground := Go.Ground.phase }, { on := 13, ground := Go.Ground.phase }, { on := 14, ground := Go.Ground.phase }, { on := 15, ground := Go.Ground.phase }, { on := 16, ground := Go.Ground.phase }, { on := 17, ground := Go.Ground.phase }], guard := none }) (v := ?_) rfl (by kernel_rfl) (by kernel_rfl) (by kernel_rfl) (fun _ _ _ h => h) (Or.inl ⟨by rfl, ?_⟩) (by assumption) ?_
                          rotate_left
                          · (intro w hSw; (try dsimp only at hSw); go_simp; (try with_reducible rfl))
                          simp only [Act.put, List.setIfInBounds_toArray, List.set_cons_zero, List.set_cons_succ]
                          refine wpAnyH_done (by kernel_rfl) ?_ _
                          (try go_wp2_with fail)
                          go_meet
                          exact ⟨EE, NN, _, rfl, rfl, rfl, rfl, NL.out.1, box NL.out.2, FIN w5 _ b6 rfl rfl rfl rfl⟩
                        · have FIN := box (show ∃ (E N : Int) (l' : List Gc), Value.int .i64 0 = .int .i64 E ∧ Value.int .i64 0 = .int .i64 E ∧ Value.int .i64 0 = .int .i64 N ∧ Value.int .i64 0 = .int .i64 N ∧ l'.length = i ∧ Box (∀ c ∈ l', c.Ok ∧ c.f ≤ 64 * (j + 1)) ∧ Box (GE w.heap.size w wb g h l' b l') from ⟨0, 0, l, rfl, rfl, rfl, rfl, hln, box (fun c hc => ⟨(hO.out c hc).1, by have := (hO.out c hc).2; omega⟩), E1⟩)
                          clear E1 X1
                          go_wp2_with fail
                          go_meet
                          exact FIN.out
                  case rest =>
                    clear E1 X1 p0 p1 p2 pz hO HC CO CS
                    obtain ⟨E, N, l', rfl, rfl, rfl, rfl, hln', hO, hE⟩ := hcut
                    go_wp2_with fail
                    go_loopw [188] (fun t188 wr' => ∃ q : Nat, q ≤ i ∧ t188 = .int .i64 q ∧ Box (GE w.heap.size w wr' g h l' b l')) (fun t188 _ => i - (intOf t188).toNat)
                    case atStart => exact ⟨0, by omega, rfl, hE⟩
                    case round =>
                      clear hE
                      obtain ⟨q, hq, rfl, hE⟩ := hrel
                      by_cases hqn : q < i
                      · have hql : q < l'.length := by omega
                        obtain ⟨c, hc⟩ : ∃ c, l'[q]? = some c := ⟨_, List.getElem?_eq_getElem hql⟩
                        have CO := box (hO.out c (List.mem_of_getElem? hc))
                        have CS := box (show c.r + c.f ≤ 1000000 from by have h1 := CO.out.1.r2; have h2 := CO.out.2; omega)
                        obtain ⟨wr', hwr'⟩ : ∃ wr', wr = wr' := ⟨_, rfl⟩
                        rw [hwr'] at hE ⊢
                        clear hwr'
                        obtain ⟨m0, m1, m2, -, -, -⟩ := hE.out.xm.one hc
                        have LQ := fun (w5 : World) (k5 : Below wr'.heap.size wr' w5) => box (limit_b q q rfl g h l' w5 (hE.out.keep k5).xt c hc CO.out.1)
                        have HQ := fun (w5 : World) (k5 : Below wr'.heap.size wr' w5) => box (held_b q q rfl g h l' w5 (hE.out.keep k5).xt c hc CO.out.1)
                        have RQ := fun w5 => box (rlimit_any c CO.out.1 CS.out w5)
                        have hvb : c.v ≤ 1099511627776 := by have := CO.out.1.vl; unfold LIM at this; omega
                        have hfb : c.f ≤ c.v := CO.out.1.fv
                        have wr0 : IntKind.i64.wrap ((c.v : Int) - (c.f : Int)) = (c.v : Int) - (c.f : Int) := by rw [IntKind.wrap_i64]; omega
                        have HE := hE
                        clear hc hE
                        go_upto_region 37 with fail
                        have d0 : Below wr'.heap.size wr' wr'.drew := ⟨rfl, rfl, rfl, Nat.le_refl _, fun _ _ => rfl⟩
                        refine wp_region_held_drew (S := (fun w' => Below wr'.heap.size wr' w')) (by kernel_rfl) (d0) (fun hHeld => ?_)
                        refine wpAnyH_take (i := 0) (oi := { dst := some 191, op := Go.Op.move (Go.Operand.tmp 5), type := 24, pos := "law.go:99", after := #[], guard := none }) (v := ?_) rfl (by kernel_rfl) (by kernel_rfl) (by kernel_rfl) (fun _ _ _ h => h) (Or.inl ⟨by rfl, ?_⟩) (by assumption) ?_
                        rotate_left
                        · (intro w hSw; (try dsimp only at hSw); have f0 := keepc hSw m0; have f1 := keepc hSw m1; have f2 := keepc hSw m2; go_simp; (try with_reducible rfl))
                        simp only [Act.put, List.setIfInBounds_toArray, List.set_cons_zero, List.set_cons_succ]
                        refine wpAnyH_take (i := 1) (oi := { dst := some 192, op := Go.Op.move (Go.Operand.tmp 18), type := 3, pos := "law.go:99", after := #[], guard := none }) (v := ?_) rfl (by kernel_rfl) (by kernel_rfl) (by kernel_rfl) (fun _ _ _ h => h) (Or.inl ⟨by rfl, ?_⟩) (by assumption) ?_
                        rotate_left
                        · (intro w hSw; (try dsimp only at hSw); have f0 := keepc hSw m0; have f1 := keepc hSw m1; have f2 := keepc hSw m2; go_simp; (try with_reducible rfl))
                        simp only [Act.put, List.setIfInBounds_toArray, List.set_cons_zero, List.set_cons_succ]
                        refine wpAnyH_take (i := 3) (oi := { dst := some 194, op := Go.Op.move (Go.Operand.tmp 7), type := 39, pos := "law.go:99", after := #[], guard := none }) (v := ?_) rfl (by kernel_rfl) (by kernel_rfl) (by kernel_rfl) (fun _ _ _ h => h) (Or.inl ⟨by rfl, ?_⟩) (by assumption) ?_
                        rotate_left
                        · (intro w hSw; (try dsimp only at hSw); have f0 := keepc hSw m0; have f1 := keepc hSw m1; have f2 := keepc hSw m2; go_simp; (try with_reducible rfl))
                        simp only [Act.put, List.setIfInBounds_toArray, List.set_cons_zero, List.set_cons_succ]
                        refine wpAnyH_take (i := 4) (oi := { dst := some 195, op := Go.Op.move (Go.Operand.tmp 18), type := 3, pos := "law.go:99", after := #[], guard := none }) (v := ?_) rfl (by kernel_rfl) (by kernel_rfl) (by kernel_rfl) (fun _ _ _ h => h) (Or.inl ⟨by rfl, ?_⟩) (by assumption) ?_
                        rotate_left
                        · (intro w hSw; (try dsimp only at hSw); have f0 := keepc hSw m0; have f1 := keepc hSw m1; have f2 := keepc hSw m2; go_simp; (try with_reducible rfl))
                        simp only [Act.put, List.setIfInBounds_toArray, List.set_cons_zero, List.set_cons_succ]
                        refine wpAnyH_take (i := 5) (oi := { dst := some 196, op := Go.Op.indexAddr 39 (Go.Operand.tmp 194) (Go.Operand.tmp 195), type := 0, pos := "law.go:99", after := #[{ on := 3, ground := Go.Ground.data }, { on := 4, ground := Go.Ground.data }], guard := none }) (v := ?_) rfl (by kernel_rfl) (by kernel_rfl) (by kernel_rfl) (fun _ _ _ h => h) (Or.inl ⟨by rfl, ?_⟩) (by assumption) ?_
                        rotate_left
                        · (intro w hSw; (try dsimp only at hSw); have f0 := keepc hSw m0; have f1 := keepc hSw m1; have f2 := keepc hSw m2; go_simp; (try with_reducible rfl))
                        simp only [Act.put, List.setIfInBounds_toArray, List.set_cons_zero, List.set_cons_succ]
                        refine wpAnyH_take (i := 6) (oi := { dst := some 197, op := Go.Op.load 41 (Go.Operand.tmp 196), type := 41, pos := "law.go:99", after := #[{ on := 5, ground := Go.Ground.data }], guard := none }) (v := ?_) rfl (by kernel_rfl) (by kernel_rfl) (by kernel_rfl) (fun _ _ _ h => h) (Or.inl ⟨by rfl, ?_⟩) (by assumption) ?_
                        rotate_left
                        · (intro w hSw; (try dsimp only at hSw); have f0 := keepc hSw m0; have f1 := keepc hSw m1; have f2 := keepc hSw m2; go_simp; (try with_reducible rfl))
                        simp only [Act.put, List.setIfInBounds_toArray, List.set_cons_zero, List.set_cons_succ]
                        refine wpAnyH_ready (rs := [2]) (by kernel_rfl) (by simp) ?_
                        refine (AllReadyH.cons (o := { dst := some 193, op := Go.Op.call { callee := Go.Callee.value (Go.Operand.func 15), args := #[Go.Operand.tmp 191, Go.Operand.tmp 192], argTypes := #[24, 3] }, type := 3, pos := "law.go:99", after := #[{ on := 0, ground := Go.Ground.data }, { on := 1, ground := Go.Ground.data }], guard := none }) rfl (fun K hK => ?_) AllReadyH.nil)
                        go_simp
                        refine (LQ _ d0).out.mono ?_
                        rintro e w5 ⟨rfl, b5⟩
                        have k5 := d0.trans (b5.mono d0.size)
                        refine hK.out _ _ (k5) (fun hHelda => ?_)
                        clear hK K
                        refine wpAnyH_ready (rs := [7]) (by kernel_rfl) (by simp) ?_
                        refine (AllReadyH.cons (o := { dst := some 198, op := Go.Op.call { callee := Go.Callee.value (Go.Operand.func 27), args := #[Go.Operand.tmp 197], argTypes := #[41] }, type := 3, pos := "law.go:99", after := #[{ on := 6, ground := Go.Ground.data }, { on := 2, ground := Go.Ground.chain }], guard := none }) rfl (fun K hK => ?_) AllReadyH.nil)
                        go_simp
                        refine (RQ _).out.mono ?_
                        rintro e w6 ⟨rfl, b6⟩
                        have k6 := k5.trans (b6.mono k5.size)
                        refine hK.out _ _ (k6) (fun hHeldb => ?_)
                        clear hK K
                        refine wpAnyH_take (i := 8) (oi := { dst := some 199, op := Go.Op.binOp Go.BinOp.neq 3 (Go.Operand.tmp 193) (Go.Operand.tmp 198) 3, type := 4, pos := "law.go:99", after := #[{ on := 2, ground := Go.Ground.data }, { on := 7, ground := Go.Ground.data }], guard := none }) (v := ?_) rfl (by kernel_rfl) (by kernel_rfl) (by kernel_rfl) (fun _ _ _ h => h) (Or.inl ⟨by rfl, ?_⟩) (by assumption) ?_
                        rotate_left
                        · (intro w hSw; (try dsimp only at hSw); have f0 := keepc hSw m0; have f1 := keepc hSw m1; have f2 := keepc hSw m2; go_simp; (try with_reducible rfl))
                        simp only [Act.put, List.setIfInBounds_toArray, List.set_cons_zero, List.set_cons_succ]
                        refine wpAnyH_take (i := 9) (oi := { dst := some 200, op := Go.Op.move (Go.Operand.tmp 199), type := 4, pos := "law.go:99", after := #[{ on := 8, ground := Go.Ground.data }, { on := 7, ground := Go.Ground.chain }], guard := none }) (v := ?_) rfl (by kernel_rfl) (by kernel_rfl) (by kernel_rfl) (fun _ _ _ h => h) (Or.inl ⟨by rfl, ?_⟩) (by assumption) ?_
                        rotate_left
                        · (intro w hSw; (try dsimp only at hSw); have f0 := keepc hSw m0; have f1 := keepc hSw m1; have f2 := keepc hSw m2; go_simp; (try with_reducible rfl))
                        simp only [Act.put, List.setIfInBounds_toArray, List.set_cons_zero, List.set_cons_succ]
                        refine wpAnyH_take (i := 10) (oi := { dst := some 201, op := Go.Op.move (Go.Operand.tmp 5), type := 24, pos := "law.go:99", after := #[{ on := 9, ground := Go.Ground.guard }], guard := some (9, false) }) (v := ?_) rfl (by kernel_rfl) (by kernel_rfl) (by kernel_rfl) (fun _ _ _ h => h) (Or.inl ⟨by rfl, ?_⟩) (by assumption) ?_
                        rotate_left
                        · (intro w hSw; (try dsimp only at hSw); have f0 := keepc hSw m0; have f1 := keepc hSw m1; have f2 := keepc hSw m2; go_simp; (try with_reducible rfl))
                        simp only [Act.put, List.setIfInBounds_toArray, List.set_cons_zero, List.set_cons_succ]
                        refine wpAnyH_take (i := 11) (oi := { dst := some 202, op := Go.Op.move (Go.Operand.tmp 18), type := 3, pos := "law.go:99", after := #[{ on := 9, ground := Go.Ground.guard }], guard := some (9, false) }) (v := ?_) rfl (by kernel_rfl) (by kernel_rfl) (by kernel_rfl) (fun _ _ _ h => h) (Or.inl ⟨by rfl, ?_⟩) (by assumption) ?_
                        rotate_left
                        · (intro w hSw; (try dsimp only at hSw); have f0 := keepc hSw m0; have f1 := keepc hSw m1; have f2 := keepc hSw m2; go_simp; (try with_reducible rfl))
                        simp only [Act.put, List.setIfInBounds_toArray, List.set_cons_zero, List.set_cons_succ]
                        refine wpAnyH_take (i := 13) (oi := { dst := some 204, op := Go.Op.move (Go.Operand.tmp 7), type := 39, pos := "law.go:99", after := #[{ on := 9, ground := Go.Ground.guard }], guard := some (9, false) }) (v := ?_) rfl (by kernel_rfl) (by kernel_rfl) (by kernel_rfl) (fun _ _ _ h => h) (Or.inl ⟨by rfl, ?_⟩) (by assumption) ?_
                        rotate_left
                        · (intro w hSw; (try dsimp only at hSw); have f0 := keepc hSw m0; have f1 := keepc hSw m1; have f2 := keepc hSw m2; go_simp; (try with_reducible rfl))
                        simp only [Act.put, List.setIfInBounds_toArray, List.set_cons_zero, List.set_cons_succ]
                        refine wpAnyH_take (i := 14) (oi := { dst := some 205, op := Go.Op.move (Go.Operand.tmp 18), type := 3, pos := "law.go:99", after := #[{ on := 9, ground := Go.Ground.guard }], guard := some (9, false) }) (v := ?_) rfl (by kernel_rfl) (by kernel_rfl) (by kernel_rfl) (fun _ _ _ h => h) (Or.inl ⟨by rfl, ?_⟩) (by assumption) ?_
                        rotate_left
                        · (intro w hSw; (try dsimp only at hSw); have f0 := keepc hSw m0; have f1 := keepc hSw m1; have f2 := keepc hSw m2; go_simp; (try with_reducible rfl))
                        simp only [Act.put, List.setIfInBounds_toArray, List.set_cons_zero, List.set_cons_succ]
                        refine wpAnyH_take (i := 15) (oi := { dst := some 206, op := Go.Op.indexAddr 39 (Go.Operand.tmp 204) (Go.Operand.tmp 205), type := 0, pos := "law.go:99", after := #[{ on := 13, ground := Go.Ground.data }, { on := 14, ground := Go.Ground.data }, { on := 9, ground := Go.Ground.guard }], guard := some (9, false) }) (v := ?_) rfl (by kernel_rfl) (by kernel_rfl) (by kernel_rfl) (fun _ _ _ h => h) (Or.inl ⟨by rfl, ?_⟩) (by assumption) ?_
                        rotate_left
                        · (intro w hSw; (try dsimp only at hSw); have f0 := keepc hSw m0; have f1 := keepc hSw m1; have f2 := keepc hSw m2; go_simp; (try with_reducible rfl))
                        simp only [Act.put, List.setIfInBounds_toArray, List.set_cons_zero, List.set_cons_succ]
                        refine wpAnyH_take (i := 16) (oi := { dst := some 207, op := Go.Op.fieldAddr 41 (Go.Operand.tmp 206) 1, type := 0, pos := "law.go:99", after := #[{ on := 15, ground := Go.Ground.data }, { on := 9, ground := Go.Ground.guard }], guard := some (9, false) }) (v := ?_) rfl (by kernel_rfl) (by kernel_rfl) (by kernel_rfl) (fun _ _ _ h => h) (Or.inl ⟨by rfl, ?_⟩) (by assumption) ?_
                        rotate_left
                        · (intro w hSw; (try dsimp only at hSw); have f0 := keepc hSw m0; have f1 := keepc hSw m1; have f2 := keepc hSw m2; go_simp; (try with_reducible rfl))
                        simp only [Act.put, List.setIfInBounds_toArray, List.set_cons_zero, List.set_cons_succ]
                        refine wpAnyH_take (i := 17) (oi := { dst := some 208, op := Go.Op.load 3 (Go.Operand.tmp 207), type := 3, pos := "law.go:99", after := #[{ on := 16, ground := Go.Ground.data }, { on := 9, ground := Go.Ground.guard }], guard := some (9, false) }) (v := ?_) rfl (by kernel_rfl) (by kernel_rfl) (by kernel_rfl) (fun _ _ _ h => h) (Or.inl ⟨by rfl, ?_⟩) (by assumption) ?_
                        rotate_left
                        · (intro w hSw; (try dsimp only at hSw); have f0 := keepc hSw m0; have f1 := keepc hSw m1; have f2 := keepc hSw m2; go_simp; (try with_reducible rfl))
                        simp only [Act.put, List.setIfInBounds_toArray, List.set_cons_zero, List.set_cons_succ]
                        refine wpAnyH_take (i := 18) (oi := { dst := some 209, op := Go.Op.move (Go.Operand.tmp 7), type := 39, pos := "law.go:99", after := #[{ on := 9, ground := Go.Ground.guard }], guard := some (9, false) }) (v := ?_) rfl (by kernel_rfl) (by kernel_rfl) (by kernel_rfl) (fun _ _ _ h => h) (Or.inl ⟨by rfl, ?_⟩) (by assumption) ?_
                        rotate_left
                        · (intro w hSw; (try dsimp only at hSw); have f0 := keepc hSw m0; have f1 := keepc hSw m1; have f2 := keepc hSw m2; go_simp; (try with_reducible rfl))
                        simp only [Act.put, List.setIfInBounds_toArray, List.set_cons_zero, List.set_cons_succ]
                        refine wpAnyH_take (i := 19) (oi := { dst := some 210, op := Go.Op.move (Go.Operand.tmp 18), type := 3, pos := "law.go:99", after := #[{ on := 9, ground := Go.Ground.guard }], guard := some (9, false) }) (v := ?_) rfl (by kernel_rfl) (by kernel_rfl) (by kernel_rfl) (fun _ _ _ h => h) (Or.inl ⟨by rfl, ?_⟩) (by assumption) ?_
                        rotate_left
                        · (intro w hSw; (try dsimp only at hSw); have f0 := keepc hSw m0; have f1 := keepc hSw m1; have f2 := keepc hSw m2; go_simp; (try with_reducible rfl))
                        simp only [Act.put, List.setIfInBounds_toArray, List.set_cons_zero, List.set_cons_succ]
                        refine wpAnyH_take (i := 20) (oi := { dst := some 211, op := Go.Op.indexAddr 39 (Go.Operand.tmp 209) (Go.Operand.tmp 210), type := 0, pos := "law.go:99", after := #[{ on := 18, ground := Go.Ground.data }, { on := 19, ground := Go.Ground.data }, { on := 9, ground := Go.Ground.guard }], guard := some (9, false) }) (v := ?_) rfl (by kernel_rfl) (by kernel_rfl) (by kernel_rfl) (fun _ _ _ h => h) (Or.inl ⟨by rfl, ?_⟩) (by assumption) ?_
                        rotate_left
                        · (intro w hSw; (try dsimp only at hSw); have f0 := keepc hSw m0; have f1 := keepc hSw m1; have f2 := keepc hSw m2; go_simp; (try with_reducible rfl))
                        simp only [Act.put, List.setIfInBounds_toArray, List.set_cons_zero, List.set_cons_succ]
                        refine wpAnyH_take (i := 21) (oi := { dst := some 212, op := Go.Op.fieldAddr 41 (Go.Operand.tmp 211) 2, type := 0, pos := "law.go:99", after := #[{ on := 20, ground := Go.Ground.data }, { on := 9, ground := Go.Ground.guard }], guard := some (9, false) }) (v := ?_) rfl (by kernel_rfl) (by kernel_rfl) (by kernel_rfl) (fun _ _ _ h => h) (Or.inl ⟨by rfl, ?_⟩) (by assumption) ?_
                        rotate_left
                        · (intro w hSw; (try dsimp only at hSw); have f0 := keepc hSw m0; have f1 := keepc hSw m1; have f2 := keepc hSw m2; go_simp; (try with_reducible rfl))
                        simp only [Act.put, List.setIfInBounds_toArray, List.set_cons_zero, List.set_cons_succ]
                        refine wpAnyH_take (i := 22) (oi := { dst := some 213, op := Go.Op.load 3 (Go.Operand.tmp 212), type := 3, pos := "law.go:99", after := #[{ on := 21, ground := Go.Ground.data }, { on := 9, ground := Go.Ground.guard }], guard := some (9, false) }) (v := ?_) rfl (by kernel_rfl) (by kernel_rfl) (by kernel_rfl) (fun _ _ _ h => h) (Or.inl ⟨by rfl, ?_⟩) (by assumption) ?_
                        rotate_left
                        · (intro w hSw; (try dsimp only at hSw); have f0 := keepc hSw m0; have f1 := keepc hSw m1; have f2 := keepc hSw m2; go_simp; (try with_reducible rfl))
                        simp only [Act.put, List.setIfInBounds_toArray, List.set_cons_zero, List.set_cons_succ]
                        refine wpAnyH_take (i := 23) (oi := { dst := some 214, op := Go.Op.binOp Go.BinOp.sub 3 (Go.Operand.tmp 208) (Go.Operand.tmp 213) 3, type := 3, pos := "law.go:99", after := #[{ on := 17, ground := Go.Ground.data }, { on := 22, ground := Go.Ground.data }, { on := 9, ground := Go.Ground.guard }], guard := some (9, false) }) (v := ?_) rfl (by kernel_rfl) (by kernel_rfl) (by kernel_rfl) (fun _ _ _ h => h) (Or.inl ⟨by rfl, ?_⟩) (by assumption) ?_
                        rotate_left
                        · (intro w hSw; (try dsimp only at hSw); have f0 := keepc hSw m0; have f1 := keepc hSw m1; have f2 := keepc hSw m2; go_simp; (try with_reducible rfl))
                        simp only [Act.put, List.setIfInBounds_toArray, List.set_cons_zero, List.set_cons_succ]
                        refine wpAnyH_ready (rs := [12]) (by kernel_rfl) (by simp) ?_
                        refine (AllReadyH.cons (o := { dst := some 203, op := Go.Op.call { callee := Go.Callee.value (Go.Operand.func 16), args := #[Go.Operand.tmp 201, Go.Operand.tmp 202], argTypes := #[24, 3] }, type := 3, pos := "law.go:99", after := #[{ on := 10, ground := Go.Ground.data }, { on := 11, ground := Go.Ground.data }, { on := 9, ground := Go.Ground.chain }, { on := 9, ground := Go.Ground.guard }], guard := some (9, false) }) rfl (fun K hK => ?_) AllReadyH.nil)
                        go_simp
                        refine (HQ _ k6).out.mono ?_
                        rintro e w7 ⟨rfl, b7⟩
                        have k7 := k6.trans (b7.mono k6.size)
                        refine hK.out _ _ (k7) (fun hHeldc => ?_)
                        clear hK K
                        refine wpAnyH_take (i := 24) (oi := { dst := some 215, op := Go.Op.binOp Go.BinOp.neq 3 (Go.Operand.tmp 203) (Go.Operand.tmp 214) 3, type := 4, pos := "law.go:99", after := #[{ on := 12, ground := Go.Ground.data }, { on := 23, ground := Go.Ground.data }, { on := 9, ground := Go.Ground.guard }], guard := some (9, false) }) (v := ?_) rfl (by kernel_rfl) (by kernel_rfl) (by kernel_rfl) (fun _ _ _ h => h) (Or.inl ⟨by rfl, ?_⟩) (by assumption) ?_
                        rotate_left
                        · (intro w hSw; (try dsimp only at hSw); have f0 := keepc hSw m0; have f1 := keepc hSw m1; have f2 := keepc hSw m2; go_simp; (try with_reducible rfl))
                        simp only [Act.put, List.setIfInBounds_toArray, List.set_cons_zero, List.set_cons_succ]
                        refine wpAnyH_take (i := 25) (oi := { dst := some 216, op := Go.Op.pick (Go.Operand.tmp 200) (Go.Operand.const (Go.Value.bool true)) (Go.Operand.tmp 215), type := 4, pos := "law.go:99", after := #[{ on := 9, ground := Go.Ground.data }, { on := 24, ground := Go.Ground.data }], guard := none }) (v := ?_) rfl (by kernel_rfl) (by kernel_rfl) (by kernel_rfl) (fun _ _ _ h => h) (Or.inl ⟨by rfl, ?_⟩) (by assumption) ?_
                        rotate_left
                        · (intro w hSw; (try dsimp only at hSw); have f0 := keepc hSw m0; have f1 := keepc hSw m1; have f2 := keepc hSw m2; go_simp; (try with_reducible rfl))
                        simp only [Act.put, List.setIfInBounds_toArray, List.set_cons_zero, List.set_cons_succ]
                        refine wpAnyH_done (by kernel_rfl) ?_ _
                        have E8 := box (HE.out.keep k7)
                        (try go_wp2_with fail)
                        all_goals first
                          | (exfalso; rename_i hx; rw [wr0] at hx; simp at hx; done)
                          | exact ⟨⟨q + 1, by omega, by go_num, E8⟩, by simp [intOf]; omega⟩
                      · go_wp2_with fail
                        go_roundw
                        case rel => exact ⟨j + 1, l', by omega, by go_num, hln', hO, hE⟩
                        case measure => simp [intOf]; omega
              · go_wp2_with fail
                go_ret
                exact ⟨rfl, hE.out.bel⟩
      · rw [HR.out] at hr
        cases hr
end Go.Proofs.Ytoolphpideicoaa
