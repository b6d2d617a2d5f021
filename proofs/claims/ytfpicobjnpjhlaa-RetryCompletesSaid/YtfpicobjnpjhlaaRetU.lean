/- The reference's sending of the packet at the position. -/
import Derived.Test.YtfpicobjnpjhlaaRetT
import Derived.Deep.Cut
namespace Go.Proofs.Ytfpicobjnpjhlaa
open Go.RowKit

/-- An append of bytes to a slice of the call's own, in a drawn region. -/
theorem step_in {ops : Array Oper} {o : Oper} {a : Act} {w : World} {K : Act → World → Prop} {Q : Exit → Act → World → Prop} {E : Prop} (hg : o.guard = none) (s x : Operand)
    (hop : o.op = .call { callee := .builtin .append, args := #[s, x], argTypes := #[32, 32] })
    (base : Nat) (v : Value) (n : Nat) (xs : List Nat) (hs : a.eval s = v) (hown : Own base w v n xs)
    (p : Option Addr) (m c : Nat) (news : List Nat) (hx : a.eval x = .slice p m c) (hl : news.length = m) (hin : In w p news) (hnil : p = none → c = 0)
    (h63 : n + m ≤ 10000) (hbase : base ≤ w.heap.size)
    (hK : ∀ v' w', Box (Own base w' v' (n + m) (xs ++ news)) → Box (w.grownBy w' v.ownBlock) → K (a.put o.dst v') w') :
    if Region.wanted o (yielded ops a.tmps) = true then Oper.wp Try.prog o a w K Q else E := by
  have hw : Region.wanted o (yielded ops a.tmps) = true := by simp [Region.wanted, hg]
  rw [if_pos hw]
  obtain ⟨i0, hi, hz0, hz1, hz2⟩ := info_parts Try.infoU8
  obtain ⟨v', w', hrun, r1, r2⟩ : ∃ v' w', (Builtin.append_ #[32, 32] o.type #[v, .slice p m c]).run Try.prog w = .ok v' w' ∧ Own base w' v' (n + m) (xs ++ news) ∧ w.grownBy w' v.ownBlock := by
    rcases p with _ | ad
    · obtain rfl := hnil rfl
      obtain rfl : news = [] := by
        rcases hin with h | ⟨b, h, _⟩
        · exact h
        · cases h
      obtain rfl : m = 0 := by simpa using hl.symm
      exact ⟨v, w, run_append_owned_none (P := Try.prog) (w := w) base 32 o.type 5 i0 1 Try.underlying32 hi v n (xs.map nU8) hown, by simpa using hown, ⟨rfl, rfl, rfl, Nat.le_refl _, fun _ _ _ => rfl⟩⟩
    · have hcell : ∀ j u, (news.map nU8)[j]? = some u → w.cell? (ad.add j) = some u := by
        intro j u hj
        rcases hin with rfl | ⟨b, hb', hat⟩
        · simp at hj
        · cases hb'
          simp at hj
          obtain ⟨y, hy, rfl⟩ := hj
          have hjl : j < news.length := (List.getElem?_eq_some_iff.1 hy).1
          rw [hat j hjl]
          simp [List.getD_eq_getElem?_getD, hy]
      obtain ⟨v', w', hrun, h1, h2, _⟩ := run_append_own (P := Try.prog) w base 32 o.type 5 i0 (.int .u8 0) 1 1 Try.underlying32 hi hz0 hz1 hz2 rfl (by decide) v n (xs.map nU8) hown ad m c (news.map nU8) (by simp [hl]) hcell (nU8_one _) (by unfold maxLen; omega) (by omega) hbase
      exact ⟨v', w', hrun, by unfold Own; rw [List.map_append]; exact h1, h2⟩
  unfold Oper.wp
  simp [execOp, hop, resolve, invoke, builtin, hs, hx, hrun, Result.andThen]
  exact hK _ _ (box r1) (box r2)

theorem RsAt.keep {B : Nat} {E : Nat → Prop} {w w' : World} {g : Nat} {v : Value} {s : Rs} (x : RsAt B E w g v s) (hb : Below w.heap.size w w') : RsAt B E w' g v s :=
  ⟨x.m.keep hb, x.row.same hb.size (fun k h => hb.block k (x.row.blk k h).2), x.far, x.bg, x.out, fun y hy => (x.syms y hy).keep (fun k hk _ => hb.block k hk)⟩

set_option maxHeartbeats 2000000 in
theorem rsend_any (B : Nat) (E : Nat → Prop) (g : Nat) (v : Value) (s : Rs) (w : World) (x : RsAt B E w g v s) (hx : s.nx < s.ks.length) (b1 : s.ac < 1000000) (b2 : s.nx < 1000000) (b4 : ∀ k ∈ s.ks, k.xs.length ≤ 64) :
    Calls Try.prog 33 #[.pointer (some ⟨g, 0, none⟩)] w fun e w' => ∃ a c, e = .returned (.tuple #[.int .i64 (((s.ac : Int) + (s.nx : Int)) % 256), .slice a (s.ks[s.nx]'hx).xs.length c, .bool true]) ∧ Own w.heap.size w' (.slice a (s.ks[s.nx]'hx).xs.length c) (s.ks[s.nx]'hx).xs.length (s.ks[s.nx]'hx).xs ∧
      RsAt B E w' g v ⟨s.W, s.τ, s.ks, s.ta, s.ac, s.nx + 1, max s.hi (s.nx + 1), 0⟩ ∧ Steps g v v w w' := by
  have kD : Below w.heap.size w w.drew := (Below.refl _ _).drew
  have X1 := box (x.keep kD)
  have KD := box kD
  obtain ⟨p0, p1, p2, p3, p4, p5, p6, p7, pz⟩ := x.m
  clear kD x
  go_enter Try.func33, Try.ntmps33
  go_upto_region 1 with fail
  go_region
  clear p0 p1 p2 p3 p4 p5 p6 p7 pz
  generalize w.drew = w1 at X1 KD ⊢
  obtain ⟨m, row, far, bg, out, syms⟩ := X1.out
  obtain ⟨p0, p1, p2, p3, p4, p5, p6, p7, pz⟩ := m
  rcases row with ⟨rfl, h0⟩ | ⟨r, i, cap, rfl, r1, r2, r3, r4, r5, r6⟩
  · have : s.ks = [] := by simpa using h0
    rw [this] at hx
    simp at hx
  · obtain ⟨K, hK⟩ : ∃ K, s.ks[s.nx]'hx = K := ⟨_, rfl⟩
    have hKm : K ∈ s.ks := by rw [← hK]; exact List.getElem_mem _
    have HK := box (syms K hKm)
    have c1 : w1.cell? ⟨r, i + s.nx, none⟩ = some (.slice K.a K.xs.length K.c) := by
      rw [r5 s.nx (kpV K) (by rw [List.getElem?_map, List.getElem?_eq_getElem hx, hK]; rfl)]
    have hK64 : K.xs.length ≤ 64 := b4 K hKm
    rw [List.length_map] at p2 r3
    clear r5 r6 syms b4 hKm out
    obtain ⟨L, hL⟩ : ∃ L, s.ks.length = L := ⟨_, rfl⟩
    have HL := box hL
    rw [hL] at p2 r3
    have hxL : s.nx < L := by omega
    have kE : Below w1.heap.size w1 (w1.alloc (.cells #[] 5)).drew := ((Below.refl _ _).alloc (Nat.le_refl _) _).drew
    have HINE := box (HK.out.inn.below kE)
    have HOE := box (show Own w1.heap.size (w1.alloc (.cells #[] 5)).drew (.slice (some ⟨w1.heap.size, 0, none⟩) 0 0) 0 [] from (World.ownsRow_made (e := 5) (size := 1) (base := w1.heap.size) w1 #[] 0 (Nat.le_refl _) (Nat.zero_le _) rfl))
    have HSE := box (show w1.heap.size ≤ ((w1.alloc (.cells #[] 5)).drew).heap.size from kE.size)
    have HNL := box HK.out.nil
    have d1 : (w1.alloc (.cells #[] 5)).cell? ⟨r, i + s.nx, none⟩ = some (.slice K.a K.xs.length K.c) := keepa _ c1
    have d2 : (w1.alloc (.cells #[] 5)).cell? ⟨g, 2, none⟩ = some (.slice (some ⟨r, i, none⟩) L cap) := keepa _ p2
    have d5 : (w1.alloc (.cells #[] 5)).cell? ⟨g, 5, none⟩ = some (.int .i64 s.nx) := keepa _ p5
    have KE := box kE
    clear kE
    go_wp2_with fail
    go_region_law (refine step_in (o := ⟨some 28, _, _, _, _, _⟩) rfl (.tmp 17) (.tmp 27) rfl w1.heap.size (.slice (some ⟨w1.heap.size, 0, none⟩) 0 0) 0 [] rfl HOE.out K.a K.xs.length K.c K.xs rfl rfl HINE.out HNL.out (by omega) HSE.out ?_; intro v2 w2 HO2 HB2)
    all_goals
      have k2 := KE.out.grown HB2.out KE.out.size (fun q hq => by cases hq; exact Nat.le_refl _)
      have K2 := box (KD.out.trans (k2.mono KD.out.size))
      have X2 := box (X1.out.keep k2)
      obtain ⟨a2, c2, hv2, -, -, -, -⟩ := own_any HO2.out
      subst hv2
      obtain ⟨p0, p1, p2, p3, p4, p5, p6, p7, pz⟩ := X2.out.m
      clear k2 d1 d2 d5 c1 HINE HOE HSE HB2
      go_wp2_with fail
      have M3 := box (X2.out.m.set5 (.int .i64 ((s.nx : Int) + 1)))
      have H3 := box (show ∀ k, k ≠ g → (w2.setCell ⟨g, 5, none⟩ (.int .i64 ((s.nx : Int) + 1))).heap[k]? = w2.heap[k]? from fun k hk => heap_else (fun e => hk e.symm) _)
      have A3 := box (show Apart g (some r) w2 (w2.setCell ⟨g, 5, none⟩ (.int .i64 ((s.nx : Int) + 1))) from (Apart.refl _ _ _).setCell 5 _)
      clear p0 p1 p2 p3 p4 p5 p6 p7 pz
      generalize w2.setCell ⟨g, 5, none⟩ (.int .i64 ((s.nx : Int) + 1)) = w3 at M3 H3 A3 ⊢
      obtain ⟨p0, p1, p2, p3, p4, p5, p6, p7, pz⟩ := M3.out
      have hg1 : g < w1.heap.size := X1.out.m.lt
      have fin : ∀ (wf : World) (hi' : Nat), wf.os = w3.os → wf.tape = w3.tape → wf.output = w3.output → wf.heap = ((w3.setCell ⟨g, 6, none⟩ (.int .i64 hi')).setCell ⟨g, 7, none⟩ (.int .i64 0)).heap → hi' = max s.hi (s.nx + 1) →
          Own w.heap.size wf (.slice a2 K.xs.length c2) K.xs.length K.xs ∧ RsAt B E wf g (.slice (some ⟨r, i, none⟩) (s.ks.map kpV).length cap) ⟨s.W, s.τ, s.ks, s.ta, s.ac, s.nx + 1, max s.hi (s.nx + 1), 0⟩ ∧ Steps g (.slice (some ⟨r, i, none⟩) (s.ks.map kpV).length cap) (.slice (some ⟨r, i, none⟩) (s.ks.map kpV).length cap) w wf := by
        intro wf hi' e1 e2 e3 e4 e5
        have hoth : ∀ k, k ≠ g → wf.heap[k]? = w2.heap[k]? := fun k hk => by
          have h : ∀ (w : World) (i : Nat) (u : Value), (w.setCell ⟨g, i, none⟩ u).heap[k]? = w.heap[k]? := fun w i u => heap_else (fun e => hk e.symm) u
          rw [e4, h, h, H3.out k hk]
        have hA := ((A3.out.setCell 6 (.int .i64 hi')).setCell 7 (.int .i64 0))
        have hA2 : Apart g (some r) w2 wf := ⟨e1.trans A3.out.os, e2.trans A3.out.tape, e3.trans A3.out.output, by rw [e4]; exact hA.size, fun k _ h1 _ => hoth k h1⟩
        have ho : Own w1.heap.size w2 (.slice a2 K.xs.length c2) K.xs.length K.xs := by have h := HO2.out; simpa using h
        refine ⟨row_same (World.ownsRow.mono ho KD.out.size) (fun q hq => hoth q (fun e => ?_)), X2.out.mod hA2.size hoth rfl ?_, ?_⟩
        · have := (row_blk ho q hq).1
          omega
        · have h := (M3.out.set6 (.int .i64 hi')).set7 (.int .i64 0)
          have h2 : R8 wf g _ _ _ _ _ _ _ _ := h.same (by rw [e4])
          have e6 : ((s.nx + 1 : Nat) : Int) = (s.nx : Int) + 1 := by omega
          rw [e6, ← e5]
          exact h2
        · exact (Steps.ofBelow K2.out).trans ⟨hA2, fun k hk => .inl hk⟩
      rw [List.length_map, hL] at fin
      have FIN := box fin
      clear fin M3 H3 A3 HO2 X2 K2 hg1
      rcases Nat.lt_or_ge s.hi (s.nx + 1) with hm | hm
      · go_region
        go_wp2_with fail
        (try simp only [Exit.inBlock, Exit.then])
        refine bodyPost_ret (results_tmp3 rfl _ _ _) rfl ?_
        (try simp only [hK, List.length_map, hL])
        exact ⟨a2, c2, rfl, FIN.out (((w3.setCell ⟨g, 6, none⟩ (.int .i64 ((s.nx : Int) + 1))).setCell ⟨g, 7, none⟩ (.int .i64 0)).drew) (s.nx + 1) rfl rfl rfl rfl (by omega)⟩
      · go_region
        go_wp2_with fail
        (try simp only [Exit.inBlock, Exit.then])
        refine bodyPost_ret (results_tmp3 rfl _ _ _) rfl ?_
        (try simp only [hK, List.length_map, hL])
        have h := FIN.out (((w3.setCell ⟨g, 6, none⟩ (.int .i64 (s.hi : Int))).setCell ⟨g, 7, none⟩ (.int .i64 0)).drew) s.hi rfl rfl rfl rfl (by omega)
        first | exact ⟨a2, c2, rfl, h⟩ | (rw [Nat.max_eq_left hm] at h; exact ⟨a2, c2, rfl, h⟩)
end Go.Proofs.Ytfpicobjnpjhlaa
