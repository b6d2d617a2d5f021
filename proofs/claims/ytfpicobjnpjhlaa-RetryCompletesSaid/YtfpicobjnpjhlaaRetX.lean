/- The program's tick; a new sender; the receiver; nil pointers. -/
import Derived.Test.YtfpicobjnpjhlaaRetW
namespace Go.Proofs.Ytfpicobjnpjhlaa
open Go.RowKit

theorem dueS_tick {s : Rs} {i : Nat} (h : tickI s = some i) : (dueS s).nx = i ∧ (dueS s).W = s.W ∧ (dueS s).τ = s.τ ∧ (dueS s).ks = s.ks ∧ (dueS s).ta = s.ta ∧ (dueS s).ac = s.ac ∧ (dueS s).hi = s.hi := by
  unfold tickI at h
  unfold dueS
  split at h
  · next h1 => cases h; rw [if_pos h1]; exact ⟨rfl, rfl, rfl, rfl, rfl, rfl, rfl⟩
  · next h1 =>
    rw [if_neg h1]
    split at h
    · cases h
    · next h2 =>
      rw [if_neg h2]
      split at h
      · cases h
      · next h3 => cases h; rw [if_neg h3]; exact ⟨rfl, rfl, rfl, rfl, rfl, rfl, rfl⟩
theorem dueS_none {s : Rs} (h : tickI s = none) : dueS s = tickS s := by
  unfold tickS
  rw [h]
  unfold tickI at h
  unfold dueS
  split at h
  · cases h
  · next h1 =>
    rw [if_neg h1]
    split at h
    · next h2 => rw [if_pos h2, if_pos h2]
    · next h2 =>
      rw [if_neg h2, if_neg h2]
      split at h
      · next h3 => rw [if_pos h3]
      · cases h

set_option maxRecDepth 100000 in
set_option maxHeartbeats 4000000 in
theorem ptick_any (B : Nat) (E : Nat → Prop) (g : Nat) (v : Value) (s : Rs) (w : World) (x : PsAt B E w g v s) (ok : s.Ok) (b1 : s.ac < 1000000) :
    Calls Try.prog 16 #[.pointer (some ⟨g, 0, none⟩)] w fun e w' => ∃ a c, e = .returned (.tuple #[.int .i64 (tickN s), .slice a (tickX s).length c, .bool (tickI s).isSome]) ∧ Own w.heap.size w' (.slice a (tickX s).length c) (tickX s).length (tickX s) ∧ PsAt B E w' g v (tickS s) ∧ Steps g v v w w' := by
  have D := box (due_any B E g v s w x (by have := ok.si; have := ok.t2; omega))
  rcases hI : tickI s with _ | i
  · have e1 : tickN s = 0 := by unfold tickN; rw [hI]
    have e2 : tickX s = [] := by unfold tickX; rw [hI]
    have e3 := dueS_none hI
    rw [hI, e3] at D
    rw [e1, e2]
    clear e1 e2 e3 hI x ok
    generalize tickS s = s2 at D ⊢
    go_enter Try.func16, Try.ntmps16
    go_wp2_with fail
    refine D.out.mono ?_
    rintro e w2 ⟨rfl, x2, st2⟩
    have X2 := box x2
    have S2 := box st2
    clear x2 st2
    go_wp2_with fail
    go_ret3
    exact ⟨none, 0, rfl, World.ownsRow_nil _ _ _ _, X2.out, S2.out⟩
  · obtain ⟨k1, k2, k3, k4, k5, k6, k7⟩ := dueS_tick hI
    have hil := tickI_lt hI
    have hile := tickI_le hI
    obtain ⟨K, hK⟩ : ∃ K, s.ks[i]'hil = K := ⟨_, rfl⟩
    have hKm : K ∈ s.ks := by rw [← hK]; exact List.getElem_mem _
    have e1 : tickN s = (s.ac + i) % 256 := by unfold tickN; rw [hI]
    have e2 : tickX s = K.xs := by unfold tickX; rw [hI]; simp only []; rw [List.getElem?_eq_getElem hil, hK]; rfl
    have e3 : tickS s = ⟨s.W, s.τ, s.ks, s.ta, s.ac, i + 1, max s.hi (i + 1), 0⟩ := by unfold tickS; rw [hI]
    have hK64 : K.xs.length ≤ 64 := ok.xs K hKm
    have hnx := ok.nx; have hhi := ok.hi; have hW := ok.W; have hw2 := ok.w2
    rw [hI] at D
    rw [e1, e2]
    generalize dueS s = d at D k1 k2 k3 k4 k5 k6 k7
    obtain ⟨dW, dτ, dks, dta, dac, dnx, dhi, dsi⟩ := d
    dsimp only at k1 k2 k3 k4 k5 k6 k7
    subst k1 k2 k3 k4 k5 k6 k7
    rw [e3]
    clear e1 e2 e3 hI x ok
    generalize hS : (⟨s.W, s.τ, s.ks, s.ta, s.ac, dnx + 1, max s.hi (dnx + 1), 0⟩ : Rs) = S'
    have HS := box hS
    clear hS
    have HK := box hK
    have HKM := box hKm
    clear hK hKm
    go_enter Try.func16, Try.ntmps16
    go_wp2_with fail
    refine D.out.mono ?_
    rintro e w2 ⟨rfl, x2, st2⟩
    have hsz := st2.apart.size
    have X2 := box x2
    have S2 := box st2
    obtain ⟨p0, p1, p2, p3, p4, p5, p6, pz⟩ := x2.m
    dsimp only at p0 p1 p2 p3 p4 p5 p6
    clear x2 st2 D
    go_wp2_with fail
    go_region
    have kD : Below w2.heap.size w2 w2.drew := (Below.refl _ _).drew
    have X3 := box (X2.out.keep kD)
    have KD := box kD
    clear p0 p1 p2 p3 p4 p5 p6 pz kD
    generalize w2.drew = w3 at X3 KD ⊢
    have fin : ∀ (w4 : World) (a : Option Addr) (c : Nat), Below w3.heap.size w3 w4 → Own w3.heap.size w4 (.slice a K.xs.length c) K.xs.length K.xs → ∀ (wf : World) (hi' : Nat), wf.os = (w4.setCell ⟨g, 3, none⟩ (.int .i64 ((dnx : Int) + 1))).os → wf.tape = (w4.setCell ⟨g, 3, none⟩ (.int .i64 ((dnx : Int) + 1))).tape → wf.output = (w4.setCell ⟨g, 3, none⟩ (.int .i64 ((dnx : Int) + 1))).output → wf.heap = (((w4.setCell ⟨g, 3, none⟩ (.int .i64 ((dnx : Int) + 1))).setCell ⟨g, 4, none⟩ (.int .i64 hi')).setCell ⟨g, 5, none⟩ (.int .i64 0)).heap → hi' = max s.hi (dnx + 1) →
        Own w.heap.size wf (.slice a K.xs.length c) K.xs.length K.xs ∧ PsAt B E wf g v S' ∧ Steps g v v w wf := by
      intro w4 a c hb ho wf hi' e1 e2 e3 e4 e5
      have hs := HS.out
      subst hs
      have x4 := X3.out.keep hb
      have hoth : ∀ k, k ≠ g → wf.heap[k]? = w4.heap[k]? := fun k hk => by rw [e4, oth_set hk, oth_set hk, oth_set hk]
      have hA0 := (Apart.refl g v.ownBlock w4).setCell 3 (.int .i64 ((dnx : Int) + 1))
      have hA := ((hA0.setCell 4 (.int .i64 hi')).setCell 5 (.int .i64 0))
      have hA2 : Apart g v.ownBlock w4 wf := ⟨e1.trans hA0.os, e2.trans hA0.tape, e3.trans hA0.output, by rw [e4]; exact hA.size, fun k _ h1 _ => hoth k h1⟩
      have h3 := KD.out.size
      have hg3 := X3.out.m.lt
      refine ⟨row_same (World.ownsRow.mono ho (by omega)) (fun q hq => hoth q (fun e => ?_)), x4.mod hA2.size hoth rfl ?_, ?_⟩
      · have := (row_blk ho q hq).1
        omega
      · have h := ((x4.m.set3 (.int .i64 ((dnx : Int) + 1))).set4 (.int .i64 hi')).set5 (.int .i64 0)
        have h2 : R7 wf g _ _ _ _ _ _ _ := h.same (by rw [e4])
        have e6 : ((dnx + 1 : Nat) : Int) = (dnx : Int) + 1 := by omega
        rw [e6, ← e5]
        exact h2
      · exact ((S2.out.trans (Steps.ofBelow KD.out)).trans (Steps.ofBelow hb)).trans ⟨hA2, fun k hk => .inl hk⟩
    have FIN := box fin
    clear fin
    have XM := X3.out.m
    dsimp only at XM
    have XM4 := box (show ∀ w4, Below w3.heap.size w3 w4 → R7 w4 g (.int .i64 s.W) (.int .i64 s.τ) v (.int .i64 dnx) (.int .i64 s.hi) (.int .i64 dsi) (.int .i64 s.ac) from fun w4 hb => XM.keep hb)
    clear XM
    rcases X3.out.row with ⟨rfl, h0⟩ | ⟨r, i, cap, rfl, r1, r2, r3, r4, r5, r6⟩
    · have h0 : s.ks.map kpV = [] := h0
      have : s.ks = [] := by simpa using h0
      rw [this] at hil
      simp at hil
    · have c1 : w3.cell? ⟨r, i + dnx, none⟩ = some (.slice K.a K.xs.length K.c) := by
        rw [r5 dnx (kpV K) (by show (s.ks.map kpV)[dnx]? = _; rw [List.getElem?_map, List.getElem?_eq_getElem hil, HK.out]; rfl)]
      have SY : SymIn _ w3 K.a K.c K.xs := X3.out.syms K HKM.out
      have CL := box (clone_any K.a K.xs.length K.c K.xs rfl (by omega) SY.nil w3.drew (SY.inn.below ((Below.refl _ _).drew)))
      obtain ⟨p0, p1, p2, p3, p4, p5, p6, pz⟩ := X3.out.m
      dsimp only at p0 p1 p2 p3 p4 p5 p6
      rw [List.length_map] at p2 r3
      clear r5 r6 SY
      have i1 : (0 : Int) ≤ (dnx : Int) := by omega
      go_wp2_with fail
      go_region_with (go_at_call 31; refine CL.out.mono ?_; rintro e w4 ⟨v4, rfl, o4, b4⟩)
      all_goals
        obtain ⟨a4, c4, hv4, -, -, -, -⟩ := own_any o4
        subst hv4
        have b5 : Below w3.heap.size w3 w4 := ⟨b4.os, b4.tape, b4.output, b4.size, b4.block⟩
        have F := box (FIN.out w4 a4 c4 b5 o4)
        have M4 := box (XM4.out w4 b5)
        have M5 := box (M4.out.set3 (.int .i64 ((dnx : Int) + 1)))
        obtain ⟨p0, p1, p2, p3, p4, p5, p6, pz⟩ := M4.out
        clear o4 b4 b5 c1 CL X2 S2 X3 FIN XM4 M4
        go_wp2_with fail
        clear p0 p1 p2 p3 p4 p5 p6 pz
        generalize w4.setCell ⟨g, 3, none⟩ (.int .i64 ((dnx : Int) + 1)) = w5 at F M5 ⊢
        obtain ⟨p0, p1, p2, p3, p4, p5, p6, pz⟩ := M5.out
        simp only [List.length_map] at F p2 ⊢
        rcases Nat.lt_or_ge s.hi (dnx + 1) with hm | hm
        · go_region
          go_wp2_with fail
          go_ret3
          exact ⟨a4, c4, rfl, F.out _ (dnx + 1) rfl rfl rfl rfl (by omega)⟩
        · go_region
          go_wp2_with fail
          go_ret3
          exact ⟨a4, c4, rfl, F.out _ s.hi rfl rfl rfl rfl (by omega)⟩
end Go.Proofs.Ytfpicobjnpjhlaa
