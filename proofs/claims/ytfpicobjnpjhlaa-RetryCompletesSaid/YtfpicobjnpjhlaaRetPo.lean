/- The program's Offer. -/
import Derived.Test.YtfpicobjnpjhlaaRetO
namespace Go.Proofs.Ytfpicobjnpjhlaa
open Go.RowKit

set_option maxRecDepth 100000 in
set_option maxHeartbeats 4000000 in
theorem offer_any (a : Option Addr) (l c : Nat) (xs : List Nat) (hl : xs.length = l) (hnil : a = none → c = 0) (B : Nat) (E : Nat → Prop) (g : Nat) (v : Value) (s : Rs) (w : World) (hE : ∀ k, E k → k < w.heap.size) (x : PsAt B E w g v s) (hL : s.ks.length < 1000) (hin : In w a xs) :
    Calls Try.prog 14 #[.pointer (some ⟨g, 0, none⟩), .slice a l c] w fun e w' => ∃ v' a' c', e = .returned (.int .i64 (offC s xs)) ∧ PsAt B E w' g v' (offS s ⟨a', xs, c'⟩) ∧ Steps g v v' w w' := by
  have X := box x
  have HIN := box hin
  have KD := box (show ∀ (w : World) q, Below w.heap.size w (w.drewN q) from fun w q => drewN_below w q)
  obtain ⟨a0, c0, rfl⟩ := x.len
  clear x hin
  by_cases h1 : 64 < l
  · have e1 : offC s xs = 2 := by unfold offC; rw [if_pos (by omega)]
    have e2 : offS s ⟨none, xs, 0⟩ = s := by unfold offS; rw [if_neg (by show ¬ offC s xs = 0; omega)]
    have FIN := box (show PsAt B E w g (.slice a0 s.ks.length c0) (offS s ⟨none, xs, 0⟩) ∧ Steps g (.slice a0 s.ks.length c0) (.slice a0 s.ks.length c0) w w from ⟨by rw [e2]; exact X.out, Steps.refl _ _ _⟩)
    rw [e1]
    clear e1 e2
    go_enter Try.func14, Try.ntmps14
    go_wp2_with fail
    go_ret
    first | exact ⟨_, none, 0, rfl, FIN.out⟩ | exact ⟨rfl, _, none, 0, FIN.out⟩
  by_cases h2 : s.W ≤ s.ks.length
  · have e1 : offC s xs = 5 := by unfold offC; rw [if_neg (by omega), if_pos h2]
    have e2 : offS s ⟨none, xs, 0⟩ = s := by unfold offS; rw [if_neg (by show ¬ offC s xs = 0; omega)]
    have FIN := box (show ∀ q, PsAt B E (w.drewN q) g (.slice a0 s.ks.length c0) (offS s ⟨none, xs, 0⟩) ∧ Steps g (.slice a0 s.ks.length c0) (.slice a0 s.ks.length c0) w (w.drewN q) from fun q => ⟨by rw [e2]; exact X.out.keep (KD.out _ _), Steps.ofBelow (KD.out _ _)⟩)
    rw [e1]
    obtain ⟨p0, p1, p2, p3, p4, p5, p6, pz⟩ := X.out.m
    clear e1 e2
    go_enter Try.func14, Try.ntmps14
    go_wp2_with fail
    go_quiet (fail)
    go_wp2_with fail
    go_ret
    first | exact ⟨_, none, 0, rfl, FIN.out _⟩ | exact ⟨rfl, _, none, 0, FIN.out _⟩
  obtain ⟨i0, hi0, hz0, hz1, hz2⟩ := info_parts Try.infoSl
  have e1 : offC s xs = 0 := by unfold offC; rw [if_neg (by omega), if_neg h2]
  have e2 : ∀ a' c', offS s ⟨a', xs, c'⟩ = ⟨s.W, s.τ, s.ks ++ [⟨a', xs, c'⟩], s.ta + 1, s.ac, s.nx, s.hi, s.si⟩ := fun a' c' => by unfold offS; rw [if_pos (by exact e1)]
  rw [e1]
  simp only [e2]
  have kD : Below w.heap.size w w.drew := (Below.refl _ _).drew
  have X1 := box (X.out.keep kD)
  have HIN1 := box (HIN.out.below kD)
  have HE1 := box (show ∀ k, E k → k < w.drew.heap.size from hE)
  have K1 := box kD
  obtain ⟨p0, p1, p2, p3, p4, p5, p6, pz⟩ := X.out.m
  clear e1 e2 kD hE
  generalize hS : (fun a' c' => (⟨s.W, s.τ, s.ks ++ [⟨a', xs, c'⟩], s.ta + 1, s.ac, s.nx, s.hi, s.si⟩ : Rs)) = S'
  have HS := box (show ∀ a' c', (⟨s.W, s.τ, s.ks ++ [⟨a', xs, c'⟩], s.ta + 1, s.ac, s.nx, s.hi, s.si⟩ : Rs) = S' a' c' from fun a' c' => by rw [← hS])
  simp only [HS.out]
  clear hS
  go_enter Try.func14, Try.ntmps14
  go_wp2_with fail
  go_region
  clear p0 p1 p2 p3 p4 p5 p6 pz X HIN KD
  generalize w.drew = w1 at X1 HIN1 HE1 K1 ⊢
  have HB := box (show B ≤ w1.heap.size from Nat.le_trans X1.out.bg (Nat.le_of_lt X1.out.m.lt))
  have CL := box (clone_any a l c xs hl (by omega) hnil w1.drew (HIN1.out.below ((Below.refl _ _).drew)))
  obtain ⟨L, hLL⟩ : ∃ L, s.ks.length = L := ⟨_, rfl⟩
  rw [hLL] at X1 hL h2 ⊢
  have HLL := box hLL
  clear hLL
  have FIN := box (show ∀ (w4 : World) (a4 : Option Addr) (c4 : Nat), Below w1.heap.size w1 w4 → Own w1.heap.size w4 (.slice a4 l c4) l xs →
      w4.cell? ⟨g, 2, none⟩ = some (.slice a0 L c0) ∧ QRow B (w4.alloc (.cells #[.slice a4 l c4] 32)) (.slice a0 L c0) (s.ks.map kpV) ∧ (w4.alloc (.cells #[.slice a4 l c4] 32)).cell? ⟨w4.heap.size, 0, none⟩ = some (.slice a4 l c4) ∧ B ≤ (w4.alloc (.cells #[.slice a4 l c4] 32)).heap.size ∧
      ∀ va vc w6, QRow B w6 (.slice va ((s.ks.map kpV).length + 1) vc) (s.ks.map kpV ++ [.slice a4 l c4]) → (w4.alloc (.cells #[.slice a4 l c4] 32)).grownBy w6 (Value.slice a0 L c0).ownBlock → ((Value.slice va ((s.ks.map kpV).length + 1) vc).ownBlock = (Value.slice a0 L c0).ownBlock ∨ (Value.slice va ((s.ks.map kpV).length + 1) vc).ownBlock = some (w4.alloc (.cells #[.slice a4 l c4] 32)).heap.size) →
        w6.cell? ⟨g, 2, none⟩ = some (.slice a0 L c0) ∧ (∀ j, w6.frozen? ⟨g, j, none⟩ = false) ∧ PsAt B E (w6.setCell ⟨g, 2, none⟩ (.slice va ((s.ks.map kpV).length + 1) vc)) g (.slice va ((s.ks.map kpV).length + 1) vc) (S' a4 c4) ∧ Steps g (.slice a0 L c0) (.slice va ((s.ks.map kpV).length + 1) vc) w (w6.setCell ⟨g, 2, none⟩ (.slice va ((s.ks.map kpV).length + 1) vc)) from by
    intro w4 a4 c4 hb ho
    have kA : Below w1.heap.size w1 (w4.alloc (.cells #[.slice a4 l c4] 32)) := hb.alloc hb.size _
    have kA4 : Below w4.heap.size w4 (w4.alloc (.cells #[.slice a4 l c4] 32)) := (Below.refl _ _).alloc (Nat.le_refl _) _
    have x5 := X1.out.keep kA
    have ho5 : Own w1.heap.size (w4.alloc (.cells #[.slice a4 l c4] 32)) (.slice a4 xs.length c4) xs.length xs := by rw [hl]; exact row_below ho kA4
    refine ⟨(X1.out.keep hb).m.q2, x5.row, (World.cell?_alloc_mark w4 #[.slice a4 l c4] 32 (0, 0)) 0, Nat.le_trans HB.out kA.size, fun va vc w6 hq hg hv => ?_⟩
    have hgl := x5.m.lt
    have ebl := hg.block g hgl (fun e => x5.far e.symm)
    refine ⟨?_, fun j => ?_, ?_⟩
    · rw [World.cell?_of_block (a := ⟨g, 2, none⟩) ebl]; exact x5.m.q2
    · rw [World.frozen?_of_block (a := ⟨g, j, none⟩) ebl]; exact x5.m.z j
    · obtain ⟨h1, h2⟩ := X1.out.added (a := a4) (c := c4) (xs := xs) HE1.out kA ho5 (by rw [hl]; exact hq) hg hv
      rw [HS.out] at h1
      exact ⟨h1, (Steps.ofBelow K1.out).trans h2⟩)
  obtain ⟨p0, p1, p2, p3, p4, p5, p6, pz⟩ := X1.out.m
  clear p0 p1 p3 p4 p5 p6 hnil
  go_wp2_with fail
  refine wp_region_held_drew (S := (fun _ => True)) (by kernel_rfl) (trivial) (fun hHeld => ?_)
  refine wpAnyH_take (i := 0) (oi := { dst := some 23, op := Go.Op.move (Go.Operand.tmp 0), type := 25, pos := "retry.go:52", after := #[], guard := none }) (v := ?_) rfl (by kernel_rfl) (by kernel_rfl) (by kernel_rfl) (fun _ _ _ h => h) (Or.inl ⟨by rfl, ?_⟩) (by assumption) ?_
  rotate_left
  · (intro w hSw; (try dsimp only at hSw); go_simp; (try with_reducible rfl))
  simp only [Act.put, List.setIfInBounds_toArray, List.set_cons_zero, List.set_cons_succ]
  refine wpAnyH_take (i := 1) (oi := { dst := some 24, op := Go.Op.move (Go.Operand.tmp 0), type := 25, pos := "retry.go:52", after := #[], guard := none }) (v := ?_) rfl (by kernel_rfl) (by kernel_rfl) (by kernel_rfl) (fun _ _ _ h => h) (Or.inl ⟨by rfl, ?_⟩) (by assumption) ?_
  rotate_left
  · (intro w hSw; (try dsimp only at hSw); go_simp; (try with_reducible rfl))
  simp only [Act.put, List.setIfInBounds_toArray, List.set_cons_zero, List.set_cons_succ]
  refine wpAnyH_take (i := 2) (oi := { dst := some 25, op := Go.Op.nilCheck (Go.Operand.tmp 24), type := 0, pos := "retry.go:52", after := #[{ on := 1, ground := Go.Ground.data }], guard := none }) (v := ?_) rfl (by kernel_rfl) (by kernel_rfl) (by kernel_rfl) (fun _ _ _ h => h) (Or.inl ⟨by rfl, ?_⟩) (by assumption) ?_
  rotate_left
  · (intro w hSw; (try dsimp only at hSw); go_simp; (try with_reducible rfl))
  simp only [Act.put, List.setIfInBounds_toArray, List.set_cons_zero, List.set_cons_succ]
  refine wpAnyH_take (i := 3) (oi := { dst := some 26, op := Go.Op.fieldAddr 65 (Go.Operand.tmp 25) 2, type := 0, pos := "retry.go:52", after := #[{ on := 2, ground := Go.Ground.data }], guard := none }) (v := ?_) rfl (by kernel_rfl) (by kernel_rfl) (by kernel_rfl) (fun _ _ _ h => h) (Or.inl ⟨by rfl, ?_⟩) (by assumption) ?_
  rotate_left
  · (intro w hSw; (try dsimp only at hSw); go_simp; (try with_reducible rfl))
  simp only [Act.put, List.setIfInBounds_toArray, List.set_cons_zero, List.set_cons_succ]
  refine wpAnyH_take (i := 5) (oi := { dst := some 28, op := Go.Op.move (Go.Operand.tmp 1), type := 32, pos := "retry.go:52", after := #[], guard := none }) (v := ?_) rfl (by kernel_rfl) (by kernel_rfl) (by kernel_rfl) (fun _ _ _ h => h) (Or.inl ⟨by rfl, ?_⟩) (by assumption) ?_
  rotate_left
  · (intro w hSw; (try dsimp only at hSw); go_simp; (try with_reducible rfl))
  simp only [Act.put, List.setIfInBounds_toArray, List.set_cons_zero, List.set_cons_succ]
  refine wpAnyH_ready (rs := [4, 6]) (by kernel_rfl) (by simp) ?_
  refine (AllReadyH.cons (o := { dst := some 27, op := Go.Op.load 29 (Go.Operand.tmp 26), type := 29, pos := "retry.go:52", after := #[{ on := 3, ground := Go.Ground.data }], guard := none }) rfl (fun K hK => ?_) (AllReadyH.cons (o := { dst := some 29, op := Go.Op.call { callee := Go.Callee.value (Go.Operand.func 31), args := #[Go.Operand.tmp 28], argTypes := #[32] }, type := 32, pos := "retry.go:52", after := #[{ on := 5, ground := Go.Ground.data }], guard := none }) rfl (fun K hK => ?_) AllReadyH.nil))
  · go_simp
    refine hK.out _ _ (trivial) (fun hHeldx => ?_)
    clear hK K
    refine wpAnyH_ready (rs := [6]) (by kernel_rfl) (by simp) ?_
    refine (AllReadyH.cons (o := { dst := some 29, op := Go.Op.call { callee := Go.Callee.value (Go.Operand.func 31), args := #[Go.Operand.tmp 28], argTypes := #[32] }, type := 32, pos := "retry.go:52", after := #[{ on := 5, ground := Go.Ground.data }], guard := none }) rfl (fun K hK => ?_) AllReadyH.nil)
    go_simp
    refine CL.out.mono ?_
    rintro e w4 ⟨v4, rfl, o4, b4⟩
    obtain ⟨a4, c4, rfl, -, -, -, -⟩ := own_any o4
    have b5 : Below w1.heap.size w1 w4 := ⟨b4.os, b4.tape, b4.output, b4.size, b4.block⟩
    have F4 := box (FIN.out w4 a4 c4 b5 o4)
    obtain ⟨q2, -, -, -, -⟩ := F4.out
    have q2a : (w4.alloc (.cells #[.slice a4 l c4] 32)).cell? ⟨g, 2, none⟩ = some (.slice a0 L c0) := keepa _ q2
    clear b4 o4 b5
    refine hK.out _ _ (trivial) (fun hHeldx => ?_)
    clear hK K
    refine wpAnyH_ready (rs := [7]) (by kernel_rfl) (by simp) ?_
    refine (AllReadyH.cons (o := { dst := some 30, op := Go.Op.buildSlice 29 1 #[(0, Go.Operand.tmp 29)], type := 29, pos := "retry.go:52", after := #[{ on := 6, ground := Go.Ground.data }], guard := none }) rfl (fun K hK => ?_) AllReadyH.nil)
    go_simp
    refine hK.out _ _ (trivial) (fun hHeldx => ?_)
    clear hK K
    refine wpAnyH_ready (rs := [8]) (by kernel_rfl) (by simp) ?_
    refine (AllReadyH.cons (o := { dst := some 31, op := Go.Op.call { callee := Go.Callee.builtin Go.Builtin.append, args := #[Go.Operand.tmp 27, Go.Operand.tmp 30], argTypes := #[29, 29] }, type := 29, pos := "retry.go:52", after := #[{ on := 4, ground := Go.Ground.data }, { on := 7, ground := Go.Ground.data }, { on := 6, ground := Go.Ground.chain }], guard := none }) rfl (fun K hK => ?_) AllReadyH.nil)
    refine step_append_q (o := { dst := some 31, op := Go.Op.call { callee := Go.Callee.builtin Go.Builtin.append, args := #[Go.Operand.tmp 27, Go.Operand.tmp 30], argTypes := #[29, 29] }, type := 29, pos := "retry.go:52", after := #[{ on := 4, ground := Go.Ground.data }, { on := 7, ground := Go.Ground.data }, { on := 6, ground := Go.Ground.chain }], guard := none }) rfl (.tmp 27) (.tmp 30) 29 rfl B 32 i0 (.slice none 0 0) 24 Try.underlying29 hi0 hz0 hz1 hz2 rfl (.slice a0 L c0) (s.ks.map kpV) rfl F4.out.2.1 w4.heap.size 0 1 (.slice a4 l c4) rfl F4.out.2.2.1 rfl (by rw [List.length_map, HLL.out]; omega) (by decide) F4.out.2.2.2.1 ?_
    intro va vc w6 hq6 hg6 hv6
    obtain ⟨q6, f6, F6⟩ := F4.out.2.2.2.2 va vc w6 hq6.out hg6.out hv6.out
    have FF := box F6
    clear hq6 hg6 hv6 F6
    refine hK.out _ _ (trivial) (fun hHeldx => ?_)
    clear hK K
    refine wpAnyH_take (i := 9) (oi := { dst := some 32, op := Go.Op.nilCheck (Go.Operand.tmp 23), type := 0, pos := "retry.go:52", after := #[{ on := 0, ground := Go.Ground.data }, { on := 0, ground := Go.Ground.phase }, { on := 1, ground := Go.Ground.phase }, { on := 2, ground := Go.Ground.phase }, { on := 3, ground := Go.Ground.phase }, { on := 4, ground := Go.Ground.phase }, { on := 5, ground := Go.Ground.phase }, { on := 6, ground := Go.Ground.phase }, { on := 7, ground := Go.Ground.phase }, { on := 8, ground := Go.Ground.phase }], guard := none }) (v := ?_) rfl (by kernel_rfl) (by kernel_rfl) (by kernel_rfl) (fun _ _ _ h => h) (Or.inl ⟨by rfl, ?_⟩) (by assumption) ?_
    rotate_left
    · (intro w hSw; (try dsimp only at hSw); go_simp; (try with_reducible rfl))
    simp only [Act.put, List.setIfInBounds_toArray, List.set_cons_zero, List.set_cons_succ]
    refine wpAnyH_take (i := 10) (oi := { dst := some 33, op := Go.Op.fieldAddr 65 (Go.Operand.tmp 32) 2, type := 0, pos := "retry.go:52", after := #[{ on := 9, ground := Go.Ground.data }, { on := 0, ground := Go.Ground.phase }, { on := 1, ground := Go.Ground.phase }, { on := 2, ground := Go.Ground.phase }, { on := 3, ground := Go.Ground.phase }, { on := 4, ground := Go.Ground.phase }, { on := 5, ground := Go.Ground.phase }, { on := 6, ground := Go.Ground.phase }, { on := 7, ground := Go.Ground.phase }, { on := 8, ground := Go.Ground.phase }], guard := none }) (v := ?_) rfl (by kernel_rfl) (by kernel_rfl) (by kernel_rfl) (fun _ _ _ h => h) (Or.inl ⟨by rfl, ?_⟩) (by assumption) ?_
    rotate_left
    · (intro w hSw; (try dsimp only at hSw); go_simp; (try with_reducible rfl))
    simp only [Act.put, List.setIfInBounds_toArray, List.set_cons_zero, List.set_cons_succ]
    refine wpAnyH_ready (rs := [11]) (by kernel_rfl) (by simp) ?_
    refine (AllReadyH.cons (o := { dst := none, op := Go.Op.store 29 (Go.Operand.tmp 33) (Go.Operand.tmp 31), type := 0, pos := "retry.go:52", after := #[{ on := 10, ground := Go.Ground.data }, { on := 8, ground := Go.Ground.data }, { on := 8, ground := Go.Ground.chain }, { on := 0, ground := Go.Ground.phase }, { on := 1, ground := Go.Ground.phase }, { on := 2, ground := Go.Ground.phase }, { on := 3, ground := Go.Ground.phase }, { on := 4, ground := Go.Ground.phase }, { on := 5, ground := Go.Ground.phase }, { on := 6, ground := Go.Ground.phase }, { on := 7, ground := Go.Ground.phase }, { on := 8, ground := Go.Ground.phase }], guard := none }) rfl (fun K hK => ?_) AllReadyH.nil)
    go_simp
    refine hK.out _ _ (trivial) (fun hHeldx => ?_)
    clear hK K
    refine wpAnyH_done (by kernel_rfl) ?_ _
    go_wp2_with fail
    go_ret
    rw [HLL.out]
    have ff := FF.out
    simp only [List.length_map, HLL.out] at ff
    exact ⟨_, a4, c4, rfl, ff⟩
  · go_simp
    refine CL.out.mono ?_
    rintro e w4 ⟨v4, rfl, o4, b4⟩
    obtain ⟨a4, c4, rfl, -, -, -, -⟩ := own_any o4
    have b5 : Below w1.heap.size w1 w4 := ⟨b4.os, b4.tape, b4.output, b4.size, b4.block⟩
    have F4 := box (FIN.out w4 a4 c4 b5 o4)
    obtain ⟨q2, -, -, -, -⟩ := F4.out
    have q2a : (w4.alloc (.cells #[.slice a4 l c4] 32)).cell? ⟨g, 2, none⟩ = some (.slice a0 L c0) := keepa _ q2
    clear b4 o4 b5
    refine hK.out _ _ (trivial) (fun hHeldx => ?_)
    clear hK K
    refine wpAnyH_ready (rs := [4, 7]) (by kernel_rfl) (by simp) ?_
    refine (AllReadyH.cons (o := { dst := some 27, op := Go.Op.load 29 (Go.Operand.tmp 26), type := 29, pos := "retry.go:52", after := #[{ on := 3, ground := Go.Ground.data }], guard := none }) rfl (fun K hK => ?_) (AllReadyH.cons (o := { dst := some 30, op := Go.Op.buildSlice 29 1 #[(0, Go.Operand.tmp 29)], type := 29, pos := "retry.go:52", after := #[{ on := 6, ground := Go.Ground.data }], guard := none }) rfl (fun K hK => ?_) AllReadyH.nil))
    · go_simp
      refine hK.out _ _ (trivial) (fun hHeldx => ?_)
      clear hK K
      refine wpAnyH_ready (rs := [7]) (by kernel_rfl) (by simp) ?_
      refine (AllReadyH.cons (o := { dst := some 30, op := Go.Op.buildSlice 29 1 #[(0, Go.Operand.tmp 29)], type := 29, pos := "retry.go:52", after := #[{ on := 6, ground := Go.Ground.data }], guard := none }) rfl (fun K hK => ?_) AllReadyH.nil)
      go_simp
      refine hK.out _ _ (trivial) (fun hHeldx => ?_)
      clear hK K
      refine wpAnyH_ready (rs := [8]) (by kernel_rfl) (by simp) ?_
      refine (AllReadyH.cons (o := { dst := some 31, op := Go.Op.call { callee := Go.Callee.builtin Go.Builtin.append, args := #[Go.Operand.tmp 27, Go.Operand.tmp 30], argTypes := #[29, 29] }, type := 29, pos := "retry.go:52", after := #[{ on := 4, ground := Go.Ground.data }, { on := 7, ground := Go.Ground.data }, { on := 6, ground := Go.Ground.chain }], guard := none }) rfl (fun K hK => ?_) AllReadyH.nil)
      refine step_append_q (o := { dst := some 31, op := Go.Op.call { callee := Go.Callee.builtin Go.Builtin.append, args := #[Go.Operand.tmp 27, Go.Operand.tmp 30], argTypes := #[29, 29] }, type := 29, pos := "retry.go:52", after := #[{ on := 4, ground := Go.Ground.data }, { on := 7, ground := Go.Ground.data }, { on := 6, ground := Go.Ground.chain }], guard := none }) rfl (.tmp 27) (.tmp 30) 29 rfl B 32 i0 (.slice none 0 0) 24 Try.underlying29 hi0 hz0 hz1 hz2 rfl (.slice a0 L c0) (s.ks.map kpV) rfl F4.out.2.1 w4.heap.size 0 1 (.slice a4 l c4) rfl F4.out.2.2.1 rfl (by rw [List.length_map, HLL.out]; omega) (by decide) F4.out.2.2.2.1 ?_
      intro va vc w6 hq6 hg6 hv6
      obtain ⟨q6, f6, F6⟩ := F4.out.2.2.2.2 va vc w6 hq6.out hg6.out hv6.out
      have FF := box F6
      clear hq6 hg6 hv6 F6
      refine hK.out _ _ (trivial) (fun hHeldx => ?_)
      clear hK K
      refine wpAnyH_take (i := 9) (oi := { dst := some 32, op := Go.Op.nilCheck (Go.Operand.tmp 23), type := 0, pos := "retry.go:52", after := #[{ on := 0, ground := Go.Ground.data }, { on := 0, ground := Go.Ground.phase }, { on := 1, ground := Go.Ground.phase }, { on := 2, ground := Go.Ground.phase }, { on := 3, ground := Go.Ground.phase }, { on := 4, ground := Go.Ground.phase }, { on := 5, ground := Go.Ground.phase }, { on := 6, ground := Go.Ground.phase }, { on := 7, ground := Go.Ground.phase }, { on := 8, ground := Go.Ground.phase }], guard := none }) (v := ?_) rfl (by kernel_rfl) (by kernel_rfl) (by kernel_rfl) (fun _ _ _ h => h) (Or.inl ⟨by rfl, ?_⟩) (by assumption) ?_
      rotate_left
      · (intro w hSw; (try dsimp only at hSw); go_simp; (try with_reducible rfl))
      simp only [Act.put, List.setIfInBounds_toArray, List.set_cons_zero, List.set_cons_succ]
      refine wpAnyH_take (i := 10) (oi := { dst := some 33, op := Go.Op.fieldAddr 65 (Go.Operand.tmp 32) 2, type := 0, pos := "retry.go:52", after := #[{ on := 9, ground := Go.Ground.data }, { on := 0, ground := Go.Ground.phase }, { on := 1, ground := Go.Ground.phase }, { on := 2, ground := Go.Ground.phase }, { on := 3, ground := Go.Ground.phase }, { on := 4, ground := Go.Ground.phase }, { on := 5, ground := Go.Ground.phase }, { on := 6, ground := Go.Ground.phase }, { on := 7, ground := Go.Ground.phase }, { on := 8, ground := Go.Ground.phase }], guard := none }) (v := ?_) rfl (by kernel_rfl) (by kernel_rfl) (by kernel_rfl) (fun _ _ _ h => h) (Or.inl ⟨by rfl, ?_⟩) (by assumption) ?_
      rotate_left
      · (intro w hSw; (try dsimp only at hSw); go_simp; (try with_reducible rfl))
      simp only [Act.put, List.setIfInBounds_toArray, List.set_cons_zero, List.set_cons_succ]
      refine wpAnyH_ready (rs := [11]) (by kernel_rfl) (by simp) ?_
      refine (AllReadyH.cons (o := { dst := none, op := Go.Op.store 29 (Go.Operand.tmp 33) (Go.Operand.tmp 31), type := 0, pos := "retry.go:52", after := #[{ on := 10, ground := Go.Ground.data }, { on := 8, ground := Go.Ground.data }, { on := 8, ground := Go.Ground.chain }, { on := 0, ground := Go.Ground.phase }, { on := 1, ground := Go.Ground.phase }, { on := 2, ground := Go.Ground.phase }, { on := 3, ground := Go.Ground.phase }, { on := 4, ground := Go.Ground.phase }, { on := 5, ground := Go.Ground.phase }, { on := 6, ground := Go.Ground.phase }, { on := 7, ground := Go.Ground.phase }, { on := 8, ground := Go.Ground.phase }], guard := none }) rfl (fun K hK => ?_) AllReadyH.nil)
      go_simp
      refine hK.out _ _ (trivial) (fun hHeldx => ?_)
      clear hK K
      refine wpAnyH_done (by kernel_rfl) ?_ _
      go_wp2_with fail
      go_ret
      rw [HLL.out]
      have ff := FF.out
      simp only [List.length_map, HLL.out] at ff
      exact ⟨_, a4, c4, rfl, ff⟩
    · go_simp
      refine hK.out _ _ (trivial) (fun hHeldx => ?_)
      clear hK K
      refine wpAnyH_ready (rs := [4]) (by kernel_rfl) (by simp) ?_
      refine (AllReadyH.cons (o := { dst := some 27, op := Go.Op.load 29 (Go.Operand.tmp 26), type := 29, pos := "retry.go:52", after := #[{ on := 3, ground := Go.Ground.data }], guard := none }) rfl (fun K hK => ?_) AllReadyH.nil)
      go_simp
      refine hK.out _ _ (trivial) (fun hHeldx => ?_)
      clear hK K
      refine wpAnyH_ready (rs := [8]) (by kernel_rfl) (by simp) ?_
      refine (AllReadyH.cons (o := { dst := some 31, op := Go.Op.call { callee := Go.Callee.builtin Go.Builtin.append, args := #[Go.Operand.tmp 27, Go.Operand.tmp 30], argTypes := #[29, 29] }, type := 29, pos := "retry.go:52", after := #[{ on := 4, ground := Go.Ground.data }, { on := 7, ground := Go.Ground.data }, { on := 6, ground := Go.Ground.chain }], guard := none }) rfl (fun K hK => ?_) AllReadyH.nil)
      refine step_append_q (o := { dst := some 31, op := Go.Op.call { callee := Go.Callee.builtin Go.Builtin.append, args := #[Go.Operand.tmp 27, Go.Operand.tmp 30], argTypes := #[29, 29] }, type := 29, pos := "retry.go:52", after := #[{ on := 4, ground := Go.Ground.data }, { on := 7, ground := Go.Ground.data }, { on := 6, ground := Go.Ground.chain }], guard := none }) rfl (.tmp 27) (.tmp 30) 29 rfl B 32 i0 (.slice none 0 0) 24 Try.underlying29 hi0 hz0 hz1 hz2 rfl (.slice a0 L c0) (s.ks.map kpV) rfl F4.out.2.1 w4.heap.size 0 1 (.slice a4 l c4) rfl F4.out.2.2.1 rfl (by rw [List.length_map, HLL.out]; omega) (by decide) F4.out.2.2.2.1 ?_
      intro va vc w6 hq6 hg6 hv6
      obtain ⟨q6, f6, F6⟩ := F4.out.2.2.2.2 va vc w6 hq6.out hg6.out hv6.out
      have FF := box F6
      clear hq6 hg6 hv6 F6
      refine hK.out _ _ (trivial) (fun hHeldx => ?_)
      clear hK K
      refine wpAnyH_take (i := 9) (oi := { dst := some 32, op := Go.Op.nilCheck (Go.Operand.tmp 23), type := 0, pos := "retry.go:52", after := #[{ on := 0, ground := Go.Ground.data }, { on := 0, ground := Go.Ground.phase }, { on := 1, ground := Go.Ground.phase }, { on := 2, ground := Go.Ground.phase }, { on := 3, ground := Go.Ground.phase }, { on := 4, ground := Go.Ground.phase }, { on := 5, ground := Go.Ground.phase }, { on := 6, ground := Go.Ground.phase }, { on := 7, ground := Go.Ground.phase }, { on := 8, ground := Go.Ground.phase }], guard := none }) (v := ?_) rfl (by kernel_rfl) (by kernel_rfl) (by kernel_rfl) (fun _ _ _ h => h) (Or.inl ⟨by rfl, ?_⟩) (by assumption) ?_
      rotate_left
      · (intro w hSw; (try dsimp only at hSw); go_simp; (try with_reducible rfl))
      simp only [Act.put, List.setIfInBounds_toArray, List.set_cons_zero, List.set_cons_succ]
      refine wpAnyH_take (i := 10) (oi := { dst := some 33, op := Go.Op.fieldAddr 65 (Go.Operand.tmp 32) 2, type := 0, pos := "retry.go:52", after := #[{ on := 9, ground := Go.Ground.data }, { on := 0, ground := Go.Ground.phase }, { on := 1, ground := Go.Ground.phase }, { on := 2, ground := Go.Ground.phase }, { on := 3, ground := Go.Ground.phase }, { on := 4, ground := Go.Ground.phase }, { on := 5, ground := Go.Ground.phase }, { on := 6, ground := Go.Ground.phase }, { on := 7, ground := Go.Ground.phase }, { on := 8, ground := Go.Ground.phase }], guard := none }) (v := ?_) rfl (by kernel_rfl) (by kernel_rfl) (by kernel_rfl) (fun _ _ _ h => h) (Or.inl ⟨by rfl, ?_⟩) (by assumption) ?_
      rotate_left
      · (intro w hSw; (try dsimp only at hSw); go_simp; (try with_reducible rfl))
      simp only [Act.put, List.setIfInBounds_toArray, List.set_cons_zero, List.set_cons_succ]
      refine wpAnyH_ready (rs := [11]) (by kernel_rfl) (by simp) ?_
      refine (AllReadyH.cons (o := { dst := none, op := Go.Op.store 29 (Go.Operand.tmp 33) (Go.Operand.tmp 31), type := 0, pos := "retry.go:52", after := #[{ on := 10, ground := Go.Ground.data }, { on := 8, ground := Go.Ground.data }, { on := 8, ground := Go.Ground.chain }, { on := 0, ground := Go.Ground.phase }, { on := 1, ground := Go.Ground.phase }, { on := 2, ground := Go.Ground.phase }, { on := 3, ground := Go.Ground.phase }, { on := 4, ground := Go.Ground.phase }, { on := 5, ground := Go.Ground.phase }, { on := 6, ground := Go.Ground.phase }, { on := 7, ground := Go.Ground.phase }, { on := 8, ground := Go.Ground.phase }], guard := none }) rfl (fun K hK => ?_) AllReadyH.nil)
      go_simp
      refine hK.out _ _ (trivial) (fun hHeldx => ?_)
      clear hK K
      refine wpAnyH_done (by kernel_rfl) ?_ _
      go_wp2_with fail
      go_ret
      rw [HLL.out]
      have ff := FF.out
      simp only [List.length_map, HLL.out] at ff
      exact ⟨_, a4, c4, rfl, ff⟩
end Go.Proofs.Ytfpicobjnpjhlaa
