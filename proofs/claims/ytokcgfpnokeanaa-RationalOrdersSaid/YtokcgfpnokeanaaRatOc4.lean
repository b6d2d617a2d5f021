/- RationalOrders, where the first two numbers are valid: RatOc4. -/
import Derived.Test.YtokcgfpnokeanaaRatO1
namespace Go.Proofs.Ytokcgfpnokeanaa
open Go.RowKit Go.Shelf

set_option maxRecDepth 100000 in
set_option maxHeartbeats 4000000 in
theorem orders_great_3 (n1 d1 n2 d2 n3 d3 ab ba bc ac x1 x2 x3 y1 y2 y3 : Int) (hAB : CmpTo n1 d1 n2 d2 ab) (hBA : CmpTo n2 d2 n1 d1 ba) (hBC : CmpTo n2 d2 n3 d3 bc) (hAC : CmpTo n1 d1 n3 d3 ac) (hn : -ba = ab) (hw : IntKind.i64.wrap ab = ab) (hn2 : decide (ab < -1) = false) (hn3 : decide (1 < ab) = false) (hV1 : ValidTo n1 d1 true) (hV2 : ValidTo n2 d2 true) (hS : smallB [n1, d1, n2, d2] = false) (hVc : ValidTo n3 d3 true) (hc0 : decide (ab ≤ 0) = true) (hc1 : decide (bc ≤ 0) = true) (hc2 : decide (0 < ac) = false) (hc3 : decide (ab < 0) = false) (hX : AddTo n1 d1 n3 d3 x1 x2 x3) (hY : AddTo n2 d2 n3 d3 y1 y2 y3) (hrest : (x3 != 0) = true ∨ ((x3 != 0) = false ∧ (y3 != 0) = true) ∨ ((x3 != 0) = false ∧ (y3 != 0) = false ∧ CmpTo x1 x2 y1 y2 ab)) (w : World) :
    Calls Try.prog 7 #[.agg #[.int .i64 n1, .int .i64 d1], .agg #[.int .i64 n2, .int .i64 d2], .agg #[.int .i64 n3, .int .i64 d3]] w fun e w' => e = .returned (.bool true) ∧ Below w.heap.size w w' := by
  have hka := @World.cell?_alloc_some
  have hds : ∀ x : World, x.drew.heap.size = x.heap.size := fun _ => rfl
  go_enter Try.func7, Try.ntmps7
  go_wp2_with fail
  refine (awake_any _).mono ?_
  rintro e w1 ⟨rfl, hb1⟩
  have k0 : w1.cell? ⟨w.heap.size, 0, none⟩ = some (.int .i64 n1) := keepc hb1 (by simp [go_sem])
  have k1 : w1.cell? ⟨w.heap.size, 1, none⟩ = some (.int .i64 d1) := keepc hb1 (by simp [go_sem])
  have k2 : w1.cell? ⟨w.heap.size + 1, 0, none⟩ = some (.int .i64 n2) := keepc hb1 (by simp [go_sem])
  have k3 : w1.cell? ⟨w.heap.size + 1, 1, none⟩ = some (.int .i64 d2) := keepc hb1 (by simp [go_sem])
  have k4 : w1.cell? ⟨w.heap.size + 1 + 1, 0, none⟩ = some (.int .i64 n3) := keepc hb1 (by simp [go_sem])
  have k5 : w1.cell? ⟨w.heap.size + 1 + 1, 1, none⟩ = some (.int .i64 d3) := keepc hb1 (by simp [go_sem])
  have kb : Below w.heap.size w w1 := ((((Below.refl w.heap.size w).alloc (by (try simp) <;> omega) _).alloc (by (try simp) <;> omega) _).alloc (by (try simp) <;> omega) _).trans (hb1.mono (by (try simp) <;> omega))
  clear hb1
  go_wp2_with fail
  have hz1 := block_lt k0
  have hz2 := block_lt k2
  have hz3 := block_lt k4
  have tok1 : True := trivial
  have tok2 : True := trivial
  have tok3 : True := trivial
  have tok4 : True := trivial
  go_region_held3 (fun w' => w'.cell? ⟨w.heap.size, 0, none⟩ = some (.int .i64 n1) ∧ w'.cell? ⟨w.heap.size, 1, none⟩ = some (.int .i64 d1) ∧ w'.cell? ⟨w.heap.size + 1, 0, none⟩ = some (.int .i64 n2) ∧ w'.cell? ⟨w.heap.size + 1, 1, none⟩ = some (.int .i64 d2) ∧ w'.cell? ⟨w.heap.size + 1 + 1, 0, none⟩ = some (.int .i64 n3) ∧ w'.cell? ⟨w.heap.size + 1 + 1, 1, none⟩ = some (.int .i64 d3)) (first | go_keep)
    (first | (go_at_call 26; have _t := tok1; refine (hAB _).mono ?_; rintro e w2 ⟨rfl, hb2⟩; clear tok1 _t; obtain ⟨hc2, hf2⟩ := bcell hb2; have y2 : w1.heap.size ≤ w2.heap.size := Nat.le_trans (by (first | exact Nat.le_refl _ | (simp <;> omega))) hb2.size; have fa2 : w.heap.size < w2.heap.size := (by omega); have fb2 : w.heap.size + 1 < w2.heap.size := (by omega); have fc2 : w.heap.size + 1 + 1 < w2.heap.size := (by omega)) | (go_at_call 26; have _t := tok2; refine (hBA _).mono ?_; rintro e w3 ⟨rfl, hb3⟩; clear tok2 _t; obtain ⟨hc3, hf3⟩ := bcell hb3; have y3 : w2.heap.size ≤ w3.heap.size := Nat.le_trans (by (first | exact Nat.le_refl _ | (simp <;> omega))) hb3.size; have fa3 : w.heap.size < w3.heap.size := (by omega); have fb3 : w.heap.size + 1 < w3.heap.size := (by omega); have fc3 : w.heap.size + 1 + 1 < w3.heap.size := (by omega)) | (go_at_call 26; have _t := tok3; refine (hBC _).mono ?_; rintro e w4 ⟨rfl, hb4⟩; clear tok3 _t; obtain ⟨hc4, hf4⟩ := bcell hb4; have y4 : w3.heap.size ≤ w4.heap.size := Nat.le_trans (by (first | exact Nat.le_refl _ | (simp <;> omega))) hb4.size; have fa4 : w.heap.size < w4.heap.size := (by omega); have fb4 : w.heap.size + 1 < w4.heap.size := (by omega); have fc4 : w.heap.size + 1 + 1 < w4.heap.size := (by omega)) | (go_at_call 26; have _t := tok4; refine (hAC _).mono ?_; rintro e w5 ⟨rfl, hb5⟩; clear tok4 _t; obtain ⟨hc5, hf5⟩ := bcell hb5; have y5 : w4.heap.size ≤ w5.heap.size := Nat.le_trans (by (first | exact Nat.le_refl _ | (simp <;> omega))) hb5.size; have fa5 : w.heap.size < w5.heap.size := (by omega); have fb5 : w.heap.size + 1 < w5.heap.size := (by omega); have fc5 : w.heap.size + 1 + 1 < w5.heap.size := (by omega)))
  replace k0 : w5.cell? ⟨w.heap.size, 0, none⟩ = some (.int .i64 n1) := (keepc hb5 (keepc hb4 (keepc hb3 (keepc hb2 (keepd k0)))))
  replace k1 : w5.cell? ⟨w.heap.size, 1, none⟩ = some (.int .i64 d1) := (keepc hb5 (keepc hb4 (keepc hb3 (keepc hb2 (keepd k1)))))
  replace k2 : w5.cell? ⟨w.heap.size + 1, 0, none⟩ = some (.int .i64 n2) := (keepc hb5 (keepc hb4 (keepc hb3 (keepc hb2 (keepd k2)))))
  replace k3 : w5.cell? ⟨w.heap.size + 1, 1, none⟩ = some (.int .i64 d2) := (keepc hb5 (keepc hb4 (keepc hb3 (keepc hb2 (keepd k3)))))
  replace k4 : w5.cell? ⟨w.heap.size + 1 + 1, 0, none⟩ = some (.int .i64 n3) := (keepc hb5 (keepc hb4 (keepc hb3 (keepc hb2 (keepd k4)))))
  replace k5 : w5.cell? ⟨w.heap.size + 1 + 1, 1, none⟩ = some (.int .i64 d3) := (keepc hb5 (keepc hb4 (keepc hb3 (keepc hb2 (keepd k5)))))
  replace kb : Below w.heap.size w w5 := (((kb.drew.trans (hb2.mono kb.size)).trans (hb3.mono (by omega))).trans (hb4.mono (by omega))).trans (hb5.mono (by omega))
  clear hb2 hb3 hb4 hb5 hc2 hf2 hc3 hf3 hc4 hf4 hc5 hf5 hz1 hz2 hz3 y2 y3 y4 y5 fa2 fb2 fc2 fa3 fb3 fc3 fa4 fb4 fc4 fa5 fb5 fc5
  go_wp2_with fail
  refine (hV1 _).mono ?_
  rintro e w6 ⟨rfl, hb6⟩
  replace k0 := keepc hb6 k0
  replace k1 := keepc hb6 k1
  replace k2 := keepc hb6 k2
  replace k3 := keepc hb6 k3
  replace k4 := keepc hb6 k4
  replace k5 := keepc hb6 k5
  replace kb : Below w.heap.size w w6 := kb.trans (hb6.mono (Nat.le_trans kb.size (by simp)))
  clear hb6
  go_wp2_with fail
  refine (hV2 _).mono ?_
  rintro e w7 ⟨rfl, hb7⟩
  replace k0 := keepc hb7 k0
  replace k1 := keepc hb7 k1
  replace k2 := keepc hb7 k2
  replace k3 := keepc hb7 k3
  replace k4 := keepc hb7 k4
  replace k5 := keepc hb7 k5
  replace kb : Below w.heap.size w w7 := kb.trans (hb7.mono (Nat.le_trans kb.size (by simp)))
  clear hb7
  go_wp2_with fail
  have hz1 := block_lt k0
  have hz2 := block_lt k2
  have hz3 := block_lt k4
  have fd0 : w.heap.size < w7.heap.size + 1 := by omega
  have tok1 : True := trivial
  have tok2 : True := trivial
  have tok3 : True := trivial
  have tok4 : True := trivial
  refine wp_region_held_drew (S := fun w' => w'.cell? ⟨w.heap.size, 0, none⟩ = some (.int .i64 n1) ∧ w'.cell? ⟨w.heap.size, 1, none⟩ = some (.int .i64 d1) ∧ w'.cell? ⟨w.heap.size + 1, 0, none⟩ = some (.int .i64 n2) ∧ w'.cell? ⟨w.heap.size + 1, 1, none⟩ = some (.int .i64 d2)) (by kernel_rfl) (by go_keep) (fun hHeld => ?_)
  refine wpAnyH_take (i := 0) (oi := { dst := some 43, op := Op.move (Operand.tmp 7), type := 3, pos := "law.go:154", after := #[], guard := none }) (v := ?_) rfl (by kernel_rfl) (by kernel_rfl) (by kernel_rfl) (fun _ _ _ h => h) (Or.inl ⟨by rfl, ?_⟩) (by assumption) ?_
  rotate_left
  · (intro w hSw; (try dsimp only at hSw); go_simp; (try with_reducible rfl))
  simp only [Act.put, List.setIfInBounds_toArray, List.set_cons_zero, List.set_cons_succ]
  refine wpAnyH_take (i := 1) (oi := { dst := some 44, op := Op.move (Operand.tmp 8), type := 3, pos := "law.go:154", after := #[], guard := none }) (v := ?_) rfl (by kernel_rfl) (by kernel_rfl) (by kernel_rfl) (fun _ _ _ h => h) (Or.inl ⟨by rfl, ?_⟩) (by assumption) ?_
  rotate_left
  · (intro w hSw; (try dsimp only at hSw); go_simp; (try with_reducible rfl))
  simp only [Act.put, List.setIfInBounds_toArray, List.set_cons_zero, List.set_cons_succ]
  refine wpAnyH_take (i := 2) (oi := { dst := some 45, op := Op.unOp UnOp.neg 3 (Operand.tmp 44), type := 3, pos := "law.go:154", after := #[{ on := 1, ground := Ground.data }], guard := none }) (v := ?_) rfl (by kernel_rfl) (by kernel_rfl) (by kernel_rfl) (fun _ _ _ h => h) (Or.inl ⟨by rfl, ?_⟩) (by assumption) ?_
  rotate_left
  · (intro w hSw; (try dsimp only at hSw); go_simp; (try with_reducible rfl))
  simp only [Act.put, List.setIfInBounds_toArray, List.set_cons_zero, List.set_cons_succ]
  refine wpAnyH_take (i := 3) (oi := { dst := some 46, op := Op.binOp BinOp.neq 3 (Operand.tmp 43) (Operand.tmp 45) 3, type := 4, pos := "law.go:154", after := #[{ on := 0, ground := Ground.data }, { on := 2, ground := Ground.data }], guard := none }) (v := ?_) rfl (by kernel_rfl) (by kernel_rfl) (by kernel_rfl) (fun _ _ _ h => h) (Or.inl ⟨by rfl, ?_⟩) (by assumption) ?_
  rotate_left
  · (intro w hSw; (try dsimp only at hSw); go_simp; (try with_reducible rfl))
  simp only [Act.put, List.setIfInBounds_toArray, List.set_cons_zero, List.set_cons_succ]
  refine wpAnyH_take (i := 4) (oi := { dst := some 47, op := Op.move (Operand.tmp 46), type := 4, pos := "law.go:154", after := #[{ on := 3, ground := Ground.data }], guard := none }) (v := ?_) rfl (by kernel_rfl) (by kernel_rfl) (by kernel_rfl) (fun _ _ _ h => h) (Or.inl ⟨by rfl, ?_⟩) (by assumption) ?_
  rotate_left
  · (intro w hSw; (try dsimp only at hSw); go_simp; (try with_reducible rfl))
  simp only [Act.put, List.setIfInBounds_toArray, List.set_cons_zero, List.set_cons_succ]
  refine wpAnyH_take (i := 5) (oi := { dst := some 48, op := Op.move (Operand.tmp 7), type := 3, pos := "law.go:154", after := #[{ on := 4, ground := Ground.guard }], guard := some (4, false) }) (v := ?_) rfl (by kernel_rfl) (by kernel_rfl) (by kernel_rfl) (fun _ _ _ h => h) (Or.inl ⟨by rfl, ?_⟩) (by assumption) ?_
  rotate_left
  · (intro w hSw; (try dsimp only at hSw); go_simp; (try with_reducible rfl))
  simp only [Act.put, List.setIfInBounds_toArray, List.set_cons_zero, List.set_cons_succ]
  refine wpAnyH_take (i := 6) (oi := { dst := some 49, op := Op.binOp BinOp.lss 3 (Operand.tmp 48) (Operand.const (Value.int IntKind.i64 (-1))) 3, type := 4, pos := "law.go:154", after := #[{ on := 5, ground := Ground.data }, { on := 4, ground := Ground.guard }], guard := some (4, false) }) (v := ?_) rfl (by kernel_rfl) (by kernel_rfl) (by kernel_rfl) (fun _ _ _ h => h) (Or.inl ⟨by rfl, ?_⟩) (by assumption) ?_
  rotate_left
  · (intro w hSw; (try dsimp only at hSw); go_simp; (try with_reducible rfl))
  simp only [Act.put, List.setIfInBounds_toArray, List.set_cons_zero, List.set_cons_succ]
  refine wpAnyH_take (i := 7) (oi := { dst := some 50, op := Op.pick (Operand.tmp 47) (Operand.const (Value.bool true)) (Operand.tmp 49), type := 4, pos := "law.go:154", after := #[{ on := 4, ground := Ground.data }, { on := 6, ground := Ground.data }], guard := none }) (v := ?_) rfl (by kernel_rfl) (by kernel_rfl) (by kernel_rfl) (fun _ _ _ h => h) (Or.inl ⟨by rfl, ?_⟩) (by assumption) ?_
  rotate_left
  · (intro w hSw; (try dsimp only at hSw); go_simp; (try with_reducible rfl))
  simp only [Act.put, List.setIfInBounds_toArray, List.set_cons_zero, List.set_cons_succ]
  refine wpAnyH_take (i := 8) (oi := { dst := some 51, op := Op.move (Operand.tmp 50), type := 4, pos := "law.go:154", after := #[{ on := 7, ground := Ground.data }, { on := 4, ground := Ground.chain }], guard := none }) (v := ?_) rfl (by kernel_rfl) (by kernel_rfl) (by kernel_rfl) (fun _ _ _ h => h) (Or.inl ⟨by rfl, ?_⟩) (by assumption) ?_
  rotate_left
  · (intro w hSw; (try dsimp only at hSw); go_simp; (try with_reducible rfl))
  simp only [Act.put, List.setIfInBounds_toArray, List.set_cons_zero, List.set_cons_succ]
  refine wpAnyH_take (i := 9) (oi := { dst := some 52, op := Op.move (Operand.tmp 7), type := 3, pos := "law.go:154", after := #[{ on := 8, ground := Ground.guard }], guard := some (8, false) }) (v := ?_) rfl (by kernel_rfl) (by kernel_rfl) (by kernel_rfl) (fun _ _ _ h => h) (Or.inl ⟨by rfl, ?_⟩) (by assumption) ?_
  rotate_left
  · (intro w hSw; (try dsimp only at hSw); go_simp; (try with_reducible rfl))
  simp only [Act.put, List.setIfInBounds_toArray, List.set_cons_zero, List.set_cons_succ]
  refine wpAnyH_take (i := 10) (oi := { dst := some 53, op := Op.binOp BinOp.gtr 3 (Operand.tmp 52) (Operand.const (Value.int IntKind.i64 1)) 3, type := 4, pos := "law.go:154", after := #[{ on := 9, ground := Ground.data }, { on := 8, ground := Ground.guard }], guard := some (8, false) }) (v := ?_) rfl (by kernel_rfl) (by kernel_rfl) (by kernel_rfl) (fun _ _ _ h => h) (Or.inl ⟨by rfl, ?_⟩) (by assumption) ?_
  rotate_left
  · (intro w hSw; (try dsimp only at hSw); go_simp; (try with_reducible rfl))
  simp only [Act.put, List.setIfInBounds_toArray, List.set_cons_zero, List.set_cons_succ]
  refine wpAnyH_take (i := 11) (oi := { dst := some 54, op := Op.pick (Operand.tmp 51) (Operand.const (Value.bool true)) (Operand.tmp 53), type := 4, pos := "law.go:154", after := #[{ on := 8, ground := Ground.data }, { on := 10, ground := Ground.data }], guard := none }) (v := ?_) rfl (by kernel_rfl) (by kernel_rfl) (by kernel_rfl) (fun _ _ _ h => h) (Or.inl ⟨by rfl, ?_⟩) (by assumption) ?_
  rotate_left
  · (intro w hSw; (try dsimp only at hSw); go_simp; (try with_reducible rfl))
  simp only [Act.put, List.setIfInBounds_toArray, List.set_cons_zero, List.set_cons_succ]
  refine wpAnyH_take (i := 12) (oi := { dst := some 55, op := Op.move (Operand.tmp 54), type := 4, pos := "law.go:154", after := #[{ on := 11, ground := Ground.data }, { on := 8, ground := Ground.chain }], guard := none }) (v := ?_) rfl (by kernel_rfl) (by kernel_rfl) (by kernel_rfl) (fun _ _ _ h => h) (Or.inl ⟨by rfl, ?_⟩) (by assumption) ?_
  rotate_left
  · (intro w hSw; (try dsimp only at hSw); go_simp; (try with_reducible rfl))
  simp only [Act.put, List.setIfInBounds_toArray, List.set_cons_zero, List.set_cons_succ]
  refine wpAnyH_take (i := 13) (oi := { dst := some 56, op := Op.fieldAddr 23 (Operand.tmp 3) 0, type := 0, pos := "law.go:154", after := #[{ on := 12, ground := Ground.guard }], guard := some (12, false) }) (v := ?_) rfl (by kernel_rfl) (by kernel_rfl) (by kernel_rfl) (fun _ _ _ h => h) (Or.inl ⟨by rfl, ?_⟩) (by assumption) ?_
  rotate_left
  · (intro w hSw; (try dsimp only at hSw); go_simp; (try with_reducible rfl))
  simp only [Act.put, List.setIfInBounds_toArray, List.set_cons_zero, List.set_cons_succ]
  refine wpAnyH_take (i := 14) (oi := { dst := some 57, op := Op.load 3 (Operand.tmp 56), type := 3, pos := "law.go:154", after := #[{ on := 13, ground := Ground.data }, { on := 12, ground := Ground.guard }], guard := some (12, false) }) (v := ?_) rfl (by kernel_rfl) (by kernel_rfl) (by kernel_rfl) (fun _ _ _ h => h) (Or.inl ⟨by rfl, ?_⟩) (by assumption) ?_
  rotate_left
  · (intro w hSw; (try dsimp only at hSw); go_simp; (try with_reducible rfl))
  simp only [Act.put, List.setIfInBounds_toArray, List.set_cons_zero, List.set_cons_succ]
  refine wpAnyH_take (i := 15) (oi := { dst := some 58, op := Op.fieldAddr 23 (Operand.tmp 3) 1, type := 0, pos := "law.go:154", after := #[{ on := 12, ground := Ground.guard }], guard := some (12, false) }) (v := ?_) rfl (by kernel_rfl) (by kernel_rfl) (by kernel_rfl) (fun _ _ _ h => h) (Or.inl ⟨by rfl, ?_⟩) (by assumption) ?_
  rotate_left
  · (intro w hSw; (try dsimp only at hSw); go_simp; (try with_reducible rfl))
  simp only [Act.put, List.setIfInBounds_toArray, List.set_cons_zero, List.set_cons_succ]
  refine wpAnyH_take (i := 16) (oi := { dst := some 59, op := Op.load 3 (Operand.tmp 58), type := 3, pos := "law.go:154", after := #[{ on := 15, ground := Ground.data }, { on := 12, ground := Ground.guard }], guard := some (12, false) }) (v := ?_) rfl (by kernel_rfl) (by kernel_rfl) (by kernel_rfl) (fun _ _ _ h => h) (Or.inl ⟨by rfl, ?_⟩) (by assumption) ?_
  rotate_left
  · (intro w hSw; (try dsimp only at hSw); go_simp; (try with_reducible rfl))
  simp only [Act.put, List.setIfInBounds_toArray, List.set_cons_zero, List.set_cons_succ]
  refine wpAnyH_take (i := 17) (oi := { dst := some 60, op := Op.fieldAddr 23 (Operand.tmp 4) 0, type := 0, pos := "law.go:154", after := #[{ on := 12, ground := Ground.guard }], guard := some (12, false) }) (v := ?_) rfl (by kernel_rfl) (by kernel_rfl) (by kernel_rfl) (fun _ _ _ h => h) (Or.inl ⟨by rfl, ?_⟩) (by assumption) ?_
  rotate_left
  · (intro w hSw; (try dsimp only at hSw); go_simp; (try with_reducible rfl))
  simp only [Act.put, List.setIfInBounds_toArray, List.set_cons_zero, List.set_cons_succ]
  refine wpAnyH_take (i := 18) (oi := { dst := some 61, op := Op.load 3 (Operand.tmp 60), type := 3, pos := "law.go:154", after := #[{ on := 17, ground := Ground.data }, { on := 12, ground := Ground.guard }], guard := some (12, false) }) (v := ?_) rfl (by kernel_rfl) (by kernel_rfl) (by kernel_rfl) (fun _ _ _ h => h) (Or.inl ⟨by rfl, ?_⟩) (by assumption) ?_
  rotate_left
  · (intro w hSw; (try dsimp only at hSw); go_simp; (try with_reducible rfl))
  simp only [Act.put, List.setIfInBounds_toArray, List.set_cons_zero, List.set_cons_succ]
  refine wpAnyH_take (i := 19) (oi := { dst := some 62, op := Op.fieldAddr 23 (Operand.tmp 4) 1, type := 0, pos := "law.go:154", after := #[{ on := 12, ground := Ground.guard }], guard := some (12, false) }) (v := ?_) rfl (by kernel_rfl) (by kernel_rfl) (by kernel_rfl) (fun _ _ _ h => h) (Or.inl ⟨by rfl, ?_⟩) (by assumption) ?_
  rotate_left
  · (intro w hSw; (try dsimp only at hSw); go_simp; (try with_reducible rfl))
  simp only [Act.put, List.setIfInBounds_toArray, List.set_cons_zero, List.set_cons_succ]
  refine wpAnyH_take (i := 20) (oi := { dst := some 63, op := Op.load 3 (Operand.tmp 62), type := 3, pos := "law.go:154", after := #[{ on := 19, ground := Ground.data }, { on := 12, ground := Ground.guard }], guard := some (12, false) }) (v := ?_) rfl (by kernel_rfl) (by kernel_rfl) (by kernel_rfl) (fun _ _ _ h => h) (Or.inl ⟨by rfl, ?_⟩) (by assumption) ?_
  rotate_left
  · (intro w hSw; (try dsimp only at hSw); go_simp; (try with_reducible rfl))
  simp only [Act.put, List.setIfInBounds_toArray, List.set_cons_zero, List.set_cons_succ]
  refine wpAnyH_ready (rs := [21]) (by kernel_rfl) (by simp) ?_
  refine AllReadyH.cons (o := { dst := some 64, op := Op.buildSlice 57 4 #[(0, Operand.tmp 57), (1, Operand.tmp 59), (2, Operand.tmp 61), (3, Operand.tmp 63)], type := 57, pos := "law.go:154", after := #[{ on := 14, ground := Ground.data }, { on := 16, ground := Ground.data }, { on := 18, ground := Ground.data }, { on := 20, ground := Ground.data }, { on := 12, ground := Ground.guard }], guard := some (12, false) }) rfl (fun K hK => ?_) AllReadyH.nil
  go_simp
  refine hK.out _ _ (by go_keep) (fun hHeld => ?_)
  clear hK K
  refine wpAnyH_ready (rs := [22]) (by kernel_rfl) (by simp) ?_
  refine AllReadyH.cons (o := { dst := some 65, op := Op.call { callee := Callee.value (Operand.func 15), args := #[Operand.tmp 64], argTypes := #[57] }, type := 4, pos := "law.go:154", after := #[{ on := 21, ground := Ground.data }, { on := 12, ground := Ground.chain }, { on := 12, ground := Ground.guard }], guard := some (12, false) }) rfl (fun K hK => ?_) AllReadyH.nil
  go_simp
  go_at_call 15; have _t := tok1; refine (small_four n1 d1 n2 d2 _ _ _ (by simp [go_sem]) (by simp [go_sem]) (by simp [go_sem]) (by simp [go_sem]) hS).mono ?_; rintro e w8 ⟨rfl, hb8⟩; clear tok1 _t; obtain ⟨hc8, hf8⟩ := bcell hb8; have y8 : w7.heap.size ≤ w8.heap.size := Nat.le_trans (by (first | exact Nat.le_refl _ | (simp <;> omega))) hb8.size; have fa8 : w.heap.size < w8.heap.size := (by omega); have fb8 : w.heap.size + 1 < w8.heap.size := (by omega); have fc8 : w.heap.size + 1 + 1 < w8.heap.size := (by omega)
  refine hK.out _ _ (by go_keep) (fun hHeld => ?_)
  clear hK K
  refine wpAnyH_take (i := 23) (oi := { dst := some 66, op := Op.move (Operand.tmp 65), type := 4, pos := "law.go:154", after := #[{ on := 22, ground := Ground.data }, { on := 22, ground := Ground.chain }, { on := 12, ground := Ground.guard }], guard := some (12, false) }) (v := ?_) rfl (by kernel_rfl) (by kernel_rfl) (by kernel_rfl) (fun _ _ _ h => h) (Or.inl ⟨by rfl, ?_⟩) (by assumption) ?_
  rotate_left
  · (intro w hSw; (try dsimp only at hSw); go_simp; (try with_reducible rfl))
  simp only [Act.put, List.setIfInBounds_toArray, List.set_cons_zero, List.set_cons_succ]
  refine wpAnyH_take (i := 24) (oi := { dst := some 67, op := Op.move (Operand.tmp 7), type := 3, pos := "law.go:154", after := #[{ on := 23, ground := Ground.guard }], guard := some (23, true) }) (v := undef) rfl (by kernel_rfl) (by kernel_rfl) (by kernel_rfl) (fun _ _ _ h => h) (Or.inr ⟨by rfl, rfl⟩) (by assumption) ?_
  simp only [Act.put, List.setIfInBounds_toArray, List.set_cons_zero, List.set_cons_succ]
  refine wpAnyH_take (i := 25) (oi := { dst := some 68, op := Op.load 23 (Operand.tmp 3), type := 23, pos := "law.go:154", after := #[{ on := 23, ground := Ground.guard }], guard := some (23, true) }) (v := undef) rfl (by kernel_rfl) (by kernel_rfl) (by kernel_rfl) (fun _ _ _ h => h) (Or.inr ⟨by rfl, rfl⟩) (by assumption) ?_
  simp only [Act.put, List.setIfInBounds_toArray, List.set_cons_zero, List.set_cons_succ]
  refine wpAnyH_take (i := 26) (oi := { dst := some 69, op := Op.call { callee := Callee.value (Operand.func 13), args := #[Operand.tmp 68], argTypes := #[23] }, type := 27, pos := "law.go:154", after := #[{ on := 25, ground := Ground.data }, { on := 23, ground := Ground.chain }, { on := 23, ground := Ground.guard }], guard := some (23, true) }) (v := undef) rfl (by kernel_rfl) (by kernel_rfl) (by kernel_rfl) (fun _ _ _ h => h) (Or.inr ⟨by rfl, rfl⟩) (by assumption) ?_
  simp only [Act.put, List.setIfInBounds_toArray, List.set_cons_zero, List.set_cons_succ]
  refine wpAnyH_take (i := 27) (oi := { dst := some 70, op := Op.load 23 (Operand.tmp 4), type := 23, pos := "law.go:154", after := #[{ on := 23, ground := Ground.guard }], guard := some (23, true) }) (v := undef) rfl (by kernel_rfl) (by kernel_rfl) (by kernel_rfl) (fun _ _ _ h => h) (Or.inr ⟨by rfl, rfl⟩) (by assumption) ?_
  simp only [Act.put, List.setIfInBounds_toArray, List.set_cons_zero, List.set_cons_succ]
  refine wpAnyH_take (i := 28) (oi := { dst := some 71, op := Op.call { callee := Callee.value (Operand.func 13), args := #[Operand.tmp 70], argTypes := #[23] }, type := 27, pos := "law.go:154", after := #[{ on := 27, ground := Ground.data }, { on := 26, ground := Ground.chain }, { on := 23, ground := Ground.guard }], guard := some (23, true) }) (v := undef) rfl (by kernel_rfl) (by kernel_rfl) (by kernel_rfl) (fun _ _ _ h => h) (Or.inr ⟨by rfl, rfl⟩) (by assumption) ?_
  simp only [Act.put, List.setIfInBounds_toArray, List.set_cons_zero, List.set_cons_succ]
  refine wpAnyH_take (i := 29) (oi := { dst := some 72, op := Op.call { callee := Callee.value (Operand.func 27), args := #[Operand.tmp 69, Operand.tmp 71], argTypes := #[27, 27] }, type := 3, pos := "law.go:154", after := #[{ on := 26, ground := Ground.data }, { on := 28, ground := Ground.data }, { on := 28, ground := Ground.chain }, { on := 23, ground := Ground.guard }], guard := some (23, true) }) (v := undef) rfl (by kernel_rfl) (by kernel_rfl) (by kernel_rfl) (fun _ _ _ h => h) (Or.inr ⟨by rfl, rfl⟩) (by assumption) ?_
  simp only [Act.put, List.setIfInBounds_toArray, List.set_cons_zero, List.set_cons_succ]
  refine wpAnyH_take (i := 30) (oi := { dst := some 73, op := Op.binOp BinOp.neq 3 (Operand.tmp 67) (Operand.tmp 72) 3, type := 4, pos := "law.go:154", after := #[{ on := 24, ground := Ground.data }, { on := 29, ground := Ground.data }, { on := 23, ground := Ground.guard }], guard := some (23, true) }) (v := undef) rfl (by kernel_rfl) (by kernel_rfl) (by kernel_rfl) (fun _ _ _ h => h) (Or.inr ⟨by rfl, rfl⟩) (by assumption) ?_
  simp only [Act.put, List.setIfInBounds_toArray, List.set_cons_zero, List.set_cons_succ]
  refine wpAnyH_take (i := 31) (oi := { dst := some 74, op := Op.pick (Operand.tmp 66) (Operand.tmp 73) (Operand.const (Value.bool false)), type := 4, pos := "law.go:154", after := #[{ on := 23, ground := Ground.data }, { on := 30, ground := Ground.data }, { on := 12, ground := Ground.guard }], guard := some (12, false) }) (v := ?_) rfl (by kernel_rfl) (by kernel_rfl) (by kernel_rfl) (fun _ _ _ h => h) (Or.inl ⟨by rfl, ?_⟩) (by assumption) ?_
  rotate_left
  · (intro w hSw; (try dsimp only at hSw); go_simp; (try with_reducible rfl))
  simp only [Act.put, List.setIfInBounds_toArray, List.set_cons_zero, List.set_cons_succ]
  refine wpAnyH_take (i := 32) (oi := { dst := some 75, op := Op.pick (Operand.tmp 55) (Operand.const (Value.bool true)) (Operand.tmp 74), type := 4, pos := "law.go:154", after := #[{ on := 12, ground := Ground.data }, { on := 31, ground := Ground.data }], guard := none }) (v := ?_) rfl (by kernel_rfl) (by kernel_rfl) (by kernel_rfl) (fun _ _ _ h => h) (Or.inl ⟨by rfl, ?_⟩) (by assumption) ?_
  rotate_left
  · (intro w hSw; (try dsimp only at hSw); go_simp; (try with_reducible rfl))
  simp only [Act.put, List.setIfInBounds_toArray, List.set_cons_zero, List.set_cons_succ]
  refine wpAnyH_done (by kernel_rfl) ?_ _
  replace k0 : w8.cell? ⟨w.heap.size, 0, none⟩ = some (.int .i64 n1) := by first | exact (keepc hb8 (keepd (keepa _ k0))) | exact (keepc hb8 (keepa _ (keepd k0)))
  replace k1 : w8.cell? ⟨w.heap.size, 1, none⟩ = some (.int .i64 d1) := by first | exact (keepc hb8 (keepd (keepa _ k1))) | exact (keepc hb8 (keepa _ (keepd k1)))
  replace k2 : w8.cell? ⟨w.heap.size + 1, 0, none⟩ = some (.int .i64 n2) := by first | exact (keepc hb8 (keepd (keepa _ k2))) | exact (keepc hb8 (keepa _ (keepd k2)))
  replace k3 : w8.cell? ⟨w.heap.size + 1, 1, none⟩ = some (.int .i64 d2) := by first | exact (keepc hb8 (keepd (keepa _ k3))) | exact (keepc hb8 (keepa _ (keepd k3)))
  replace k4 : w8.cell? ⟨w.heap.size + 1 + 1, 0, none⟩ = some (.int .i64 n3) := by first | exact (keepc hb8 (keepd (keepa _ k4))) | exact (keepc hb8 (keepa _ (keepd k4)))
  replace k5 : w8.cell? ⟨w.heap.size + 1 + 1, 1, none⟩ = some (.int .i64 d3) := by first | exact (keepc hb8 (keepd (keepa _ k5))) | exact (keepc hb8 (keepa _ (keepd k5)))
  replace kb : Below w.heap.size w w8 := ((kb.drew.alloc kb.drew.size _).trans (hb8.mono (Nat.le_trans kb.size (by first | (simp; done) | exact Nat.le_succ _))))
  clear hHeld hz1 hz2 hz3 fd0 hb8 hc8 hf8 y8 fa8 fb8 fc8 tok2 tok3 tok4
  rcases hrest with hx | ⟨hx, hy⟩ | ⟨hx, hy, hXY⟩
  · go_wp2_with fail
    refine (hVc _).mono ?_
    rintro e w12 ⟨rfl, hb12⟩
    replace k0 := keepc hb12 k0
    replace k1 := keepc hb12 k1
    replace k2 := keepc hb12 k2
    replace k3 := keepc hb12 k3
    replace k4 := keepc hb12 k4
    replace k5 := keepc hb12 k5
    replace kb : Below w.heap.size w w12 := kb.trans (hb12.mono (Nat.le_trans kb.size (by simp)))
    clear hb12
    go_wp2_with fail
    refine (hX _).mono ?_
    rintro e w13 ⟨rfl, hb13⟩
    replace k0 := keepc hb13 k0
    replace k1 := keepc hb13 k1
    replace k2 := keepc hb13 k2
    replace k3 := keepc hb13 k3
    replace k4 := keepc hb13 k4
    replace k5 := keepc hb13 k5
    replace kb : Below w.heap.size w w13 := kb.trans (hb13.mono (Nat.le_trans kb.size (by simp)))
    clear hb13
    go_wp2_with fail
    refine (hY _).mono ?_
    rintro e w14 ⟨rfl, hb14⟩
    replace k0 := keepc hb14 (keepa _ k0)
    replace k1 := keepc hb14 (keepa _ k1)
    replace k2 := keepc hb14 (keepa _ k2)
    replace k3 := keepc hb14 (keepa _ k3)
    replace k4 := keepc hb14 (keepa _ k4)
    replace k5 := keepc hb14 (keepa _ k5)
    have k6 : w14.cell? ⟨w13.heap.size, 0, none⟩ = some (.int .i64 x1) := keepc hb14 (by simp [go_sem])
    have k7 : w14.cell? ⟨w13.heap.size, 1, none⟩ = some (.int .i64 x2) := keepc hb14 (by simp [go_sem])
    replace kb : Below w.heap.size w w14 := (kb.alloc (Nat.le_trans kb.size (by simp)) _).trans (hb14.mono (Nat.le_trans kb.size (by simp)))
    clear hb14
    go_wp2_with fail
    go_ret
    exact ⟨rfl, (kb.alloc (Nat.le_trans kb.size (by simp)) _)⟩
  · go_wp2_with fail
    refine (hVc _).mono ?_
    rintro e w12 ⟨rfl, hb12⟩
    replace k0 := keepc hb12 k0
    replace k1 := keepc hb12 k1
    replace k2 := keepc hb12 k2
    replace k3 := keepc hb12 k3
    replace k4 := keepc hb12 k4
    replace k5 := keepc hb12 k5
    replace kb : Below w.heap.size w w12 := kb.trans (hb12.mono (Nat.le_trans kb.size (by simp)))
    clear hb12
    go_wp2_with fail
    refine (hX _).mono ?_
    rintro e w13 ⟨rfl, hb13⟩
    replace k0 := keepc hb13 k0
    replace k1 := keepc hb13 k1
    replace k2 := keepc hb13 k2
    replace k3 := keepc hb13 k3
    replace k4 := keepc hb13 k4
    replace k5 := keepc hb13 k5
    replace kb : Below w.heap.size w w13 := kb.trans (hb13.mono (Nat.le_trans kb.size (by simp)))
    clear hb13
    go_wp2_with fail
    refine (hY _).mono ?_
    rintro e w14 ⟨rfl, hb14⟩
    replace k0 := keepc hb14 (keepa _ k0)
    replace k1 := keepc hb14 (keepa _ k1)
    replace k2 := keepc hb14 (keepa _ k2)
    replace k3 := keepc hb14 (keepa _ k3)
    replace k4 := keepc hb14 (keepa _ k4)
    replace k5 := keepc hb14 (keepa _ k5)
    have k6 : w14.cell? ⟨w13.heap.size, 0, none⟩ = some (.int .i64 x1) := keepc hb14 (by simp [go_sem])
    have k7 : w14.cell? ⟨w13.heap.size, 1, none⟩ = some (.int .i64 x2) := keepc hb14 (by simp [go_sem])
    replace kb : Below w.heap.size w w14 := (kb.alloc (Nat.le_trans kb.size (by simp)) _).trans (hb14.mono (Nat.le_trans kb.size (by simp)))
    clear hb14
    go_wp2_with fail
    go_ret
    exact ⟨rfl, (kb.alloc (Nat.le_trans kb.size (by simp)) _)⟩
  · go_wp2_with fail
    refine (hVc _).mono ?_
    rintro e w12 ⟨rfl, hb12⟩
    replace k0 := keepc hb12 k0
    replace k1 := keepc hb12 k1
    replace k2 := keepc hb12 k2
    replace k3 := keepc hb12 k3
    replace k4 := keepc hb12 k4
    replace k5 := keepc hb12 k5
    replace kb : Below w.heap.size w w12 := kb.trans (hb12.mono (Nat.le_trans kb.size (by simp)))
    clear hb12
    go_wp2_with fail
    refine (hX _).mono ?_
    rintro e w13 ⟨rfl, hb13⟩
    replace k0 := keepc hb13 k0
    replace k1 := keepc hb13 k1
    replace k2 := keepc hb13 k2
    replace k3 := keepc hb13 k3
    replace k4 := keepc hb13 k4
    replace k5 := keepc hb13 k5
    replace kb : Below w.heap.size w w13 := kb.trans (hb13.mono (Nat.le_trans kb.size (by simp)))
    clear hb13
    go_wp2_with fail
    refine (hY _).mono ?_
    rintro e w14 ⟨rfl, hb14⟩
    replace k0 := keepc hb14 (keepa _ k0)
    replace k1 := keepc hb14 (keepa _ k1)
    replace k2 := keepc hb14 (keepa _ k2)
    replace k3 := keepc hb14 (keepa _ k3)
    replace k4 := keepc hb14 (keepa _ k4)
    replace k5 := keepc hb14 (keepa _ k5)
    have k6 : w14.cell? ⟨w13.heap.size, 0, none⟩ = some (.int .i64 x1) := keepc hb14 (by simp [go_sem])
    have k7 : w14.cell? ⟨w13.heap.size, 1, none⟩ = some (.int .i64 x2) := keepc hb14 (by simp [go_sem])
    replace kb : Below w.heap.size w w14 := (kb.alloc (Nat.le_trans kb.size (by simp)) _).trans (hb14.mono (Nat.le_trans kb.size (by simp)))
    clear hb14
    go_wp2_with fail
    refine (hXY _).mono ?_
    rintro e w15 ⟨rfl, hb15⟩
    replace k0 := keepc hb15 (keepa _ k0)
    replace k1 := keepc hb15 (keepa _ k1)
    replace k2 := keepc hb15 (keepa _ k2)
    replace k3 := keepc hb15 (keepa _ k3)
    replace k4 := keepc hb15 (keepa _ k4)
    replace k5 := keepc hb15 (keepa _ k5)
    replace k6 := keepc hb15 (keepa _ k6)
    replace k7 := keepc hb15 (keepa _ k7)
    have k8 : w15.cell? ⟨w14.heap.size, 0, none⟩ = some (.int .i64 y1) := keepc hb15 (by simp [go_sem])
    have k9 : w15.cell? ⟨w14.heap.size, 1, none⟩ = some (.int .i64 y2) := keepc hb15 (by simp [go_sem])
    replace kb : Below w.heap.size w w15 := (kb.alloc (Nat.le_trans kb.size (by simp)) _).trans (hb15.mono (Nat.le_trans kb.size (by simp)))
    clear hb15
    go_wp2_with fail
    go_ret
    exact ⟨rfl, kb⟩

set_option maxRecDepth 100000 in
set_option maxHeartbeats 4000000 in
theorem orders_small_3 (n1 d1 n2 d2 n3 d3 ab ba bc ac x1 x2 x3 y1 y2 y3 : Int) (hAB : CmpTo n1 d1 n2 d2 ab) (hBA : CmpTo n2 d2 n1 d1 ba) (hBC : CmpTo n2 d2 n3 d3 bc) (hAC : CmpTo n1 d1 n3 d3 ac) (hn : -ba = ab) (hw : IntKind.i64.wrap ab = ab) (hn2 : decide (ab < -1) = false) (hn3 : decide (1 < ab) = false) (hV1 : ValidTo n1 d1 true) (hV2 : ValidTo n2 d2 true) (hS : smallB [n1, d1, n2, d2] = true) (hR : RCmpTo n1 d1 n2 d2 ab) (hVc : ValidTo n3 d3 true) (hc0 : decide (ab ≤ 0) = true) (hc1 : decide (bc ≤ 0) = true) (hc2 : decide (0 < ac) = false) (hc3 : decide (ab < 0) = false) (hX : AddTo n1 d1 n3 d3 x1 x2 x3) (hY : AddTo n2 d2 n3 d3 y1 y2 y3) (hrest : (x3 != 0) = true ∨ ((x3 != 0) = false ∧ (y3 != 0) = true) ∨ ((x3 != 0) = false ∧ (y3 != 0) = false ∧ CmpTo x1 x2 y1 y2 ab)) (w : World) :
    Calls Try.prog 7 #[.agg #[.int .i64 n1, .int .i64 d1], .agg #[.int .i64 n2, .int .i64 d2], .agg #[.int .i64 n3, .int .i64 d3]] w fun e w' => e = .returned (.bool true) ∧ Below w.heap.size w w' := by
  have hka := @World.cell?_alloc_some
  have hds : ∀ x : World, x.drew.heap.size = x.heap.size := fun _ => rfl
  go_enter Try.func7, Try.ntmps7
  go_wp2_with fail
  refine (awake_any _).mono ?_
  rintro e w1 ⟨rfl, hb1⟩
  have k0 : w1.cell? ⟨w.heap.size, 0, none⟩ = some (.int .i64 n1) := keepc hb1 (by simp [go_sem])
  have k1 : w1.cell? ⟨w.heap.size, 1, none⟩ = some (.int .i64 d1) := keepc hb1 (by simp [go_sem])
  have k2 : w1.cell? ⟨w.heap.size + 1, 0, none⟩ = some (.int .i64 n2) := keepc hb1 (by simp [go_sem])
  have k3 : w1.cell? ⟨w.heap.size + 1, 1, none⟩ = some (.int .i64 d2) := keepc hb1 (by simp [go_sem])
  have k4 : w1.cell? ⟨w.heap.size + 1 + 1, 0, none⟩ = some (.int .i64 n3) := keepc hb1 (by simp [go_sem])
  have k5 : w1.cell? ⟨w.heap.size + 1 + 1, 1, none⟩ = some (.int .i64 d3) := keepc hb1 (by simp [go_sem])
  have kb : Below w.heap.size w w1 := ((((Below.refl w.heap.size w).alloc (by (try simp) <;> omega) _).alloc (by (try simp) <;> omega) _).alloc (by (try simp) <;> omega) _).trans (hb1.mono (by (try simp) <;> omega))
  clear hb1
  go_wp2_with fail
  have hz1 := block_lt k0
  have hz2 := block_lt k2
  have hz3 := block_lt k4
  have tok1 : True := trivial
  have tok2 : True := trivial
  have tok3 : True := trivial
  have tok4 : True := trivial
  go_region_held3 (fun w' => w'.cell? ⟨w.heap.size, 0, none⟩ = some (.int .i64 n1) ∧ w'.cell? ⟨w.heap.size, 1, none⟩ = some (.int .i64 d1) ∧ w'.cell? ⟨w.heap.size + 1, 0, none⟩ = some (.int .i64 n2) ∧ w'.cell? ⟨w.heap.size + 1, 1, none⟩ = some (.int .i64 d2) ∧ w'.cell? ⟨w.heap.size + 1 + 1, 0, none⟩ = some (.int .i64 n3) ∧ w'.cell? ⟨w.heap.size + 1 + 1, 1, none⟩ = some (.int .i64 d3)) (first | go_keep)
    (first | (go_at_call 26; have _t := tok1; refine (hAB _).mono ?_; rintro e w2 ⟨rfl, hb2⟩; clear tok1 _t; obtain ⟨hc2, hf2⟩ := bcell hb2; have y2 : w1.heap.size ≤ w2.heap.size := Nat.le_trans (by (first | exact Nat.le_refl _ | (simp <;> omega))) hb2.size; have fa2 : w.heap.size < w2.heap.size := (by omega); have fb2 : w.heap.size + 1 < w2.heap.size := (by omega); have fc2 : w.heap.size + 1 + 1 < w2.heap.size := (by omega)) | (go_at_call 26; have _t := tok2; refine (hBA _).mono ?_; rintro e w3 ⟨rfl, hb3⟩; clear tok2 _t; obtain ⟨hc3, hf3⟩ := bcell hb3; have y3 : w2.heap.size ≤ w3.heap.size := Nat.le_trans (by (first | exact Nat.le_refl _ | (simp <;> omega))) hb3.size; have fa3 : w.heap.size < w3.heap.size := (by omega); have fb3 : w.heap.size + 1 < w3.heap.size := (by omega); have fc3 : w.heap.size + 1 + 1 < w3.heap.size := (by omega)) | (go_at_call 26; have _t := tok3; refine (hBC _).mono ?_; rintro e w4 ⟨rfl, hb4⟩; clear tok3 _t; obtain ⟨hc4, hf4⟩ := bcell hb4; have y4 : w3.heap.size ≤ w4.heap.size := Nat.le_trans (by (first | exact Nat.le_refl _ | (simp <;> omega))) hb4.size; have fa4 : w.heap.size < w4.heap.size := (by omega); have fb4 : w.heap.size + 1 < w4.heap.size := (by omega); have fc4 : w.heap.size + 1 + 1 < w4.heap.size := (by omega)) | (go_at_call 26; have _t := tok4; refine (hAC _).mono ?_; rintro e w5 ⟨rfl, hb5⟩; clear tok4 _t; obtain ⟨hc5, hf5⟩ := bcell hb5; have y5 : w4.heap.size ≤ w5.heap.size := Nat.le_trans (by (first | exact Nat.le_refl _ | (simp <;> omega))) hb5.size; have fa5 : w.heap.size < w5.heap.size := (by omega); have fb5 : w.heap.size + 1 < w5.heap.size := (by omega); have fc5 : w.heap.size + 1 + 1 < w5.heap.size := (by omega)))
  replace k0 : w5.cell? ⟨w.heap.size, 0, none⟩ = some (.int .i64 n1) := (keepc hb5 (keepc hb4 (keepc hb3 (keepc hb2 (keepd k0)))))
  replace k1 : w5.cell? ⟨w.heap.size, 1, none⟩ = some (.int .i64 d1) := (keepc hb5 (keepc hb4 (keepc hb3 (keepc hb2 (keepd k1)))))
  replace k2 : w5.cell? ⟨w.heap.size + 1, 0, none⟩ = some (.int .i64 n2) := (keepc hb5 (keepc hb4 (keepc hb3 (keepc hb2 (keepd k2)))))
  replace k3 : w5.cell? ⟨w.heap.size + 1, 1, none⟩ = some (.int .i64 d2) := (keepc hb5 (keepc hb4 (keepc hb3 (keepc hb2 (keepd k3)))))
  replace k4 : w5.cell? ⟨w.heap.size + 1 + 1, 0, none⟩ = some (.int .i64 n3) := (keepc hb5 (keepc hb4 (keepc hb3 (keepc hb2 (keepd k4)))))
  replace k5 : w5.cell? ⟨w.heap.size + 1 + 1, 1, none⟩ = some (.int .i64 d3) := (keepc hb5 (keepc hb4 (keepc hb3 (keepc hb2 (keepd k5)))))
  replace kb : Below w.heap.size w w5 := (((kb.drew.trans (hb2.mono kb.size)).trans (hb3.mono (by omega))).trans (hb4.mono (by omega))).trans (hb5.mono (by omega))
  clear hb2 hb3 hb4 hb5 hc2 hf2 hc3 hf3 hc4 hf4 hc5 hf5 hz1 hz2 hz3 y2 y3 y4 y5 fa2 fb2 fc2 fa3 fb3 fc3 fa4 fb4 fc4 fa5 fb5 fc5
  go_wp2_with fail
  refine (hV1 _).mono ?_
  rintro e w6 ⟨rfl, hb6⟩
  replace k0 := keepc hb6 k0
  replace k1 := keepc hb6 k1
  replace k2 := keepc hb6 k2
  replace k3 := keepc hb6 k3
  replace k4 := keepc hb6 k4
  replace k5 := keepc hb6 k5
  replace kb : Below w.heap.size w w6 := kb.trans (hb6.mono (Nat.le_trans kb.size (by simp)))
  clear hb6
  go_wp2_with fail
  refine (hV2 _).mono ?_
  rintro e w7 ⟨rfl, hb7⟩
  replace k0 := keepc hb7 k0
  replace k1 := keepc hb7 k1
  replace k2 := keepc hb7 k2
  replace k3 := keepc hb7 k3
  replace k4 := keepc hb7 k4
  replace k5 := keepc hb7 k5
  replace kb : Below w.heap.size w w7 := kb.trans (hb7.mono (Nat.le_trans kb.size (by simp)))
  clear hb7
  go_wp2_with fail
  have hz1 := block_lt k0
  have hz2 := block_lt k2
  have hz3 := block_lt k4
  have fd0 : w.heap.size < w7.heap.size + 1 := by omega
  have tok1 : True := trivial
  have tok2 : True := trivial
  have tok3 : True := trivial
  have tok4 : True := trivial
  refine wp_region_held_drew (S := fun w' => w'.cell? ⟨w.heap.size, 0, none⟩ = some (.int .i64 n1) ∧ w'.cell? ⟨w.heap.size, 1, none⟩ = some (.int .i64 d1) ∧ w'.cell? ⟨w.heap.size + 1, 0, none⟩ = some (.int .i64 n2) ∧ w'.cell? ⟨w.heap.size + 1, 1, none⟩ = some (.int .i64 d2)) (by kernel_rfl) (by go_keep) (fun hHeld => ?_)
  refine wpAnyH_take (i := 0) (oi := { dst := some 43, op := Op.move (Operand.tmp 7), type := 3, pos := "law.go:154", after := #[], guard := none }) (v := ?_) rfl (by kernel_rfl) (by kernel_rfl) (by kernel_rfl) (fun _ _ _ h => h) (Or.inl ⟨by rfl, ?_⟩) (by assumption) ?_
  rotate_left
  · (intro w hSw; (try dsimp only at hSw); go_simp; (try with_reducible rfl))
  simp only [Act.put, List.setIfInBounds_toArray, List.set_cons_zero, List.set_cons_succ]
  refine wpAnyH_take (i := 1) (oi := { dst := some 44, op := Op.move (Operand.tmp 8), type := 3, pos := "law.go:154", after := #[], guard := none }) (v := ?_) rfl (by kernel_rfl) (by kernel_rfl) (by kernel_rfl) (fun _ _ _ h => h) (Or.inl ⟨by rfl, ?_⟩) (by assumption) ?_
  rotate_left
  · (intro w hSw; (try dsimp only at hSw); go_simp; (try with_reducible rfl))
  simp only [Act.put, List.setIfInBounds_toArray, List.set_cons_zero, List.set_cons_succ]
  refine wpAnyH_take (i := 2) (oi := { dst := some 45, op := Op.unOp UnOp.neg 3 (Operand.tmp 44), type := 3, pos := "law.go:154", after := #[{ on := 1, ground := Ground.data }], guard := none }) (v := ?_) rfl (by kernel_rfl) (by kernel_rfl) (by kernel_rfl) (fun _ _ _ h => h) (Or.inl ⟨by rfl, ?_⟩) (by assumption) ?_
  rotate_left
  · (intro w hSw; (try dsimp only at hSw); go_simp; (try with_reducible rfl))
  simp only [Act.put, List.setIfInBounds_toArray, List.set_cons_zero, List.set_cons_succ]
  refine wpAnyH_take (i := 3) (oi := { dst := some 46, op := Op.binOp BinOp.neq 3 (Operand.tmp 43) (Operand.tmp 45) 3, type := 4, pos := "law.go:154", after := #[{ on := 0, ground := Ground.data }, { on := 2, ground := Ground.data }], guard := none }) (v := ?_) rfl (by kernel_rfl) (by kernel_rfl) (by kernel_rfl) (fun _ _ _ h => h) (Or.inl ⟨by rfl, ?_⟩) (by assumption) ?_
  rotate_left
  · (intro w hSw; (try dsimp only at hSw); go_simp; (try with_reducible rfl))
  simp only [Act.put, List.setIfInBounds_toArray, List.set_cons_zero, List.set_cons_succ]
  refine wpAnyH_take (i := 4) (oi := { dst := some 47, op := Op.move (Operand.tmp 46), type := 4, pos := "law.go:154", after := #[{ on := 3, ground := Ground.data }], guard := none }) (v := ?_) rfl (by kernel_rfl) (by kernel_rfl) (by kernel_rfl) (fun _ _ _ h => h) (Or.inl ⟨by rfl, ?_⟩) (by assumption) ?_
  rotate_left
  · (intro w hSw; (try dsimp only at hSw); go_simp; (try with_reducible rfl))
  simp only [Act.put, List.setIfInBounds_toArray, List.set_cons_zero, List.set_cons_succ]
  refine wpAnyH_take (i := 5) (oi := { dst := some 48, op := Op.move (Operand.tmp 7), type := 3, pos := "law.go:154", after := #[{ on := 4, ground := Ground.guard }], guard := some (4, false) }) (v := ?_) rfl (by kernel_rfl) (by kernel_rfl) (by kernel_rfl) (fun _ _ _ h => h) (Or.inl ⟨by rfl, ?_⟩) (by assumption) ?_
  rotate_left
  · (intro w hSw; (try dsimp only at hSw); go_simp; (try with_reducible rfl))
  simp only [Act.put, List.setIfInBounds_toArray, List.set_cons_zero, List.set_cons_succ]
  refine wpAnyH_take (i := 6) (oi := { dst := some 49, op := Op.binOp BinOp.lss 3 (Operand.tmp 48) (Operand.const (Value.int IntKind.i64 (-1))) 3, type := 4, pos := "law.go:154", after := #[{ on := 5, ground := Ground.data }, { on := 4, ground := Ground.guard }], guard := some (4, false) }) (v := ?_) rfl (by kernel_rfl) (by kernel_rfl) (by kernel_rfl) (fun _ _ _ h => h) (Or.inl ⟨by rfl, ?_⟩) (by assumption) ?_
  rotate_left
  · (intro w hSw; (try dsimp only at hSw); go_simp; (try with_reducible rfl))
  simp only [Act.put, List.setIfInBounds_toArray, List.set_cons_zero, List.set_cons_succ]
  refine wpAnyH_take (i := 7) (oi := { dst := some 50, op := Op.pick (Operand.tmp 47) (Operand.const (Value.bool true)) (Operand.tmp 49), type := 4, pos := "law.go:154", after := #[{ on := 4, ground := Ground.data }, { on := 6, ground := Ground.data }], guard := none }) (v := ?_) rfl (by kernel_rfl) (by kernel_rfl) (by kernel_rfl) (fun _ _ _ h => h) (Or.inl ⟨by rfl, ?_⟩) (by assumption) ?_
  rotate_left
  · (intro w hSw; (try dsimp only at hSw); go_simp; (try with_reducible rfl))
  simp only [Act.put, List.setIfInBounds_toArray, List.set_cons_zero, List.set_cons_succ]
  refine wpAnyH_take (i := 8) (oi := { dst := some 51, op := Op.move (Operand.tmp 50), type := 4, pos := "law.go:154", after := #[{ on := 7, ground := Ground.data }, { on := 4, ground := Ground.chain }], guard := none }) (v := ?_) rfl (by kernel_rfl) (by kernel_rfl) (by kernel_rfl) (fun _ _ _ h => h) (Or.inl ⟨by rfl, ?_⟩) (by assumption) ?_
  rotate_left
  · (intro w hSw; (try dsimp only at hSw); go_simp; (try with_reducible rfl))
  simp only [Act.put, List.setIfInBounds_toArray, List.set_cons_zero, List.set_cons_succ]
  refine wpAnyH_take (i := 9) (oi := { dst := some 52, op := Op.move (Operand.tmp 7), type := 3, pos := "law.go:154", after := #[{ on := 8, ground := Ground.guard }], guard := some (8, false) }) (v := ?_) rfl (by kernel_rfl) (by kernel_rfl) (by kernel_rfl) (fun _ _ _ h => h) (Or.inl ⟨by rfl, ?_⟩) (by assumption) ?_
  rotate_left
  · (intro w hSw; (try dsimp only at hSw); go_simp; (try with_reducible rfl))
  simp only [Act.put, List.setIfInBounds_toArray, List.set_cons_zero, List.set_cons_succ]
  refine wpAnyH_take (i := 10) (oi := { dst := some 53, op := Op.binOp BinOp.gtr 3 (Operand.tmp 52) (Operand.const (Value.int IntKind.i64 1)) 3, type := 4, pos := "law.go:154", after := #[{ on := 9, ground := Ground.data }, { on := 8, ground := Ground.guard }], guard := some (8, false) }) (v := ?_) rfl (by kernel_rfl) (by kernel_rfl) (by kernel_rfl) (fun _ _ _ h => h) (Or.inl ⟨by rfl, ?_⟩) (by assumption) ?_
  rotate_left
  · (intro w hSw; (try dsimp only at hSw); go_simp; (try with_reducible rfl))
  simp only [Act.put, List.setIfInBounds_toArray, List.set_cons_zero, List.set_cons_succ]
  refine wpAnyH_take (i := 11) (oi := { dst := some 54, op := Op.pick (Operand.tmp 51) (Operand.const (Value.bool true)) (Operand.tmp 53), type := 4, pos := "law.go:154", after := #[{ on := 8, ground := Ground.data }, { on := 10, ground := Ground.data }], guard := none }) (v := ?_) rfl (by kernel_rfl) (by kernel_rfl) (by kernel_rfl) (fun _ _ _ h => h) (Or.inl ⟨by rfl, ?_⟩) (by assumption) ?_
  rotate_left
  · (intro w hSw; (try dsimp only at hSw); go_simp; (try with_reducible rfl))
  simp only [Act.put, List.setIfInBounds_toArray, List.set_cons_zero, List.set_cons_succ]
  refine wpAnyH_take (i := 12) (oi := { dst := some 55, op := Op.move (Operand.tmp 54), type := 4, pos := "law.go:154", after := #[{ on := 11, ground := Ground.data }, { on := 8, ground := Ground.chain }], guard := none }) (v := ?_) rfl (by kernel_rfl) (by kernel_rfl) (by kernel_rfl) (fun _ _ _ h => h) (Or.inl ⟨by rfl, ?_⟩) (by assumption) ?_
  rotate_left
  · (intro w hSw; (try dsimp only at hSw); go_simp; (try with_reducible rfl))
  simp only [Act.put, List.setIfInBounds_toArray, List.set_cons_zero, List.set_cons_succ]
  refine wpAnyH_take (i := 13) (oi := { dst := some 56, op := Op.fieldAddr 23 (Operand.tmp 3) 0, type := 0, pos := "law.go:154", after := #[{ on := 12, ground := Ground.guard }], guard := some (12, false) }) (v := ?_) rfl (by kernel_rfl) (by kernel_rfl) (by kernel_rfl) (fun _ _ _ h => h) (Or.inl ⟨by rfl, ?_⟩) (by assumption) ?_
  rotate_left
  · (intro w hSw; (try dsimp only at hSw); go_simp; (try with_reducible rfl))
  simp only [Act.put, List.setIfInBounds_toArray, List.set_cons_zero, List.set_cons_succ]
  refine wpAnyH_take (i := 14) (oi := { dst := some 57, op := Op.load 3 (Operand.tmp 56), type := 3, pos := "law.go:154", after := #[{ on := 13, ground := Ground.data }, { on := 12, ground := Ground.guard }], guard := some (12, false) }) (v := ?_) rfl (by kernel_rfl) (by kernel_rfl) (by kernel_rfl) (fun _ _ _ h => h) (Or.inl ⟨by rfl, ?_⟩) (by assumption) ?_
  rotate_left
  · (intro w hSw; (try dsimp only at hSw); go_simp; (try with_reducible rfl))
  simp only [Act.put, List.setIfInBounds_toArray, List.set_cons_zero, List.set_cons_succ]
  refine wpAnyH_take (i := 15) (oi := { dst := some 58, op := Op.fieldAddr 23 (Operand.tmp 3) 1, type := 0, pos := "law.go:154", after := #[{ on := 12, ground := Ground.guard }], guard := some (12, false) }) (v := ?_) rfl (by kernel_rfl) (by kernel_rfl) (by kernel_rfl) (fun _ _ _ h => h) (Or.inl ⟨by rfl, ?_⟩) (by assumption) ?_
  rotate_left
  · (intro w hSw; (try dsimp only at hSw); go_simp; (try with_reducible rfl))
  simp only [Act.put, List.setIfInBounds_toArray, List.set_cons_zero, List.set_cons_succ]
  refine wpAnyH_take (i := 16) (oi := { dst := some 59, op := Op.load 3 (Operand.tmp 58), type := 3, pos := "law.go:154", after := #[{ on := 15, ground := Ground.data }, { on := 12, ground := Ground.guard }], guard := some (12, false) }) (v := ?_) rfl (by kernel_rfl) (by kernel_rfl) (by kernel_rfl) (fun _ _ _ h => h) (Or.inl ⟨by rfl, ?_⟩) (by assumption) ?_
  rotate_left
  · (intro w hSw; (try dsimp only at hSw); go_simp; (try with_reducible rfl))
  simp only [Act.put, List.setIfInBounds_toArray, List.set_cons_zero, List.set_cons_succ]
  refine wpAnyH_take (i := 17) (oi := { dst := some 60, op := Op.fieldAddr 23 (Operand.tmp 4) 0, type := 0, pos := "law.go:154", after := #[{ on := 12, ground := Ground.guard }], guard := some (12, false) }) (v := ?_) rfl (by kernel_rfl) (by kernel_rfl) (by kernel_rfl) (fun _ _ _ h => h) (Or.inl ⟨by rfl, ?_⟩) (by assumption) ?_
  rotate_left
  · (intro w hSw; (try dsimp only at hSw); go_simp; (try with_reducible rfl))
  simp only [Act.put, List.setIfInBounds_toArray, List.set_cons_zero, List.set_cons_succ]
  refine wpAnyH_take (i := 18) (oi := { dst := some 61, op := Op.load 3 (Operand.tmp 60), type := 3, pos := "law.go:154", after := #[{ on := 17, ground := Ground.data }, { on := 12, ground := Ground.guard }], guard := some (12, false) }) (v := ?_) rfl (by kernel_rfl) (by kernel_rfl) (by kernel_rfl) (fun _ _ _ h => h) (Or.inl ⟨by rfl, ?_⟩) (by assumption) ?_
  rotate_left
  · (intro w hSw; (try dsimp only at hSw); go_simp; (try with_reducible rfl))
  simp only [Act.put, List.setIfInBounds_toArray, List.set_cons_zero, List.set_cons_succ]
  refine wpAnyH_take (i := 19) (oi := { dst := some 62, op := Op.fieldAddr 23 (Operand.tmp 4) 1, type := 0, pos := "law.go:154", after := #[{ on := 12, ground := Ground.guard }], guard := some (12, false) }) (v := ?_) rfl (by kernel_rfl) (by kernel_rfl) (by kernel_rfl) (fun _ _ _ h => h) (Or.inl ⟨by rfl, ?_⟩) (by assumption) ?_
  rotate_left
  · (intro w hSw; (try dsimp only at hSw); go_simp; (try with_reducible rfl))
  simp only [Act.put, List.setIfInBounds_toArray, List.set_cons_zero, List.set_cons_succ]
  refine wpAnyH_take (i := 20) (oi := { dst := some 63, op := Op.load 3 (Operand.tmp 62), type := 3, pos := "law.go:154", after := #[{ on := 19, ground := Ground.data }, { on := 12, ground := Ground.guard }], guard := some (12, false) }) (v := ?_) rfl (by kernel_rfl) (by kernel_rfl) (by kernel_rfl) (fun _ _ _ h => h) (Or.inl ⟨by rfl, ?_⟩) (by assumption) ?_
  rotate_left
  · (intro w hSw; (try dsimp only at hSw); go_simp; (try with_reducible rfl))
  simp only [Act.put, List.setIfInBounds_toArray, List.set_cons_zero, List.set_cons_succ]
  refine wpAnyH_ready (rs := [21]) (by kernel_rfl) (by simp) ?_
  refine AllReadyH.cons (o := { dst := some 64, op := Op.buildSlice 57 4 #[(0, Operand.tmp 57), (1, Operand.tmp 59), (2, Operand.tmp 61), (3, Operand.tmp 63)], type := 57, pos := "law.go:154", after := #[{ on := 14, ground := Ground.data }, { on := 16, ground := Ground.data }, { on := 18, ground := Ground.data }, { on := 20, ground := Ground.data }, { on := 12, ground := Ground.guard }], guard := some (12, false) }) rfl (fun K hK => ?_) AllReadyH.nil
  go_simp
  refine hK.out _ _ (by go_keep) (fun hHeld => ?_)
  clear hK K
  refine wpAnyH_ready (rs := [22]) (by kernel_rfl) (by simp) ?_
  refine AllReadyH.cons (o := { dst := some 65, op := Op.call { callee := Callee.value (Operand.func 15), args := #[Operand.tmp 64], argTypes := #[57] }, type := 4, pos := "law.go:154", after := #[{ on := 21, ground := Ground.data }, { on := 12, ground := Ground.chain }, { on := 12, ground := Ground.guard }], guard := some (12, false) }) rfl (fun K hK => ?_) AllReadyH.nil
  go_simp
  go_at_call 15; have _t := tok1; refine (small_four n1 d1 n2 d2 _ _ _ (by simp [go_sem]) (by simp [go_sem]) (by simp [go_sem]) (by simp [go_sem]) hS).mono ?_; rintro e w8 ⟨rfl, hb8⟩; clear tok1 _t; obtain ⟨hc8, hf8⟩ := bcell hb8; have y8 : w7.heap.size ≤ w8.heap.size := Nat.le_trans (by (first | exact Nat.le_refl _ | (simp <;> omega))) hb8.size; have fa8 : w.heap.size < w8.heap.size := (by omega); have fb8 : w.heap.size + 1 < w8.heap.size := (by omega); have fc8 : w.heap.size + 1 + 1 < w8.heap.size := (by omega)
  refine hK.out _ _ (by go_keep) (fun hHeld => ?_)
  clear hK K
  refine wpAnyH_take (i := 23) (oi := { dst := some 66, op := Op.move (Operand.tmp 65), type := 4, pos := "law.go:154", after := #[{ on := 22, ground := Ground.data }, { on := 22, ground := Ground.chain }, { on := 12, ground := Ground.guard }], guard := some (12, false) }) (v := ?_) rfl (by kernel_rfl) (by kernel_rfl) (by kernel_rfl) (fun _ _ _ h => h) (Or.inl ⟨by rfl, ?_⟩) (by assumption) ?_
  rotate_left
  · (intro w hSw; (try dsimp only at hSw); go_simp; (try with_reducible rfl))
  simp only [Act.put, List.setIfInBounds_toArray, List.set_cons_zero, List.set_cons_succ]
  refine wpAnyH_take (i := 24) (oi := { dst := some 67, op := Op.move (Operand.tmp 7), type := 3, pos := "law.go:154", after := #[{ on := 23, ground := Ground.guard }], guard := some (23, true) }) (v := ?_) rfl (by kernel_rfl) (by kernel_rfl) (by kernel_rfl) (fun _ _ _ h => h) (Or.inl ⟨by rfl, ?_⟩) (by assumption) ?_
  rotate_left
  · (intro w hSw; (try dsimp only at hSw); go_simp; (try with_reducible rfl))
  simp only [Act.put, List.setIfInBounds_toArray, List.set_cons_zero, List.set_cons_succ]
  refine wpAnyH_take (i := 25) (oi := { dst := some 68, op := Op.load 23 (Operand.tmp 3), type := 23, pos := "law.go:154", after := #[{ on := 23, ground := Ground.guard }], guard := some (23, true) }) (v := ?_) rfl (by kernel_rfl) (by kernel_rfl) (by kernel_rfl) (fun _ _ _ h => h) (Or.inl ⟨by rfl, ?_⟩) (by assumption) ?_
  rotate_left
  · (intro w hSw; (try dsimp only at hSw); go_simp; (try with_reducible rfl))
  simp only [Act.put, List.setIfInBounds_toArray, List.set_cons_zero, List.set_cons_succ]
  refine wpAnyH_take (i := 27) (oi := { dst := some 70, op := Op.load 23 (Operand.tmp 4), type := 23, pos := "law.go:154", after := #[{ on := 23, ground := Ground.guard }], guard := some (23, true) }) (v := ?_) rfl (by kernel_rfl) (by kernel_rfl) (by kernel_rfl) (fun _ _ _ h => h) (Or.inl ⟨by rfl, ?_⟩) (by assumption) ?_
  rotate_left
  · (intro w hSw; (try dsimp only at hSw); go_simp; (try with_reducible rfl))
  simp only [Act.put, List.setIfInBounds_toArray, List.set_cons_zero, List.set_cons_succ]
  refine wpAnyH_ready (rs := [26]) (by kernel_rfl) (by simp) ?_
  refine AllReadyH.cons (o := { dst := some 69, op := Op.call { callee := Callee.value (Operand.func 13), args := #[Operand.tmp 68], argTypes := #[23] }, type := 27, pos := "law.go:154", after := #[{ on := 25, ground := Ground.data }, { on := 23, ground := Ground.chain }, { on := 23, ground := Ground.guard }], guard := some (23, true) }) rfl (fun K hK => ?_) AllReadyH.nil
  go_simp
  go_at_call 13; have _t := tok2; refine (plain_any n1 d1 _).mono ?_; rintro e w9 ⟨rfl, hb9⟩; clear tok2 _t; obtain ⟨hc9, hf9⟩ := bcell hb9; have y9 : w8.heap.size ≤ w9.heap.size := Nat.le_trans (by (first | exact Nat.le_refl _ | (simp <;> omega))) hb9.size; have fa9 : w.heap.size < w9.heap.size := (by omega); have fb9 : w.heap.size + 1 < w9.heap.size := (by omega); have fc9 : w.heap.size + 1 + 1 < w9.heap.size := (by omega)
  refine hK.out _ _ (by go_keep) (fun hHeld => ?_)
  clear hK K
  refine wpAnyH_ready (rs := [28]) (by kernel_rfl) (by simp) ?_
  refine AllReadyH.cons (o := { dst := some 71, op := Op.call { callee := Callee.value (Operand.func 13), args := #[Operand.tmp 70], argTypes := #[23] }, type := 27, pos := "law.go:154", after := #[{ on := 27, ground := Ground.data }, { on := 26, ground := Ground.chain }, { on := 23, ground := Ground.guard }], guard := some (23, true) }) rfl (fun K hK => ?_) AllReadyH.nil
  go_simp
  go_at_call 13; have _t := tok3; refine (plain_any n2 d2 _).mono ?_; rintro e w10 ⟨rfl, hb10⟩; clear tok3 _t; obtain ⟨hc10, hf10⟩ := bcell hb10; have y10 : w9.heap.size ≤ w10.heap.size := Nat.le_trans (by (first | exact Nat.le_refl _ | (simp <;> omega))) hb10.size; have fa10 : w.heap.size < w10.heap.size := (by omega); have fb10 : w.heap.size + 1 < w10.heap.size := (by omega); have fc10 : w.heap.size + 1 + 1 < w10.heap.size := (by omega)
  refine hK.out _ _ (by go_keep) (fun hHeld => ?_)
  clear hK K
  refine wpAnyH_ready (rs := [29]) (by kernel_rfl) (by simp) ?_
  refine AllReadyH.cons (o := { dst := some 72, op := Op.call { callee := Callee.value (Operand.func 27), args := #[Operand.tmp 69, Operand.tmp 71], argTypes := #[27, 27] }, type := 3, pos := "law.go:154", after := #[{ on := 26, ground := Ground.data }, { on := 28, ground := Ground.data }, { on := 28, ground := Ground.chain }, { on := 23, ground := Ground.guard }], guard := some (23, true) }) rfl (fun K hK => ?_) AllReadyH.nil
  go_simp
  go_at_call 27; have _t := tok4; refine (hR _).mono ?_; rintro e w11 ⟨rfl, hb11⟩; clear tok4 _t; obtain ⟨hc11, hf11⟩ := bcell hb11; have y11 : w10.heap.size ≤ w11.heap.size := Nat.le_trans (by (first | exact Nat.le_refl _ | (simp <;> omega))) hb11.size; have fa11 : w.heap.size < w11.heap.size := (by omega); have fb11 : w.heap.size + 1 < w11.heap.size := (by omega); have fc11 : w.heap.size + 1 + 1 < w11.heap.size := (by omega)
  refine hK.out _ _ (by go_keep) (fun hHeld => ?_)
  clear hK K
  refine wpAnyH_take (i := 30) (oi := { dst := some 73, op := Op.binOp BinOp.neq 3 (Operand.tmp 67) (Operand.tmp 72) 3, type := 4, pos := "law.go:154", after := #[{ on := 24, ground := Ground.data }, { on := 29, ground := Ground.data }, { on := 23, ground := Ground.guard }], guard := some (23, true) }) (v := ?_) rfl (by kernel_rfl) (by kernel_rfl) (by kernel_rfl) (fun _ _ _ h => h) (Or.inl ⟨by rfl, ?_⟩) (by assumption) ?_
  rotate_left
  · (intro w hSw; (try dsimp only at hSw); go_simp; (try with_reducible rfl))
  simp only [Act.put, List.setIfInBounds_toArray, List.set_cons_zero, List.set_cons_succ]
  refine wpAnyH_take (i := 31) (oi := { dst := some 74, op := Op.pick (Operand.tmp 66) (Operand.tmp 73) (Operand.const (Value.bool false)), type := 4, pos := "law.go:154", after := #[{ on := 23, ground := Ground.data }, { on := 30, ground := Ground.data }, { on := 12, ground := Ground.guard }], guard := some (12, false) }) (v := ?_) rfl (by kernel_rfl) (by kernel_rfl) (by kernel_rfl) (fun _ _ _ h => h) (Or.inl ⟨by rfl, ?_⟩) (by assumption) ?_
  rotate_left
  · (intro w hSw; (try dsimp only at hSw); go_simp; (try with_reducible rfl))
  simp only [Act.put, List.setIfInBounds_toArray, List.set_cons_zero, List.set_cons_succ]
  refine wpAnyH_take (i := 32) (oi := { dst := some 75, op := Op.pick (Operand.tmp 55) (Operand.const (Value.bool true)) (Operand.tmp 74), type := 4, pos := "law.go:154", after := #[{ on := 12, ground := Ground.data }, { on := 31, ground := Ground.data }], guard := none }) (v := ?_) rfl (by kernel_rfl) (by kernel_rfl) (by kernel_rfl) (fun _ _ _ h => h) (Or.inl ⟨by rfl, ?_⟩) (by assumption) ?_
  rotate_left
  · (intro w hSw; (try dsimp only at hSw); go_simp; (try with_reducible rfl))
  simp only [Act.put, List.setIfInBounds_toArray, List.set_cons_zero, List.set_cons_succ]
  refine wpAnyH_done (by kernel_rfl) ?_ _
  replace k0 : w11.cell? ⟨w.heap.size, 0, none⟩ = some (.int .i64 n1) := by first | exact (keepc hb11 (keepc hb10 (keepc hb9 (keepc hb8 (keepd (keepa _ k0)))))) | exact (keepc hb11 (keepc hb10 (keepc hb9 (keepc hb8 (keepa _ (keepd k0))))))
  replace k1 : w11.cell? ⟨w.heap.size, 1, none⟩ = some (.int .i64 d1) := by first | exact (keepc hb11 (keepc hb10 (keepc hb9 (keepc hb8 (keepd (keepa _ k1)))))) | exact (keepc hb11 (keepc hb10 (keepc hb9 (keepc hb8 (keepa _ (keepd k1))))))
  replace k2 : w11.cell? ⟨w.heap.size + 1, 0, none⟩ = some (.int .i64 n2) := by first | exact (keepc hb11 (keepc hb10 (keepc hb9 (keepc hb8 (keepd (keepa _ k2)))))) | exact (keepc hb11 (keepc hb10 (keepc hb9 (keepc hb8 (keepa _ (keepd k2))))))
  replace k3 : w11.cell? ⟨w.heap.size + 1, 1, none⟩ = some (.int .i64 d2) := by first | exact (keepc hb11 (keepc hb10 (keepc hb9 (keepc hb8 (keepd (keepa _ k3)))))) | exact (keepc hb11 (keepc hb10 (keepc hb9 (keepc hb8 (keepa _ (keepd k3))))))
  replace k4 : w11.cell? ⟨w.heap.size + 1 + 1, 0, none⟩ = some (.int .i64 n3) := by first | exact (keepc hb11 (keepc hb10 (keepc hb9 (keepc hb8 (keepd (keepa _ k4)))))) | exact (keepc hb11 (keepc hb10 (keepc hb9 (keepc hb8 (keepa _ (keepd k4))))))
  replace k5 : w11.cell? ⟨w.heap.size + 1 + 1, 1, none⟩ = some (.int .i64 d3) := by first | exact (keepc hb11 (keepc hb10 (keepc hb9 (keepc hb8 (keepd (keepa _ k5)))))) | exact (keepc hb11 (keepc hb10 (keepc hb9 (keepc hb8 (keepa _ (keepd k5))))))
  replace kb : Below w.heap.size w w11 := (((((kb.drew.alloc kb.drew.size _).trans (hb8.mono (Nat.le_trans kb.size (by first | (simp; done) | exact Nat.le_succ _)))).trans (hb9.mono (by omega))).trans (hb10.mono (by omega))).trans (hb11.mono (by omega)))
  clear hHeld hz1 hz2 hz3 fd0 hb8 hc8 hf8 y8 fa8 fb8 fc8 hb9 hc9 hf9 y9 fa9 fb9 fc9 hb10 hc10 hf10 y10 fa10 fb10 fc10 hb11 hc11 hf11 y11 fa11 fb11 fc11
  rcases hrest with hx | ⟨hx, hy⟩ | ⟨hx, hy, hXY⟩
  · go_wp2_with fail
    refine (hVc _).mono ?_
    rintro e w12 ⟨rfl, hb12⟩
    replace k0 := keepc hb12 k0
    replace k1 := keepc hb12 k1
    replace k2 := keepc hb12 k2
    replace k3 := keepc hb12 k3
    replace k4 := keepc hb12 k4
    replace k5 := keepc hb12 k5
    replace kb : Below w.heap.size w w12 := kb.trans (hb12.mono (Nat.le_trans kb.size (by simp)))
    clear hb12
    go_wp2_with fail
    refine (hX _).mono ?_
    rintro e w13 ⟨rfl, hb13⟩
    replace k0 := keepc hb13 k0
    replace k1 := keepc hb13 k1
    replace k2 := keepc hb13 k2
    replace k3 := keepc hb13 k3
    replace k4 := keepc hb13 k4
    replace k5 := keepc hb13 k5
    replace kb : Below w.heap.size w w13 := kb.trans (hb13.mono (Nat.le_trans kb.size (by simp)))
    clear hb13
    go_wp2_with fail
    refine (hY _).mono ?_
    rintro e w14 ⟨rfl, hb14⟩
    replace k0 := keepc hb14 (keepa _ k0)
    replace k1 := keepc hb14 (keepa _ k1)
    replace k2 := keepc hb14 (keepa _ k2)
    replace k3 := keepc hb14 (keepa _ k3)
    replace k4 := keepc hb14 (keepa _ k4)
    replace k5 := keepc hb14 (keepa _ k5)
    have k6 : w14.cell? ⟨w13.heap.size, 0, none⟩ = some (.int .i64 x1) := keepc hb14 (by simp [go_sem])
    have k7 : w14.cell? ⟨w13.heap.size, 1, none⟩ = some (.int .i64 x2) := keepc hb14 (by simp [go_sem])
    replace kb : Below w.heap.size w w14 := (kb.alloc (Nat.le_trans kb.size (by simp)) _).trans (hb14.mono (Nat.le_trans kb.size (by simp)))
    clear hb14
    go_wp2_with fail
    go_ret
    exact ⟨rfl, (kb.alloc (Nat.le_trans kb.size (by simp)) _)⟩
  · go_wp2_with fail
    refine (hVc _).mono ?_
    rintro e w12 ⟨rfl, hb12⟩
    replace k0 := keepc hb12 k0
    replace k1 := keepc hb12 k1
    replace k2 := keepc hb12 k2
    replace k3 := keepc hb12 k3
    replace k4 := keepc hb12 k4
    replace k5 := keepc hb12 k5
    replace kb : Below w.heap.size w w12 := kb.trans (hb12.mono (Nat.le_trans kb.size (by simp)))
    clear hb12
    go_wp2_with fail
    refine (hX _).mono ?_
    rintro e w13 ⟨rfl, hb13⟩
    replace k0 := keepc hb13 k0
    replace k1 := keepc hb13 k1
    replace k2 := keepc hb13 k2
    replace k3 := keepc hb13 k3
    replace k4 := keepc hb13 k4
    replace k5 := keepc hb13 k5
    replace kb : Below w.heap.size w w13 := kb.trans (hb13.mono (Nat.le_trans kb.size (by simp)))
    clear hb13
    go_wp2_with fail
    refine (hY _).mono ?_
    rintro e w14 ⟨rfl, hb14⟩
    replace k0 := keepc hb14 (keepa _ k0)
    replace k1 := keepc hb14 (keepa _ k1)
    replace k2 := keepc hb14 (keepa _ k2)
    replace k3 := keepc hb14 (keepa _ k3)
    replace k4 := keepc hb14 (keepa _ k4)
    replace k5 := keepc hb14 (keepa _ k5)
    have k6 : w14.cell? ⟨w13.heap.size, 0, none⟩ = some (.int .i64 x1) := keepc hb14 (by simp [go_sem])
    have k7 : w14.cell? ⟨w13.heap.size, 1, none⟩ = some (.int .i64 x2) := keepc hb14 (by simp [go_sem])
    replace kb : Below w.heap.size w w14 := (kb.alloc (Nat.le_trans kb.size (by simp)) _).trans (hb14.mono (Nat.le_trans kb.size (by simp)))
    clear hb14
    go_wp2_with fail
    go_ret
    exact ⟨rfl, (kb.alloc (Nat.le_trans kb.size (by simp)) _)⟩
  · go_wp2_with fail
    refine (hVc _).mono ?_
    rintro e w12 ⟨rfl, hb12⟩
    replace k0 := keepc hb12 k0
    replace k1 := keepc hb12 k1
    replace k2 := keepc hb12 k2
    replace k3 := keepc hb12 k3
    replace k4 := keepc hb12 k4
    replace k5 := keepc hb12 k5
    replace kb : Below w.heap.size w w12 := kb.trans (hb12.mono (Nat.le_trans kb.size (by simp)))
    clear hb12
    go_wp2_with fail
    refine (hX _).mono ?_
    rintro e w13 ⟨rfl, hb13⟩
    replace k0 := keepc hb13 k0
    replace k1 := keepc hb13 k1
    replace k2 := keepc hb13 k2
    replace k3 := keepc hb13 k3
    replace k4 := keepc hb13 k4
    replace k5 := keepc hb13 k5
    replace kb : Below w.heap.size w w13 := kb.trans (hb13.mono (Nat.le_trans kb.size (by simp)))
    clear hb13
    go_wp2_with fail
    refine (hY _).mono ?_
    rintro e w14 ⟨rfl, hb14⟩
    replace k0 := keepc hb14 (keepa _ k0)
    replace k1 := keepc hb14 (keepa _ k1)
    replace k2 := keepc hb14 (keepa _ k2)
    replace k3 := keepc hb14 (keepa _ k3)
    replace k4 := keepc hb14 (keepa _ k4)
    replace k5 := keepc hb14 (keepa _ k5)
    have k6 : w14.cell? ⟨w13.heap.size, 0, none⟩ = some (.int .i64 x1) := keepc hb14 (by simp [go_sem])
    have k7 : w14.cell? ⟨w13.heap.size, 1, none⟩ = some (.int .i64 x2) := keepc hb14 (by simp [go_sem])
    replace kb : Below w.heap.size w w14 := (kb.alloc (Nat.le_trans kb.size (by simp)) _).trans (hb14.mono (Nat.le_trans kb.size (by simp)))
    clear hb14
    go_wp2_with fail
    refine (hXY _).mono ?_
    rintro e w15 ⟨rfl, hb15⟩
    replace k0 := keepc hb15 (keepa _ k0)
    replace k1 := keepc hb15 (keepa _ k1)
    replace k2 := keepc hb15 (keepa _ k2)
    replace k3 := keepc hb15 (keepa _ k3)
    replace k4 := keepc hb15 (keepa _ k4)
    replace k5 := keepc hb15 (keepa _ k5)
    replace k6 := keepc hb15 (keepa _ k6)
    replace k7 := keepc hb15 (keepa _ k7)
    have k8 : w15.cell? ⟨w14.heap.size, 0, none⟩ = some (.int .i64 y1) := keepc hb15 (by simp [go_sem])
    have k9 : w15.cell? ⟨w14.heap.size, 1, none⟩ = some (.int .i64 y2) := keepc hb15 (by simp [go_sem])
    replace kb : Below w.heap.size w w15 := (kb.alloc (Nat.le_trans kb.size (by simp)) _).trans (hb15.mono (Nat.le_trans kb.size (by simp)))
    clear hb15
    go_wp2_with fail
    go_ret
    exact ⟨rfl, kb⟩
end Go.Proofs.Ytokcgfpnokeanaa
