/- RationalOrders: Cmp is an order that adding a number preserves. -/
import Derived.Test.YtokcgfpnokeanaaRatZ
namespace Go.Proofs.Ytokcgfpnokeanaa
open Go.RowKit Go.Shelf

theorem keepd {w : World} {a : Addr} {v : Value} (h : w.cell? a = some v) : w.drew.cell? a = some v := h
def RCmpTo (a b c d r : Int) : Prop := ∀ w : World, Calls Try.prog 27 #[.agg #[.int .i64 a, .int .i64 b], .agg #[.int .i64 c, .int .i64 d]] w fun e w' => e = .returned (.int .i64 r) ∧ Below w.heap.size w w'

set_option maxRecDepth 100000 in
set_option maxHeartbeats 4000000 in
theorem orders_bad1 (n1 d1 n2 d2 n3 d3 bc ac : Int) (hAB : CmpTo n1 d1 n2 d2 0) (hBA : CmpTo n2 d2 n1 d1 0) (hBC : CmpTo n2 d2 n3 d3 bc) (hAC : CmpTo n1 d1 n3 d3 ac) (hV1 : ValidTo n1 d1 false) (w : World) :
    Calls Try.prog 7 #[.agg #[.int .i64 n1, .int .i64 d1], .agg #[.int .i64 n2, .int .i64 d2], .agg #[.int .i64 n3, .int .i64 d3]] w fun e w' => e = .returned (.bool true) ∧ Below w.heap.size w w' := by
  have hka := @World.cell?_alloc_some
  have hds : ∀ x : World, x.drew.heap.size = x.heap.size := fun _ => rfl
  go_enter Try.func7, Try.ntmps7
  go_wp2_with fail
  refine (awake_any _).mono ?_
  rintro e w1 ⟨rfl, hb1⟩
  have k0 : w1.cell? ⟨w.heap.size, 0, none⟩ = some (.int .i64 n1) := keepc hb1 (by simp [go_sem])
  have k1 : w1.cell? ⟨w.heap.size, 1, none⟩ = some (.int .i64 d1) := keepc hb1 (by simp [go_sem])
  have k2 : w1.cell? ⟨w.heap.size + 1, 0, none⟩ = some (.int .i64 n2) := keepc hb1 (by simp [go_sem])
  have k3 : w1.cell? ⟨w.heap.size + 1, 1, none⟩ = some (.int .i64 d2) := keepc hb1 (by simp [go_sem])
  have k4 : w1.cell? ⟨w.heap.size + 1 + 1, 0, none⟩ = some (.int .i64 n3) := keepc hb1 (by simp [go_sem])
  have k5 : w1.cell? ⟨w.heap.size + 1 + 1, 1, none⟩ = some (.int .i64 d3) := keepc hb1 (by simp [go_sem])
  have kb : Below w.heap.size w w1 := ((((Below.refl w.heap.size w).alloc (by (try simp) <;> omega) _).alloc (by (try simp) <;> omega) _).alloc (by (try simp) <;> omega) _).trans (hb1.mono (by (try simp) <;> omega))
  clear hb1
  go_wp2_with fail
  have hz1 := block_lt k0
  have hz2 := block_lt k2
  have hz3 := block_lt k4
  have tok1 : True := trivial
  have tok2 : True := trivial
  have tok3 : True := trivial
  have tok4 : True := trivial
  go_region_held3 (fun w' => w'.cell? ⟨w.heap.size, 0, none⟩ = some (.int .i64 n1) ∧ w'.cell? ⟨w.heap.size, 1, none⟩ = some (.int .i64 d1) ∧ w'.cell? ⟨w.heap.size + 1, 0, none⟩ = some (.int .i64 n2) ∧ w'.cell? ⟨w.heap.size + 1, 1, none⟩ = some (.int .i64 d2) ∧ w'.cell? ⟨w.heap.size + 1 + 1, 0, none⟩ = some (.int .i64 n3) ∧ w'.cell? ⟨w.heap.size + 1 + 1, 1, none⟩ = some (.int .i64 d3)) (first | go_keep)
    (first | (go_at_call 26; have _t := tok1; refine (hAB _).mono ?_; rintro e w2 ⟨rfl, hb2⟩; clear tok1 _t; obtain ⟨hc2, hf2⟩ := bcell hb2; have y2 : w1.heap.size ≤ w2.heap.size := Nat.le_trans (by (first | exact Nat.le_refl _ | (simp <;> omega))) hb2.size; have fa2 : w.heap.size < w2.heap.size := (by omega); have fb2 : w.heap.size + 1 < w2.heap.size := (by omega); have fc2 : w.heap.size + 1 + 1 < w2.heap.size := (by omega)) | (go_at_call 26; have _t := tok2; refine (hBA _).mono ?_; rintro e w3 ⟨rfl, hb3⟩; clear tok2 _t; obtain ⟨hc3, hf3⟩ := bcell hb3; have y3 : w2.heap.size ≤ w3.heap.size := Nat.le_trans (by (first | exact Nat.le_refl _ | (simp <;> omega))) hb3.size; have fa3 : w.heap.size < w3.heap.size := (by omega); have fb3 : w.heap.size + 1 < w3.heap.size := (by omega); have fc3 : w.heap.size + 1 + 1 < w3.heap.size := (by omega)) | (go_at_call 26; have _t := tok3; refine (hBC _).mono ?_; rintro e w4 ⟨rfl, hb4⟩; clear tok3 _t; obtain ⟨hc4, hf4⟩ := bcell hb4; have y4 : w3.heap.size ≤ w4.heap.size := Nat.le_trans (by (first | exact Nat.le_refl _ | (simp <;> omega))) hb4.size; have fa4 : w.heap.size < w4.heap.size := (by omega); have fb4 : w.heap.size + 1 < w4.heap.size := (by omega); have fc4 : w.heap.size + 1 + 1 < w4.heap.size := (by omega)) | (go_at_call 26; have _t := tok4; refine (hAC _).mono ?_; rintro e w5 ⟨rfl, hb5⟩; clear tok4 _t; obtain ⟨hc5, hf5⟩ := bcell hb5; have y5 : w4.heap.size ≤ w5.heap.size := Nat.le_trans (by (first | exact Nat.le_refl _ | (simp <;> omega))) hb5.size; have fa5 : w.heap.size < w5.heap.size := (by omega); have fb5 : w.heap.size + 1 < w5.heap.size := (by omega); have fc5 : w.heap.size + 1 + 1 < w5.heap.size := (by omega)))
  replace k0 : w5.cell? ⟨w.heap.size, 0, none⟩ = some (.int .i64 n1) := (keepc hb5 (keepc hb4 (keepc hb3 (keepc hb2 (keepd k0)))))
  replace k1 : w5.cell? ⟨w.heap.size, 1, none⟩ = some (.int .i64 d1) := (keepc hb5 (keepc hb4 (keepc hb3 (keepc hb2 (keepd k1)))))
  replace k2 : w5.cell? ⟨w.heap.size + 1, 0, none⟩ = some (.int .i64 n2) := (keepc hb5 (keepc hb4 (keepc hb3 (keepc hb2 (keepd k2)))))
  replace k3 : w5.cell? ⟨w.heap.size + 1, 1, none⟩ = some (.int .i64 d2) := (keepc hb5 (keepc hb4 (keepc hb3 (keepc hb2 (keepd k3)))))
  replace k4 : w5.cell? ⟨w.heap.size + 1 + 1, 0, none⟩ = some (.int .i64 n3) := (keepc hb5 (keepc hb4 (keepc hb3 (keepc hb2 (keepd k4)))))
  replace k5 : w5.cell? ⟨w.heap.size + 1 + 1, 1, none⟩ = some (.int .i64 d3) := (keepc hb5 (keepc hb4 (keepc hb3 (keepc hb2 (keepd k5)))))
  replace kb : Below w.heap.size w w5 := (((kb.drew.trans (hb2.mono kb.size)).trans (hb3.mono (by omega))).trans (hb4.mono (by omega))).trans (hb5.mono (by omega))
  clear hb2 hb3 hb4 hb5 hc2 hf2 hc3 hf3 hc4 hf4 hc5 hf5 hz1 hz2 hz3 y2 y3 y4 y5 fa2 fb2 fc2 fa3 fb3 fc3 fa4 fb4 fc4 fa5 fb5 fc5
  go_wp2_with fail
  refine (hV1 _).mono ?_
  rintro e w6 ⟨rfl, hb6⟩
  replace k0 := keepc hb6 k0
  replace k1 := keepc hb6 k1
  replace k2 := keepc hb6 k2
  replace k3 := keepc hb6 k3
  replace k4 := keepc hb6 k4
  replace k5 := keepc hb6 k5
  replace kb : Below w.heap.size w w6 := kb.trans (hb6.mono (Nat.le_trans kb.size (by simp)))
  clear hb6
  go_wp2_with fail
  go_ret
  exact ⟨rfl, kb⟩

set_option maxRecDepth 100000 in
set_option maxHeartbeats 4000000 in
theorem orders_bad2 (n1 d1 n2 d2 n3 d3 bc ac : Int) (hAB : CmpTo n1 d1 n2 d2 0) (hBA : CmpTo n2 d2 n1 d1 0) (hBC : CmpTo n2 d2 n3 d3 bc) (hAC : CmpTo n1 d1 n3 d3 ac) (hV1 : ValidTo n1 d1 true) (hV2 : ValidTo n2 d2 false) (w : World) :
    Calls Try.prog 7 #[.agg #[.int .i64 n1, .int .i64 d1], .agg #[.int .i64 n2, .int .i64 d2], .agg #[.int .i64 n3, .int .i64 d3]] w fun e w' => e = .returned (.bool true) ∧ Below w.heap.size w w' := by
  have hka := @World.cell?_alloc_some
  have hds : ∀ x : World, x.drew.heap.size = x.heap.size := fun _ => rfl
  go_enter Try.func7, Try.ntmps7
  go_wp2_with fail
  refine (awake_any _).mono ?_
  rintro e w1 ⟨rfl, hb1⟩
  have k0 : w1.cell? ⟨w.heap.size, 0, none⟩ = some (.int .i64 n1) := keepc hb1 (by simp [go_sem])
  have k1 : w1.cell? ⟨w.heap.size, 1, none⟩ = some (.int .i64 d1) := keepc hb1 (by simp [go_sem])
  have k2 : w1.cell? ⟨w.heap.size + 1, 0, none⟩ = some (.int .i64 n2) := keepc hb1 (by simp [go_sem])
  have k3 : w1.cell? ⟨w.heap.size + 1, 1, none⟩ = some (.int .i64 d2) := keepc hb1 (by simp [go_sem])
  have k4 : w1.cell? ⟨w.heap.size + 1 + 1, 0, none⟩ = some (.int .i64 n3) := keepc hb1 (by simp [go_sem])
  have k5 : w1.cell? ⟨w.heap.size + 1 + 1, 1, none⟩ = some (.int .i64 d3) := keepc hb1 (by simp [go_sem])
  have kb : Below w.heap.size w w1 := ((((Below.refl w.heap.size w).alloc (by (try simp) <;> omega) _).alloc (by (try simp) <;> omega) _).alloc (by (try simp) <;> omega) _).trans (hb1.mono (by (try simp) <;> omega))
  clear hb1
  go_wp2_with fail
  have hz1 := block_lt k0
  have hz2 := block_lt k2
  have hz3 := block_lt k4
  have tok1 : True := trivial
  have tok2 : True := trivial
  have tok3 : True := trivial
  have tok4 : True := trivial
  go_region_held3 (fun w' => w'.cell? ⟨w.heap.size, 0, none⟩ = some (.int .i64 n1) ∧ w'.cell? ⟨w.heap.size, 1, none⟩ = some (.int .i64 d1) ∧ w'.cell? ⟨w.heap.size + 1, 0, none⟩ = some (.int .i64 n2) ∧ w'.cell? ⟨w.heap.size + 1, 1, none⟩ = some (.int .i64 d2) ∧ w'.cell? ⟨w.heap.size + 1 + 1, 0, none⟩ = some (.int .i64 n3) ∧ w'.cell? ⟨w.heap.size + 1 + 1, 1, none⟩ = some (.int .i64 d3)) (first | go_keep)
    (first | (go_at_call 26; have _t := tok1; refine (hAB _).mono ?_; rintro e w2 ⟨rfl, hb2⟩; clear tok1 _t; obtain ⟨hc2, hf2⟩ := bcell hb2; have y2 : w1.heap.size ≤ w2.heap.size := Nat.le_trans (by (first | exact Nat.le_refl _ | (simp <;> omega))) hb2.size; have fa2 : w.heap.size < w2.heap.size := (by omega); have fb2 : w.heap.size + 1 < w2.heap.size := (by omega); have fc2 : w.heap.size + 1 + 1 < w2.heap.size := (by omega)) | (go_at_call 26; have _t := tok2; refine (hBA _).mono ?_; rintro e w3 ⟨rfl, hb3⟩; clear tok2 _t; obtain ⟨hc3, hf3⟩ := bcell hb3; have y3 : w2.heap.size ≤ w3.heap.size := Nat.le_trans (by (first | exact Nat.le_refl _ | (simp <;> omega))) hb3.size; have fa3 : w.heap.size < w3.heap.size := (by omega); have fb3 : w.heap.size + 1 < w3.heap.size := (by omega); have fc3 : w.heap.size + 1 + 1 < w3.heap.size := (by omega)) | (go_at_call 26; have _t := tok3; refine (hBC _).mono ?_; rintro e w4 ⟨rfl, hb4⟩; clear tok3 _t; obtain ⟨hc4, hf4⟩ := bcell hb4; have y4 : w3.heap.size ≤ w4.heap.size := Nat.le_trans (by (first | exact Nat.le_refl _ | (simp <;> omega))) hb4.size; have fa4 : w.heap.size < w4.heap.size := (by omega); have fb4 : w.heap.size + 1 < w4.heap.size := (by omega); have fc4 : w.heap.size + 1 + 1 < w4.heap.size := (by omega)) | (go_at_call 26; have _t := tok4; refine (hAC _).mono ?_; rintro e w5 ⟨rfl, hb5⟩; clear tok4 _t; obtain ⟨hc5, hf5⟩ := bcell hb5; have y5 : w4.heap.size ≤ w5.heap.size := Nat.le_trans (by (first | exact Nat.le_refl _ | (simp <;> omega))) hb5.size; have fa5 : w.heap.size < w5.heap.size := (by omega); have fb5 : w.heap.size + 1 < w5.heap.size := (by omega); have fc5 : w.heap.size + 1 + 1 < w5.heap.size := (by omega)))
  replace k0 : w5.cell? ⟨w.heap.size, 0, none⟩ = some (.int .i64 n1) := (keepc hb5 (keepc hb4 (keepc hb3 (keepc hb2 (keepd k0)))))
  replace k1 : w5.cell? ⟨w.heap.size, 1, none⟩ = some (.int .i64 d1) := (keepc hb5 (keepc hb4 (keepc hb3 (keepc hb2 (keepd k1)))))
  replace k2 : w5.cell? ⟨w.heap.size + 1, 0, none⟩ = some (.int .i64 n2) := (keepc hb5 (keepc hb4 (keepc hb3 (keepc hb2 (keepd k2)))))
  replace k3 : w5.cell? ⟨w.heap.size + 1, 1, none⟩ = some (.int .i64 d2) := (keepc hb5 (keepc hb4 (keepc hb3 (keepc hb2 (keepd k3)))))
  replace k4 : w5.cell? ⟨w.heap.size + 1 + 1, 0, none⟩ = some (.int .i64 n3) := (keepc hb5 (keepc hb4 (keepc hb3 (keepc hb2 (keepd k4)))))
  replace k5 : w5.cell? ⟨w.heap.size + 1 + 1, 1, none⟩ = some (.int .i64 d3) := (keepc hb5 (keepc hb4 (keepc hb3 (keepc hb2 (keepd k5)))))
  replace kb : Below w.heap.size w w5 := (((kb.drew.trans (hb2.mono kb.size)).trans (hb3.mono (by omega))).trans (hb4.mono (by omega))).trans (hb5.mono (by omega))
  clear hb2 hb3 hb4 hb5 hc2 hf2 hc3 hf3 hc4 hf4 hc5 hf5 hz1 hz2 hz3 y2 y3 y4 y5 fa2 fb2 fc2 fa3 fb3 fc3 fa4 fb4 fc4 fa5 fb5 fc5
  go_wp2_with fail
  refine (hV1 _).mono ?_
  rintro e w6 ⟨rfl, hb6⟩
  replace k0 := keepc hb6 k0
  replace k1 := keepc hb6 k1
  replace k2 := keepc hb6 k2
  replace k3 := keepc hb6 k3
  replace k4 := keepc hb6 k4
  replace k5 := keepc hb6 k5
  replace kb : Below w.heap.size w w6 := kb.trans (hb6.mono (Nat.le_trans kb.size (by simp)))
  clear hb6
  go_wp2_with fail
  refine (hV2 _).mono ?_
  rintro e w7 ⟨rfl, hb7⟩
  replace k0 := keepc hb7 k0
  replace k1 := keepc hb7 k1
  replace k2 := keepc hb7 k2
  replace k3 := keepc hb7 k3
  replace k4 := keepc hb7 k4
  replace k5 := keepc hb7 k5
  replace kb : Below w.heap.size w w7 := kb.trans (hb7.mono (Nat.le_trans kb.size (by simp)))
  clear hb7
  go_wp2_with fail
  go_ret
  exact ⟨rfl, kb⟩
end Go.Proofs.Ytokcgfpnokeanaa
