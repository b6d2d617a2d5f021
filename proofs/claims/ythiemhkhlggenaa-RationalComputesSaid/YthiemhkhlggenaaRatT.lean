/- RationalFloors: Floor is the greatest integer that is at most the number. -/
import Derived.Test.YthiemhkhlggenaaRatS2
import Derived.Test.YthiemhkhlggenaaRatU
namespace Go.Proofs.Ythiemhkhlggenaa
open Go.RowKit Go.Shelf

def FloorTo (a b r : Int) : Prop := ∀ w : World, Calls Try.prog 28 #[.agg #[.int .i64 a, .int .i64 b]] w fun e w' => e = .returned (.int .i64 r) ∧ Below w.heap.size w w'
def RFloorTo (a b r : Int) : Prop := ∀ w : World, Calls Try.prog 29 #[.agg #[.int .i64 a, .int .i64 b]] w fun e w' => e = .returned (.int .i64 r) ∧ Below w.heap.size w w'
theorem small_two (a b : Int) (p c : Nat) (w : World) (h0 : w.cell? ⟨p, 0, none⟩ = some (.int .i64 a)) (h1 : w.cell? ⟨p, 1, none⟩ = some (.int .i64 b)) {r : Bool} (hr : smallB [a, b] = r) :
    Calls Try.prog 15 #[.slice (some ⟨p, 0, none⟩) 2 c] w fun e w' => e = .returned (.bool r) ∧ Below w.heap.size w w' :=
  (small_any [a, b] p c w (fun i h => by match i, h with | 0, _ => exact h0 | 1, _ => exact h1) (by simp)).mono fun e w' ⟨he, hw⟩ => ⟨by rw [he, hr], hw ▸ Below.refl _ _⟩
theorem small_four (a b c d : Int) (p q : Nat) (w : World) (h0 : w.cell? ⟨p, 0, none⟩ = some (.int .i64 a)) (h1 : w.cell? ⟨p, 1, none⟩ = some (.int .i64 b)) (h2 : w.cell? ⟨p, 2, none⟩ = some (.int .i64 c)) (h3 : w.cell? ⟨p, 3, none⟩ = some (.int .i64 d)) {r : Bool} (hr : smallB [a, b, c, d] = r) :
    Calls Try.prog 15 #[.slice (some ⟨p, 0, none⟩) 4 q] w fun e w' => e = .returned (.bool r) ∧ Below w.heap.size w w' :=
  (small_any [a, b, c, d] p q w (fun i h => by match i, h with | 0, _ => exact h0 | 1, _ => exact h1 | 2, _ => exact h2 | 3, _ => exact h3) (by simp)).mono fun e w' ⟨he, hw⟩ => ⟨by rw [he, hr], hw ▸ Below.refl _ _⟩

set_option maxHeartbeats 1000000 in
theorem floors_bad (n1 d1 : Int) (hF : FloorTo n1 d1 0) (hV : ValidTo n1 d1 false) (w : World) :
    Calls Try.prog 8 #[.agg #[.int .i64 n1, .int .i64 d1]] w fun e w' => e = .returned (.bool true) ∧ Below w.heap.size w w' := by
  have hka := @World.cell?_alloc_some
  go_enter Try.func8, Try.ntmps8
  go_wp2_with fail
  refine (awake_any _).mono ?_
  rintro e w1 ⟨rfl, hb1⟩
  have k0 : w1.cell? ⟨w.heap.size, 0, none⟩ = some (.int .i64 n1) := keepc hb1 (by simp [go_sem])
  have k1 : w1.cell? ⟨w.heap.size, 1, none⟩ = some (.int .i64 d1) := keepc hb1 (by simp [go_sem])
  have kb : Below w.heap.size w w1 := ((Below.refl w.heap.size w).alloc (by (try simp) <;> omega) _).trans (hb1.mono (by (try simp) <;> omega))
  clear hb1
  go_wp2_with fail
  refine (hF _).mono ?_
  rintro e w2 ⟨rfl, hb2⟩
  replace k0 := keepc hb2 k0
  replace k1 := keepc hb2 k1
  replace kb : Below w.heap.size w w2 := kb.trans (hb2.mono (Nat.le_trans kb.size (by simp)))
  clear hb2
  go_wp2_with fail
  refine (hV _).mono ?_
  rintro e w3 ⟨rfl, hb3⟩
  replace k0 := keepc hb3 k0
  replace k1 := keepc hb3 k1
  replace kb : Below w.heap.size w w3 := kb.trans (hb3.mono (Nat.le_trans kb.size (by simp)))
  clear hb3
  go_wp2_with fail
  go_ret
  exact ⟨rfl, kb⟩

set_option maxHeartbeats 1000000 in
theorem floors_true_top (n1 d1 q c : Int) (hF : FloorTo n1 d1 q) (hV : ValidTo n1 d1 true) (hS : smallB [n1, d1] = true) (hR : RFloorTo n1 d1 q) (q0 : -1152921504606846976 ≤ q) (q1 : q ≤ 1152921504606846976) (hC : CmpTo q 1 n1 d1 c) (hc : c ≤ 0) (hq : (q == 1152921504606846976) = true) (w : World) :
    Calls Try.prog 8 #[.agg #[.int .i64 n1, .int .i64 d1]] w fun e w' => e = .returned (.bool true) ∧ Below w.heap.size w w' := by
  have hka := @World.cell?_alloc_some
  go_enter Try.func8, Try.ntmps8
  go_wp2_with fail
  refine (awake_any _).mono ?_
  rintro e w1 ⟨rfl, hb1⟩
  have k0 : w1.cell? ⟨w.heap.size, 0, none⟩ = some (.int .i64 n1) := keepc hb1 (by simp [go_sem])
  have k1 : w1.cell? ⟨w.heap.size, 1, none⟩ = some (.int .i64 d1) := keepc hb1 (by simp [go_sem])
  have kb : Below w.heap.size w w1 := ((Below.refl w.heap.size w).alloc (by (try simp) <;> omega) _).trans (hb1.mono (by (try simp) <;> omega))
  clear hb1
  go_wp2_with fail
  refine (hF _).mono ?_
  rintro e w2 ⟨rfl, hb2⟩
  replace k0 := keepc hb2 k0
  replace k1 := keepc hb2 k1
  replace kb : Below w.heap.size w w2 := kb.trans (hb2.mono (Nat.le_trans kb.size (by simp)))
  clear hb2
  go_wp2_with fail
  refine (hV _).mono ?_
  rintro e w3 ⟨rfl, hb3⟩
  replace k0 := keepc hb3 k0
  replace k1 := keepc hb3 k1
  replace kb : Below w.heap.size w w3 := kb.trans (hb3.mono (Nat.le_trans kb.size (by simp)))
  clear hb3
  go_wp2_with fail
  refine (small_two n1 d1 _ _ _ (by simp [go_sem]) (by simp [go_sem]) hS).mono ?_
  rintro e w4 ⟨rfl, hb4⟩
  replace k0 := keepc hb4 (keepa _ k0)
  replace k1 := keepc hb4 (keepa _ k1)
  have k2 : w4.cell? ⟨w3.heap.size, 0, none⟩ = some (.int .i64 n1) := keepc hb4 (by simp [go_sem])
  have k3 : w4.cell? ⟨w3.heap.size, 1, none⟩ = some (.int .i64 d1) := keepc hb4 (by simp [go_sem])
  replace kb : Below w.heap.size w w4 := (kb.alloc (Nat.le_trans kb.size (by simp)) _).trans (hb4.mono (Nat.le_trans kb.size (by simp)))
  clear hb4
  go_wp2_with fail
  refine (plain_any n1 d1 _).mono ?_
  rintro e w5 ⟨rfl, hb5⟩
  replace k0 := keepc hb5 k0
  replace k1 := keepc hb5 k1
  replace k2 := keepc hb5 k2
  replace k3 := keepc hb5 k3
  replace kb : Below w.heap.size w w5 := kb.trans (hb5.mono (Nat.le_trans kb.size (by simp)))
  clear hb5
  go_wp2_with fail
  refine (hR _).mono ?_
  rintro e w6 ⟨rfl, hb6⟩
  replace k0 := keepc hb6 k0
  replace k1 := keepc hb6 k1
  replace k2 := keepc hb6 k2
  replace k3 := keepc hb6 k3
  replace kb : Below w.heap.size w w6 := kb.trans (hb6.mono (Nat.le_trans kb.size (by simp)))
  clear hb6
  go_wp2_with fail
  refine (hC _).mono ?_
  rintro e w7 ⟨rfl, hb7⟩
  replace k0 := keepc hb7 k0
  replace k1 := keepc hb7 k1
  replace k2 := keepc hb7 k2
  replace k3 := keepc hb7 k3
  replace kb : Below w.heap.size w w7 := kb.trans (hb7.mono (Nat.le_trans kb.size (by simp)))
  clear hb7
  go_wp2_with fail
  go_ret
  exact ⟨rfl, kb⟩

set_option maxHeartbeats 1000000 in
theorem floors_true_in (n1 d1 q c : Int) (hF : FloorTo n1 d1 q) (hV : ValidTo n1 d1 true) (hS : smallB [n1, d1] = true) (hR : RFloorTo n1 d1 q) (q0 : -1152921504606846976 ≤ q) (q1 : q ≤ 1152921504606846976) (hC : CmpTo q 1 n1 d1 c) (hc : c ≤ 0) (hq : (q == 1152921504606846976) = false) (hD : CmpTo (q + 1) 1 n1 d1 1) (q2 : q + 1 ≤ 1152921504606846976) (w : World) :
    Calls Try.prog 8 #[.agg #[.int .i64 n1, .int .i64 d1]] w fun e w' => e = .returned (.bool true) ∧ Below w.heap.size w w' := by
  have hka := @World.cell?_alloc_some
  go_enter Try.func8, Try.ntmps8
  go_wp2_with fail
  refine (awake_any _).mono ?_
  rintro e w1 ⟨rfl, hb1⟩
  have k0 : w1.cell? ⟨w.heap.size, 0, none⟩ = some (.int .i64 n1) := keepc hb1 (by simp [go_sem])
  have k1 : w1.cell? ⟨w.heap.size, 1, none⟩ = some (.int .i64 d1) := keepc hb1 (by simp [go_sem])
  have kb : Below w.heap.size w w1 := ((Below.refl w.heap.size w).alloc (by (try simp) <;> omega) _).trans (hb1.mono (by (try simp) <;> omega))
  clear hb1
  go_wp2_with fail
  refine (hF _).mono ?_
  rintro e w2 ⟨rfl, hb2⟩
  replace k0 := keepc hb2 k0
  replace k1 := keepc hb2 k1
  replace kb : Below w.heap.size w w2 := kb.trans (hb2.mono (Nat.le_trans kb.size (by simp)))
  clear hb2
  go_wp2_with fail
  refine (hV _).mono ?_
  rintro e w3 ⟨rfl, hb3⟩
  replace k0 := keepc hb3 k0
  replace k1 := keepc hb3 k1
  replace kb : Below w.heap.size w w3 := kb.trans (hb3.mono (Nat.le_trans kb.size (by simp)))
  clear hb3
  go_wp2_with fail
  refine (small_two n1 d1 _ _ _ (by simp [go_sem]) (by simp [go_sem]) hS).mono ?_
  rintro e w4 ⟨rfl, hb4⟩
  replace k0 := keepc hb4 (keepa _ k0)
  replace k1 := keepc hb4 (keepa _ k1)
  have k2 : w4.cell? ⟨w3.heap.size, 0, none⟩ = some (.int .i64 n1) := keepc hb4 (by simp [go_sem])
  have k3 : w4.cell? ⟨w3.heap.size, 1, none⟩ = some (.int .i64 d1) := keepc hb4 (by simp [go_sem])
  replace kb : Below w.heap.size w w4 := (kb.alloc (Nat.le_trans kb.size (by simp)) _).trans (hb4.mono (Nat.le_trans kb.size (by simp)))
  clear hb4
  go_wp2_with fail
  refine (plain_any n1 d1 _).mono ?_
  rintro e w5 ⟨rfl, hb5⟩
  replace k0 := keepc hb5 k0
  replace k1 := keepc hb5 k1
  replace k2 := keepc hb5 k2
  replace k3 := keepc hb5 k3
  replace kb : Below w.heap.size w w5 := kb.trans (hb5.mono (Nat.le_trans kb.size (by simp)))
  clear hb5
  go_wp2_with fail
  refine (hR _).mono ?_
  rintro e w6 ⟨rfl, hb6⟩
  replace k0 := keepc hb6 k0
  replace k1 := keepc hb6 k1
  replace k2 := keepc hb6 k2
  replace k3 := keepc hb6 k3
  replace kb : Below w.heap.size w w6 := kb.trans (hb6.mono (Nat.le_trans kb.size (by simp)))
  clear hb6
  go_wp2_with fail
  refine (hC _).mono ?_
  rintro e w7 ⟨rfl, hb7⟩
  replace k0 := keepc hb7 k0
  replace k1 := keepc hb7 k1
  replace k2 := keepc hb7 k2
  replace k3 := keepc hb7 k3
  replace kb : Below w.heap.size w w7 := kb.trans (hb7.mono (Nat.le_trans kb.size (by simp)))
  clear hb7
  go_wp2_with fail
  refine (hD _).mono ?_
  rintro e w8 ⟨rfl, hb8⟩
  replace k0 := keepc hb8 k0
  replace k1 := keepc hb8 k1
  replace k2 := keepc hb8 k2
  replace k3 := keepc hb8 k3
  replace kb : Below w.heap.size w w8 := kb.trans (hb8.mono (Nat.le_trans kb.size (by simp)))
  clear hb8
  go_wp2_with fail
  go_ret
  exact ⟨rfl, kb⟩

set_option maxHeartbeats 1000000 in
theorem floors_false_top (n1 d1 q c : Int) (hF : FloorTo n1 d1 q) (hV : ValidTo n1 d1 true) (hS : smallB [n1, d1] = false) (q0 : -1152921504606846976 ≤ q) (q1 : q ≤ 1152921504606846976) (hC : CmpTo q 1 n1 d1 c) (hc : c ≤ 0) (hq : (q == 1152921504606846976) = true) (w : World) :
    Calls Try.prog 8 #[.agg #[.int .i64 n1, .int .i64 d1]] w fun e w' => e = .returned (.bool true) ∧ Below w.heap.size w w' := by
  have hka := @World.cell?_alloc_some
  go_enter Try.func8, Try.ntmps8
  go_wp2_with fail
  refine (awake_any _).mono ?_
  rintro e w1 ⟨rfl, hb1⟩
  have k0 : w1.cell? ⟨w.heap.size, 0, none⟩ = some (.int .i64 n1) := keepc hb1 (by simp [go_sem])
  have k1 : w1.cell? ⟨w.heap.size, 1, none⟩ = some (.int .i64 d1) := keepc hb1 (by simp [go_sem])
  have kb : Below w.heap.size w w1 := ((Below.refl w.heap.size w).alloc (by (try simp) <;> omega) _).trans (hb1.mono (by (try simp) <;> omega))
  clear hb1
  go_wp2_with fail
  refine (hF _).mono ?_
  rintro e w2 ⟨rfl, hb2⟩
  replace k0 := keepc hb2 k0
  replace k1 := keepc hb2 k1
  replace kb : Below w.heap.size w w2 := kb.trans (hb2.mono (Nat.le_trans kb.size (by simp)))
  clear hb2
  go_wp2_with fail
  refine (hV _).mono ?_
  rintro e w3 ⟨rfl, hb3⟩
  replace k0 := keepc hb3 k0
  replace k1 := keepc hb3 k1
  replace kb : Below w.heap.size w w3 := kb.trans (hb3.mono (Nat.le_trans kb.size (by simp)))
  clear hb3
  go_wp2_with fail
  refine (small_two n1 d1 _ _ _ (by simp [go_sem]) (by simp [go_sem]) hS).mono ?_
  rintro e w4 ⟨rfl, hb4⟩
  replace k0 := keepc hb4 (keepa _ k0)
  replace k1 := keepc hb4 (keepa _ k1)
  have k2 : w4.cell? ⟨w3.heap.size, 0, none⟩ = some (.int .i64 n1) := keepc hb4 (by simp [go_sem])
  have k3 : w4.cell? ⟨w3.heap.size, 1, none⟩ = some (.int .i64 d1) := keepc hb4 (by simp [go_sem])
  replace kb : Below w.heap.size w w4 := (kb.alloc (Nat.le_trans kb.size (by simp)) _).trans (hb4.mono (Nat.le_trans kb.size (by simp)))
  clear hb4
  go_wp2_with fail
  refine (hC _).mono ?_
  rintro e w5 ⟨rfl, hb5⟩
  replace k0 := keepc hb5 k0
  replace k1 := keepc hb5 k1
  replace k2 := keepc hb5 k2
  replace k3 := keepc hb5 k3
  replace kb : Below w.heap.size w w5 := kb.trans (hb5.mono (Nat.le_trans kb.size (by simp)))
  clear hb5
  go_wp2_with fail
  go_ret
  exact ⟨rfl, kb⟩

set_option maxHeartbeats 1000000 in
theorem floors_false_in (n1 d1 q c : Int) (hF : FloorTo n1 d1 q) (hV : ValidTo n1 d1 true) (hS : smallB [n1, d1] = false) (q0 : -1152921504606846976 ≤ q) (q1 : q ≤ 1152921504606846976) (hC : CmpTo q 1 n1 d1 c) (hc : c ≤ 0) (hq : (q == 1152921504606846976) = false) (hD : CmpTo (q + 1) 1 n1 d1 1) (q2 : q + 1 ≤ 1152921504606846976) (w : World) :
    Calls Try.prog 8 #[.agg #[.int .i64 n1, .int .i64 d1]] w fun e w' => e = .returned (.bool true) ∧ Below w.heap.size w w' := by
  have hka := @World.cell?_alloc_some
  go_enter Try.func8, Try.ntmps8
  go_wp2_with fail
  refine (awake_any _).mono ?_
  rintro e w1 ⟨rfl, hb1⟩
  have k0 : w1.cell? ⟨w.heap.size, 0, none⟩ = some (.int .i64 n1) := keepc hb1 (by simp [go_sem])
  have k1 : w1.cell? ⟨w.heap.size, 1, none⟩ = some (.int .i64 d1) := keepc hb1 (by simp [go_sem])
  have kb : Below w.heap.size w w1 := ((Below.refl w.heap.size w).alloc (by (try simp) <;> omega) _).trans (hb1.mono (by (try simp) <;> omega))
  clear hb1
  go_wp2_with fail
  refine (hF _).mono ?_
  rintro e w2 ⟨rfl, hb2⟩
  replace k0 := keepc hb2 k0
  replace k1 := keepc hb2 k1
  replace kb : Below w.heap.size w w2 := kb.trans (hb2.mono (Nat.le_trans kb.size (by simp)))
  clear hb2
  go_wp2_with fail
  refine (hV _).mono ?_
  rintro e w3 ⟨rfl, hb3⟩
  replace k0 := keepc hb3 k0
  replace k1 := keepc hb3 k1
  replace kb : Below w.heap.size w w3 := kb.trans (hb3.mono (Nat.le_trans kb.size (by simp)))
  clear hb3
  go_wp2_with fail
  refine (small_two n1 d1 _ _ _ (by simp [go_sem]) (by simp [go_sem]) hS).mono ?_
  rintro e w4 ⟨rfl, hb4⟩
  replace k0 := keepc hb4 (keepa _ k0)
  replace k1 := keepc hb4 (keepa _ k1)
  have k2 : w4.cell? ⟨w3.heap.size, 0, none⟩ = some (.int .i64 n1) := keepc hb4 (by simp [go_sem])
  have k3 : w4.cell? ⟨w3.heap.size, 1, none⟩ = some (.int .i64 d1) := keepc hb4 (by simp [go_sem])
  replace kb : Below w.heap.size w w4 := (kb.alloc (Nat.le_trans kb.size (by simp)) _).trans (hb4.mono (Nat.le_trans kb.size (by simp)))
  clear hb4
  go_wp2_with fail
  refine (hC _).mono ?_
  rintro e w5 ⟨rfl, hb5⟩
  replace k0 := keepc hb5 k0
  replace k1 := keepc hb5 k1
  replace k2 := keepc hb5 k2
  replace k3 := keepc hb5 k3
  replace kb : Below w.heap.size w w5 := kb.trans (hb5.mono (Nat.le_trans kb.size (by simp)))
  clear hb5
  go_wp2_with fail
  refine (hD _).mono ?_
  rintro e w6 ⟨rfl, hb6⟩
  replace k0 := keepc hb6 k0
  replace k1 := keepc hb6 k1
  replace k2 := keepc hb6 k2
  replace k3 := keepc hb6 k3
  replace kb : Below w.heap.size w w6 := kb.trans (hb6.mono (Nat.le_trans kb.size (by simp)))
  clear hb6
  go_wp2_with fail
  go_ret
  exact ⟨rfl, kb⟩

theorem floors_any (n1 d1 : Int) (a1 : I64 n1) (a2 : I64 d1) (w : World) :
    Calls Try.prog 8 #[.agg #[.int .i64 n1, .int .i64 d1]] w fun e w' => e = .returned (.bool true) ∧ Below w.heap.size w w' := by
  by_cases h1 : validB n1 d1 = true
  rotate_left
  · rw [Bool.not_eq_true] at h1
    refine floors_bad n1 d1 (fun w => ?_) (validTo a1 a2 h1) w
    have := floor_any n1 d1 a1.1 a1.2 a2.1 a2.2 w
    unfold floorS at this; rw [h1] at this; exact this
  have o1 := okR_of h1
  obtain ⟨i1, i2, i3, i4, _⟩ := okR_num o1
  obtain ⟨u1, u2⟩ := full_pos o1
  have hF : FloorTo n1 d1 (n1 / full d1) := fun w => floor_valid n1 d1 h1 w
  have hR : RFloorTo n1 d1 (n1 / full d1) := fun w => rfloor_any n1 d1 o1 w
  have hV := validTo a1 a2 h1
  have e1 := Int.emod_add_mul_ediv n1 (full d1)
  have e2 := Int.emod_nonneg n1 (b := full d1) (by omega)
  have e3 := Int.emod_lt_of_pos n1 (b := full d1) (by omega)
  rw [Int.mul_comm] at e1
  obtain ⟨q, hq⟩ : ∃ q, n1 / full d1 = q := ⟨_, rfl⟩
  rw [hq] at hF hR e1
  have q0 : -1152921504606846976 ≤ q := by
    rw [← hq, Int.le_ediv_iff_mul_le (by omega)]
    have := Int.mul_le_mul_of_nonneg_left u1 (show (0 : Int) ≤ 1152921504606846976 by decide)
    omega
  have q1 : q ≤ 1152921504606846976 := by
    have : q < 1152921504606846977 := by
      rw [← hq]; refine Int.ediv_lt_of_lt_mul (by omega) ?_
      have := Int.mul_le_mul_of_nonneg_left u1 (show (0 : Int) ≤ 1152921504606846977 by decide)
      omega
    omega
  have oq : ∀ z : Int, -1152921504606846976 ≤ z → z ≤ 1152921504606846976 → okR z 1 := fun z h h' => .inr ⟨by decide, by decide, h, h', by unfold gd; rw [Int.gcd_one_right]; rfl⟩
  have hC : CmpTo q 1 n1 d1 (cmpI (q * full d1) n1) := by
    refine cmpTo ⟨by omega, by omega⟩ ⟨by decide, by decide⟩ a1 a2 ?_
    unfold cmpS; rw [validB_of (oq q q0 q1), h1, Bool.and_self, if_pos rfl, show full 1 = 1 from rfl, Int.mul_one]
  have hc : cmpI (q * full d1) n1 ≤ 0 := by unfold cmpI; split <;> (try split) <;> omega
  by_cases ht : q = 1152921504606846976
  · have hqt : (q == 1152921504606846976) = true := by rw [beq_iff_eq]; exact ht
    by_cases hs : smallB [n1, d1] = true
    · exact floors_true_top n1 d1 q _ hF hV hs hR q0 q1 hC hc hqt w
    · rw [Bool.not_eq_true] at hs
      exact floors_false_top n1 d1 q _ hF hV hs q0 q1 hC hc hqt w
  · have hqt : (q == 1152921504606846976) = false := by rw [beq_eq_false_iff_ne]; exact ht
    have hD : CmpTo (q + 1) 1 n1 d1 1 := by
      refine cmpTo ⟨by omega, by omega⟩ ⟨by decide, by decide⟩ a1 a2 ?_
      unfold cmpS; rw [validB_of (oq (q + 1) (by omega) (by omega)), h1, Bool.and_self, if_pos rfl, show full 1 = 1 from rfl, Int.mul_one, Int.add_mul, Int.one_mul]
      unfold cmpI; rw [if_neg (by omega), if_pos (by omega)]
    by_cases hs : smallB [n1, d1] = true
    · exact floors_true_in n1 d1 q _ hF hV hs hR q0 q1 hC hc hqt hD (by omega) w
    · rw [Bool.not_eq_true] at hs
      exact floors_false_in n1 d1 q _ hF hV hs q0 q1 hC hc hqt hD (by omega) w
end Go.Proofs.Ythiemhkhlggenaa
