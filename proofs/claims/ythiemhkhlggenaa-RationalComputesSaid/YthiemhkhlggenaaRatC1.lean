/- RationalComputes: invalid arguments; great numbers. -/
import Derived.Test.YthiemhkhlggenaaRatS2
import Derived.Test.YthiemhkhlggenaaRatT
namespace Go.Proofs.Ythiemhkhlggenaa
open Go.RowKit Go.Shelf

set_option maxHeartbeats 4000000 in
theorem comp_bad1 (n1 d1 n2 d2 : Int) (hA : AddTo n1 d1 n2 d2 0 0 1) (hS : SubTo n1 d1 n2 d2 0 0 1) (hM : MulTo n1 d1 n2 d2 0 0 1) (hD : DivTo n1 d1 n2 d2 0 0 1) (hV1 : ValidTo n1 d1 false) (w : World) :
    Calls Try.prog 4 #[.agg #[.int .i64 n1, .int .i64 d1], .agg #[.int .i64 n2, .int .i64 d2]] w fun e w' => e = .returned (.bool true) ∧ Below w.heap.size w w' := by
  have hka := @World.cell?_alloc_some
  go_enter Try.func4, Try.ntmps4
  go_wp2_with fail
  refine (awake_any _).mono ?_
  rintro e w1 ⟨rfl, hb1⟩
  have k0 : w1.cell? ⟨w.heap.size, 0, none⟩ = some (.int .i64 n1) := keepc hb1 (by simp [go_sem])
  have k1 : w1.cell? ⟨w.heap.size, 1, none⟩ = some (.int .i64 d1) := keepc hb1 (by simp [go_sem])
  have k2 : w1.cell? ⟨w.heap.size + 1, 0, none⟩ = some (.int .i64 n2) := keepc hb1 (by simp [go_sem])
  have k3 : w1.cell? ⟨w.heap.size + 1, 1, none⟩ = some (.int .i64 d2) := keepc hb1 (by simp [go_sem])
  have kb : Below w.heap.size w w1 := (((Below.refl w.heap.size w).alloc (by (try simp) <;> omega) _).alloc (by (try simp) <;> omega) _).trans (hb1.mono (by (try simp) <;> omega))
  clear hb1
  go_wp2_with fail
  refine (hA _).mono ?_
  rintro e w2 ⟨rfl, hb2⟩
  replace k0 := keepc hb2 k0
  replace k1 := keepc hb2 k1
  replace k2 := keepc hb2 k2
  replace k3 := keepc hb2 k3
  replace kb : Below w.heap.size w w2 := kb.trans (hb2.mono (Nat.le_trans kb.size (by simp)))
  clear hb2
  go_wp2_with fail
  refine (hS _).mono ?_
  rintro e w3 ⟨rfl, hb3⟩
  replace k0 := keepc hb3 (keepa _ k0)
  replace k1 := keepc hb3 (keepa _ k1)
  replace k2 := keepc hb3 (keepa _ k2)
  replace k3 := keepc hb3 (keepa _ k3)
  have k4 : w3.cell? ⟨w2.heap.size, 0, none⟩ = some (.int .i64 0) := keepc hb3 (by simp [go_sem])
  have k5 : w3.cell? ⟨w2.heap.size, 1, none⟩ = some (.int .i64 0) := keepc hb3 (by simp [go_sem])
  replace kb : Below w.heap.size w w3 := (kb.alloc (Nat.le_trans kb.size (by simp)) _).trans (hb3.mono (Nat.le_trans kb.size (by simp)))
  clear hb3
  go_wp2_with fail
  refine (hM _).mono ?_
  rintro e w4 ⟨rfl, hb4⟩
  replace k0 := keepc hb4 (keepa _ k0)
  replace k1 := keepc hb4 (keepa _ k1)
  replace k2 := keepc hb4 (keepa _ k2)
  replace k3 := keepc hb4 (keepa _ k3)
  replace k4 := keepc hb4 (keepa _ k4)
  replace k5 := keepc hb4 (keepa _ k5)
  have k6 : w4.cell? ⟨w3.heap.size, 0, none⟩ = some (.int .i64 0) := keepc hb4 (by simp [go_sem])
  have k7 : w4.cell? ⟨w3.heap.size, 1, none⟩ = some (.int .i64 0) := keepc hb4 (by simp [go_sem])
  replace kb : Below w.heap.size w w4 := (kb.alloc (Nat.le_trans kb.size (by simp)) _).trans (hb4.mono (Nat.le_trans kb.size (by simp)))
  clear hb4
  go_wp2_with fail
  refine (hD _).mono ?_
  rintro e w5 ⟨rfl, hb5⟩
  replace k0 := keepc hb5 (keepa _ k0)
  replace k1 := keepc hb5 (keepa _ k1)
  replace k2 := keepc hb5 (keepa _ k2)
  replace k3 := keepc hb5 (keepa _ k3)
  replace k4 := keepc hb5 (keepa _ k4)
  replace k5 := keepc hb5 (keepa _ k5)
  replace k6 := keepc hb5 (keepa _ k6)
  replace k7 := keepc hb5 (keepa _ k7)
  have k8 : w5.cell? ⟨w4.heap.size, 0, none⟩ = some (.int .i64 0) := keepc hb5 (by simp [go_sem])
  have k9 : w5.cell? ⟨w4.heap.size, 1, none⟩ = some (.int .i64 0) := keepc hb5 (by simp [go_sem])
  replace kb : Below w.heap.size w w5 := (kb.alloc (Nat.le_trans kb.size (by simp)) _).trans (hb5.mono (Nat.le_trans kb.size (by simp)))
  clear hb5
  go_wp2_with fail
  refine (hV1 _).mono ?_
  rintro e w6 ⟨rfl, hb6⟩
  replace k0 := keepc hb6 (keepa _ k0)
  replace k1 := keepc hb6 (keepa _ k1)
  replace k2 := keepc hb6 (keepa _ k2)
  replace k3 := keepc hb6 (keepa _ k3)
  replace k4 := keepc hb6 (keepa _ k4)
  replace k5 := keepc hb6 (keepa _ k5)
  replace k6 := keepc hb6 (keepa _ k6)
  replace k7 := keepc hb6 (keepa _ k7)
  replace k8 := keepc hb6 (keepa _ k8)
  replace k9 := keepc hb6 (keepa _ k9)
  have k10 : w6.cell? ⟨w5.heap.size, 0, none⟩ = some (.int .i64 0) := keepc hb6 (by simp [go_sem])
  have k11 : w6.cell? ⟨w5.heap.size, 1, none⟩ = some (.int .i64 0) := keepc hb6 (by simp [go_sem])
  replace kb : Below w.heap.size w w6 := (kb.alloc (Nat.le_trans kb.size (by simp)) _).trans (hb6.mono (Nat.le_trans kb.size (by simp)))
  clear hb6
  go_wp2_with fail
  go_ret
  exact ⟨rfl, (kb.alloc (Nat.le_trans kb.size (by simp)) _)⟩

set_option maxHeartbeats 4000000 in
theorem comp_bad2 (n1 d1 n2 d2 : Int) (hA : AddTo n1 d1 n2 d2 0 0 1) (hS : SubTo n1 d1 n2 d2 0 0 1) (hM : MulTo n1 d1 n2 d2 0 0 1) (hD : DivTo n1 d1 n2 d2 0 0 1) (hV1 : ValidTo n1 d1 true) (hV2 : ValidTo n2 d2 false) (w : World) :
    Calls Try.prog 4 #[.agg #[.int .i64 n1, .int .i64 d1], .agg #[.int .i64 n2, .int .i64 d2]] w fun e w' => e = .returned (.bool true) ∧ Below w.heap.size w w' := by
  have hka := @World.cell?_alloc_some
  go_enter Try.func4, Try.ntmps4
  go_wp2_with fail
  refine (awake_any _).mono ?_
  rintro e w1 ⟨rfl, hb1⟩
  have k0 : w1.cell? ⟨w.heap.size, 0, none⟩ = some (.int .i64 n1) := keepc hb1 (by simp [go_sem])
  have k1 : w1.cell? ⟨w.heap.size, 1, none⟩ = some (.int .i64 d1) := keepc hb1 (by simp [go_sem])
  have k2 : w1.cell? ⟨w.heap.size + 1, 0, none⟩ = some (.int .i64 n2) := keepc hb1 (by simp [go_sem])
  have k3 : w1.cell? ⟨w.heap.size + 1, 1, none⟩ = some (.int .i64 d2) := keepc hb1 (by simp [go_sem])
  have kb : Below w.heap.size w w1 := (((Below.refl w.heap.size w).alloc (by (try simp) <;> omega) _).alloc (by (try simp) <;> omega) _).trans (hb1.mono (by (try simp) <;> omega))
  clear hb1
  go_wp2_with fail
  refine (hA _).mono ?_
  rintro e w2 ⟨rfl, hb2⟩
  replace k0 := keepc hb2 k0
  replace k1 := keepc hb2 k1
  replace k2 := keepc hb2 k2
  replace k3 := keepc hb2 k3
  replace kb : Below w.heap.size w w2 := kb.trans (hb2.mono (Nat.le_trans kb.size (by simp)))
  clear hb2
  go_wp2_with fail
  refine (hS _).mono ?_
  rintro e w3 ⟨rfl, hb3⟩
  replace k0 := keepc hb3 (keepa _ k0)
  replace k1 := keepc hb3 (keepa _ k1)
  replace k2 := keepc hb3 (keepa _ k2)
  replace k3 := keepc hb3 (keepa _ k3)
  have k4 : w3.cell? ⟨w2.heap.size, 0, none⟩ = some (.int .i64 0) := keepc hb3 (by simp [go_sem])
  have k5 : w3.cell? ⟨w2.heap.size, 1, none⟩ = some (.int .i64 0) := keepc hb3 (by simp [go_sem])
  replace kb : Below w.heap.size w w3 := (kb.alloc (Nat.le_trans kb.size (by simp)) _).trans (hb3.mono (Nat.le_trans kb.size (by simp)))
  clear hb3
  go_wp2_with fail
  refine (hM _).mono ?_
  rintro e w4 ⟨rfl, hb4⟩
  replace k0 := keepc hb4 (keepa _ k0)
  replace k1 := keepc hb4 (keepa _ k1)
  replace k2 := keepc hb4 (keepa _ k2)
  replace k3 := keepc hb4 (keepa _ k3)
  replace k4 := keepc hb4 (keepa _ k4)
  replace k5 := keepc hb4 (keepa _ k5)
  have k6 : w4.cell? ⟨w3.heap.size, 0, none⟩ = some (.int .i64 0) := keepc hb4 (by simp [go_sem])
  have k7 : w4.cell? ⟨w3.heap.size, 1, none⟩ = some (.int .i64 0) := keepc hb4 (by simp [go_sem])
  replace kb : Below w.heap.size w w4 := (kb.alloc (Nat.le_trans kb.size (by simp)) _).trans (hb4.mono (Nat.le_trans kb.size (by simp)))
  clear hb4
  go_wp2_with fail
  refine (hD _).mono ?_
  rintro e w5 ⟨rfl, hb5⟩
  replace k0 := keepc hb5 (keepa _ k0)
  replace k1 := keepc hb5 (keepa _ k1)
  replace k2 := keepc hb5 (keepa _ k2)
  replace k3 := keepc hb5 (keepa _ k3)
  replace k4 := keepc hb5 (keepa _ k4)
  replace k5 := keepc hb5 (keepa _ k5)
  replace k6 := keepc hb5 (keepa _ k6)
  replace k7 := keepc hb5 (keepa _ k7)
  have k8 : w5.cell? ⟨w4.heap.size, 0, none⟩ = some (.int .i64 0) := keepc hb5 (by simp [go_sem])
  have k9 : w5.cell? ⟨w4.heap.size, 1, none⟩ = some (.int .i64 0) := keepc hb5 (by simp [go_sem])
  replace kb : Below w.heap.size w w5 := (kb.alloc (Nat.le_trans kb.size (by simp)) _).trans (hb5.mono (Nat.le_trans kb.size (by simp)))
  clear hb5
  go_wp2_with fail
  refine (hV1 _).mono ?_
  rintro e w6 ⟨rfl, hb6⟩
  replace k0 := keepc hb6 (keepa _ k0)
  replace k1 := keepc hb6 (keepa _ k1)
  replace k2 := keepc hb6 (keepa _ k2)
  replace k3 := keepc hb6 (keepa _ k3)
  replace k4 := keepc hb6 (keepa _ k4)
  replace k5 := keepc hb6 (keepa _ k5)
  replace k6 := keepc hb6 (keepa _ k6)
  replace k7 := keepc hb6 (keepa _ k7)
  replace k8 := keepc hb6 (keepa _ k8)
  replace k9 := keepc hb6 (keepa _ k9)
  have k10 : w6.cell? ⟨w5.heap.size, 0, none⟩ = some (.int .i64 0) := keepc hb6 (by simp [go_sem])
  have k11 : w6.cell? ⟨w5.heap.size, 1, none⟩ = some (.int .i64 0) := keepc hb6 (by simp [go_sem])
  replace kb : Below w.heap.size w w6 := (kb.alloc (Nat.le_trans kb.size (by simp)) _).trans (hb6.mono (Nat.le_trans kb.size (by simp)))
  clear hb6
  go_wp2_with fail
  refine (hV2 _).mono ?_
  rintro e w7 ⟨rfl, hb7⟩
  replace k0 := keepc hb7 k0
  replace k1 := keepc hb7 k1
  replace k2 := keepc hb7 k2
  replace k3 := keepc hb7 k3
  replace k4 := keepc hb7 k4
  replace k5 := keepc hb7 k5
  replace k6 := keepc hb7 k6
  replace k7 := keepc hb7 k7
  replace k8 := keepc hb7 k8
  replace k9 := keepc hb7 k9
  replace k10 := keepc hb7 k10
  replace k11 := keepc hb7 k11
  replace kb : Below w.heap.size w w7 := kb.trans (hb7.mono (Nat.le_trans kb.size (by simp)))
  clear hb7
  go_wp2_with fail
  go_ret
  exact ⟨rfl, (kb.alloc (Nat.le_trans kb.size (by simp)) _)⟩

set_option maxHeartbeats 4000000 in
theorem comp_big (n1 d1 n2 d2 s1 s2 s3 r1 r2 r3 p1 p2 p3 q1 q2 q3 : Int) (hA : AddTo n1 d1 n2 d2 s1 s2 s3) (hS : SubTo n1 d1 n2 d2 r1 r2 r3) (hM : MulTo n1 d1 n2 d2 p1 p2 p3) (hD : DivTo n1 d1 n2 d2 q1 q2 q3) (hV1 : ValidTo n1 d1 true) (hV2 : ValidTo n2 d2 true) (hB : smallB [n1, d1, n2, d2] = false) (w : World) :
    Calls Try.prog 4 #[.agg #[.int .i64 n1, .int .i64 d1], .agg #[.int .i64 n2, .int .i64 d2]] w fun e w' => e = .returned (.bool true) ∧ Below w.heap.size w w' := by
  have hka := @World.cell?_alloc_some
  go_enter Try.func4, Try.ntmps4
  go_wp2_with fail
  refine (awake_any _).mono ?_
  rintro e w1 ⟨rfl, hb1⟩
  have k0 : w1.cell? ⟨w.heap.size, 0, none⟩ = some (.int .i64 n1) := keepc hb1 (by simp [go_sem])
  have k1 : w1.cell? ⟨w.heap.size, 1, none⟩ = some (.int .i64 d1) := keepc hb1 (by simp [go_sem])
  have k2 : w1.cell? ⟨w.heap.size + 1, 0, none⟩ = some (.int .i64 n2) := keepc hb1 (by simp [go_sem])
  have k3 : w1.cell? ⟨w.heap.size + 1, 1, none⟩ = some (.int .i64 d2) := keepc hb1 (by simp [go_sem])
  have kb : Below w.heap.size w w1 := (((Below.refl w.heap.size w).alloc (by (try simp) <;> omega) _).alloc (by (try simp) <;> omega) _).trans (hb1.mono (by (try simp) <;> omega))
  clear hb1
  go_wp2_with fail
  refine (hA _).mono ?_
  rintro e w2 ⟨rfl, hb2⟩
  replace k0 := keepc hb2 k0
  replace k1 := keepc hb2 k1
  replace k2 := keepc hb2 k2
  replace k3 := keepc hb2 k3
  replace kb : Below w.heap.size w w2 := kb.trans (hb2.mono (Nat.le_trans kb.size (by simp)))
  clear hb2
  go_wp2_with fail
  refine (hS _).mono ?_
  rintro e w3 ⟨rfl, hb3⟩
  replace k0 := keepc hb3 (keepa _ k0)
  replace k1 := keepc hb3 (keepa _ k1)
  replace k2 := keepc hb3 (keepa _ k2)
  replace k3 := keepc hb3 (keepa _ k3)
  have k4 : w3.cell? ⟨w2.heap.size, 0, none⟩ = some (.int .i64 s1) := keepc hb3 (by simp [go_sem])
  have k5 : w3.cell? ⟨w2.heap.size, 1, none⟩ = some (.int .i64 s2) := keepc hb3 (by simp [go_sem])
  replace kb : Below w.heap.size w w3 := (kb.alloc (Nat.le_trans kb.size (by simp)) _).trans (hb3.mono (Nat.le_trans kb.size (by simp)))
  clear hb3
  go_wp2_with fail
  refine (hM _).mono ?_
  rintro e w4 ⟨rfl, hb4⟩
  replace k0 := keepc hb4 (keepa _ k0)
  replace k1 := keepc hb4 (keepa _ k1)
  replace k2 := keepc hb4 (keepa _ k2)
  replace k3 := keepc hb4 (keepa _ k3)
  replace k4 := keepc hb4 (keepa _ k4)
  replace k5 := keepc hb4 (keepa _ k5)
  have k6 : w4.cell? ⟨w3.heap.size, 0, none⟩ = some (.int .i64 r1) := keepc hb4 (by simp [go_sem])
  have k7 : w4.cell? ⟨w3.heap.size, 1, none⟩ = some (.int .i64 r2) := keepc hb4 (by simp [go_sem])
  replace kb : Below w.heap.size w w4 := (kb.alloc (Nat.le_trans kb.size (by simp)) _).trans (hb4.mono (Nat.le_trans kb.size (by simp)))
  clear hb4
  go_wp2_with fail
  refine (hD _).mono ?_
  rintro e w5 ⟨rfl, hb5⟩
  replace k0 := keepc hb5 (keepa _ k0)
  replace k1 := keepc hb5 (keepa _ k1)
  replace k2 := keepc hb5 (keepa _ k2)
  replace k3 := keepc hb5 (keepa _ k3)
  replace k4 := keepc hb5 (keepa _ k4)
  replace k5 := keepc hb5 (keepa _ k5)
  replace k6 := keepc hb5 (keepa _ k6)
  replace k7 := keepc hb5 (keepa _ k7)
  have k8 : w5.cell? ⟨w4.heap.size, 0, none⟩ = some (.int .i64 p1) := keepc hb5 (by simp [go_sem])
  have k9 : w5.cell? ⟨w4.heap.size, 1, none⟩ = some (.int .i64 p2) := keepc hb5 (by simp [go_sem])
  replace kb : Below w.heap.size w w5 := (kb.alloc (Nat.le_trans kb.size (by simp)) _).trans (hb5.mono (Nat.le_trans kb.size (by simp)))
  clear hb5
  go_wp2_with fail
  refine (hV1 _).mono ?_
  rintro e w6 ⟨rfl, hb6⟩
  replace k0 := keepc hb6 (keepa _ k0)
  replace k1 := keepc hb6 (keepa _ k1)
  replace k2 := keepc hb6 (keepa _ k2)
  replace k3 := keepc hb6 (keepa _ k3)
  replace k4 := keepc hb6 (keepa _ k4)
  replace k5 := keepc hb6 (keepa _ k5)
  replace k6 := keepc hb6 (keepa _ k6)
  replace k7 := keepc hb6 (keepa _ k7)
  replace k8 := keepc hb6 (keepa _ k8)
  replace k9 := keepc hb6 (keepa _ k9)
  have k10 : w6.cell? ⟨w5.heap.size, 0, none⟩ = some (.int .i64 q1) := keepc hb6 (by simp [go_sem])
  have k11 : w6.cell? ⟨w5.heap.size, 1, none⟩ = some (.int .i64 q2) := keepc hb6 (by simp [go_sem])
  replace kb : Below w.heap.size w w6 := (kb.alloc (Nat.le_trans kb.size (by simp)) _).trans (hb6.mono (Nat.le_trans kb.size (by simp)))
  clear hb6
  go_wp2_with fail
  refine (hV2 _).mono ?_
  rintro e w7 ⟨rfl, hb7⟩
  replace k0 := keepc hb7 k0
  replace k1 := keepc hb7 k1
  replace k2 := keepc hb7 k2
  replace k3 := keepc hb7 k3
  replace k4 := keepc hb7 k4
  replace k5 := keepc hb7 k5
  replace k6 := keepc hb7 k6
  replace k7 := keepc hb7 k7
  replace k8 := keepc hb7 k8
  replace k9 := keepc hb7 k9
  replace k10 := keepc hb7 k10
  replace k11 := keepc hb7 k11
  replace kb : Below w.heap.size w w7 := kb.trans (hb7.mono (Nat.le_trans kb.size (by simp)))
  clear hb7
  go_wp2_with fail
  refine (small_four n1 d1 n2 d2 _ _ _ (by simp [go_sem]) (by simp [go_sem]) (by simp [go_sem]) (by simp [go_sem]) hB).mono ?_
  rintro e w8 ⟨rfl, hb8⟩
  replace k0 := keepc hb8 (keepa _ k0)
  replace k1 := keepc hb8 (keepa _ k1)
  replace k2 := keepc hb8 (keepa _ k2)
  replace k3 := keepc hb8 (keepa _ k3)
  replace k4 := keepc hb8 (keepa _ k4)
  replace k5 := keepc hb8 (keepa _ k5)
  replace k6 := keepc hb8 (keepa _ k6)
  replace k7 := keepc hb8 (keepa _ k7)
  replace k8 := keepc hb8 (keepa _ k8)
  replace k9 := keepc hb8 (keepa _ k9)
  replace k10 := keepc hb8 (keepa _ k10)
  replace k11 := keepc hb8 (keepa _ k11)
  have k12 : w8.cell? ⟨w7.heap.size, 0, none⟩ = some (.int .i64 n1) := keepc hb8 (by simp [go_sem])
  have k13 : w8.cell? ⟨w7.heap.size, 1, none⟩ = some (.int .i64 d1) := keepc hb8 (by simp [go_sem])
  have k14 : w8.cell? ⟨w7.heap.size, 2, none⟩ = some (.int .i64 n2) := keepc hb8 (by simp [go_sem])
  have k15 : w8.cell? ⟨w7.heap.size, 3, none⟩ = some (.int .i64 d2) := keepc hb8 (by simp [go_sem])
  replace kb : Below w.heap.size w w8 := (kb.alloc (Nat.le_trans kb.size (by simp)) _).trans (hb8.mono (Nat.le_trans kb.size (by simp)))
  clear hb8
  clear k12
  clear k13
  clear k14
  clear k15
  go_wp2_with fail
  go_ret
  exact ⟨rfl, kb⟩
end Go.Proofs.Ythiemhkhlggenaa
