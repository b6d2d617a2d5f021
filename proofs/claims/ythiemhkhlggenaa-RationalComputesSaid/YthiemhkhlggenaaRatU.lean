/- RationalUndoes: what was added can be subtracted, and what was multiplied by can be divided by. -/
import Derived.Test.YthiemhkhlggenaaRatI
namespace Go.Proofs.Ythiemhkhlggenaa
open Go.RowKit Go.Shelf

set_option maxHeartbeats 1000000 in
theorem undo_bad1 (n1 d1 n2 d2 : Int) (hV1 : ValidTo n1 d1 false) (w : World) :
    Calls Try.prog 6 #[.agg #[.int .i64 n1, .int .i64 d1], .agg #[.int .i64 n2, .int .i64 d2]] w fun e w' => e = .returned (.bool true) ∧ Below w.heap.size w w' := by
  have hka := @World.cell?_alloc_some
  go_enter Try.func6, Try.ntmps6
  go_wp2_with fail
  refine (awake_any _).mono ?_
  rintro e w1 ⟨rfl, hb1⟩
  have k0 : w1.cell? ⟨w.heap.size, 0, none⟩ = some (.int .i64 n1) := keepc hb1 (by simp [go_sem])
  have k1 : w1.cell? ⟨w.heap.size, 1, none⟩ = some (.int .i64 d1) := keepc hb1 (by simp [go_sem])
  have k2 : w1.cell? ⟨w.heap.size + 1, 0, none⟩ = some (.int .i64 n2) := keepc hb1 (by simp [go_sem])
  have k3 : w1.cell? ⟨w.heap.size + 1, 1, none⟩ = some (.int .i64 d2) := keepc hb1 (by simp [go_sem])
  have kb : Below w.heap.size w w1 := (((Below.refl w.heap.size w).alloc (by (try simp) <;> omega) _).alloc (by (try simp) <;> omega) _).trans (hb1.mono (by (try simp) <;> omega))
  clear hb1
  go_wp2_with fail
  refine (hV1 _).mono ?_
  rintro e w2 ⟨rfl, hb2⟩
  replace k0 := keepc hb2 k0
  replace k1 := keepc hb2 k1
  replace k2 := keepc hb2 k2
  replace k3 := keepc hb2 k3
  replace kb : Below w.heap.size w w2 := kb.trans (hb2.mono (Nat.le_trans kb.size (by simp)))
  clear hb2
  go_wp2_with fail
  refine (awake_any _).mono ?_
  rintro e w3 ⟨rfl, hb3⟩
  replace k0 := keepc hb3 k0
  replace k1 := keepc hb3 k1
  replace k2 := keepc hb3 k2
  replace k3 := keepc hb3 k3
  replace kb : Below w.heap.size w w3 := kb.trans (hb3.mono (Nat.le_trans kb.size (by simp)))
  clear hb3
  go_wp2_with fail
  go_ret
  exact ⟨rfl, kb⟩

set_option maxHeartbeats 1000000 in
theorem undo_bad2 (n1 d1 n2 d2 : Int) (hV1 : ValidTo n1 d1 true) (hV2 : ValidTo n2 d2 false) (w : World) :
    Calls Try.prog 6 #[.agg #[.int .i64 n1, .int .i64 d1], .agg #[.int .i64 n2, .int .i64 d2]] w fun e w' => e = .returned (.bool true) ∧ Below w.heap.size w w' := by
  have hka := @World.cell?_alloc_some
  go_enter Try.func6, Try.ntmps6
  go_wp2_with fail
  refine (awake_any _).mono ?_
  rintro e w1 ⟨rfl, hb1⟩
  have k0 : w1.cell? ⟨w.heap.size, 0, none⟩ = some (.int .i64 n1) := keepc hb1 (by simp [go_sem])
  have k1 : w1.cell? ⟨w.heap.size, 1, none⟩ = some (.int .i64 d1) := keepc hb1 (by simp [go_sem])
  have k2 : w1.cell? ⟨w.heap.size + 1, 0, none⟩ = some (.int .i64 n2) := keepc hb1 (by simp [go_sem])
  have k3 : w1.cell? ⟨w.heap.size + 1, 1, none⟩ = some (.int .i64 d2) := keepc hb1 (by simp [go_sem])
  have kb : Below w.heap.size w w1 := (((Below.refl w.heap.size w).alloc (by (try simp) <;> omega) _).alloc (by (try simp) <;> omega) _).trans (hb1.mono (by (try simp) <;> omega))
  clear hb1
  go_wp2_with fail
  refine (hV1 _).mono ?_
  rintro e w2 ⟨rfl, hb2⟩
  replace k0 := keepc hb2 k0
  replace k1 := keepc hb2 k1
  replace k2 := keepc hb2 k2
  replace k3 := keepc hb2 k3
  replace kb : Below w.heap.size w w2 := kb.trans (hb2.mono (Nat.le_trans kb.size (by simp)))
  clear hb2
  go_wp2_with fail
  refine (hV2 _).mono ?_
  rintro e w3 ⟨rfl, hb3⟩
  replace k0 := keepc hb3 k0
  replace k1 := keepc hb3 k1
  replace k2 := keepc hb3 k2
  replace k3 := keepc hb3 k3
  replace kb : Below w.heap.size w w3 := kb.trans (hb3.mono (Nat.le_trans kb.size (by simp)))
  clear hb3
  go_wp2_with fail
  refine (awake_any _).mono ?_
  rintro e w4 ⟨rfl, hb4⟩
  replace k0 := keepc hb4 k0
  replace k1 := keepc hb4 k1
  replace k2 := keepc hb4 k2
  replace k3 := keepc hb4 k3
  replace kb : Below w.heap.size w w4 := kb.trans (hb4.mono (Nat.le_trans kb.size (by simp)))
  clear hb4
  go_wp2_with fail
  go_ret
  exact ⟨rfl, kb⟩

set_option maxHeartbeats 1000000 in
theorem undo_11 (n1 d1 n2 d2 s1 s2 s3 p1 p2 p3 r1 r2  : Int) (hV1 : ValidTo n1 d1 true) (hV2 : ValidTo n2 d2 true) (hAdd : AddTo n1 d1 n2 d2 s1 s2 s3) (hMul : MulTo n1 d1 n2 d2 p1 p2 p3)
    (hS : s3 = 0) (hSub : SubTo s1 s2 n2 d2 r1 r2 0) (hC : CmpTo r1 r2 n1 d1 0) (hVs : ValidTo s1 s2 true) (hs2 : (s2 == 0) = false) (hP : p3 = 10) (hp1 : p1 = 0) (hp2 : p2 = 0) (w : World) :
    Calls Try.prog 6 #[.agg #[.int .i64 n1, .int .i64 d1], .agg #[.int .i64 n2, .int .i64 d2]] w fun e w' => e = .returned (.bool true) ∧ Below w.heap.size w w' := by
  subst hS
  subst hP
  subst hp1
  subst hp2
  have hka := @World.cell?_alloc_some
  go_enter Try.func6, Try.ntmps6
  go_wp2_with fail
  refine (awake_any _).mono ?_
  rintro e w1 ⟨rfl, hb1⟩
  have k0 : w1.cell? ⟨w.heap.size, 0, none⟩ = some (.int .i64 n1) := keepc hb1 (by simp [go_sem])
  have k1 : w1.cell? ⟨w.heap.size, 1, none⟩ = some (.int .i64 d1) := keepc hb1 (by simp [go_sem])
  have k2 : w1.cell? ⟨w.heap.size + 1, 0, none⟩ = some (.int .i64 n2) := keepc hb1 (by simp [go_sem])
  have k3 : w1.cell? ⟨w.heap.size + 1, 1, none⟩ = some (.int .i64 d2) := keepc hb1 (by simp [go_sem])
  have kb : Below w.heap.size w w1 := (((Below.refl w.heap.size w).alloc (by (try simp) <;> omega) _).alloc (by (try simp) <;> omega) _).trans (hb1.mono (by (try simp) <;> omega))
  clear hb1
  go_wp2_with fail
  refine (hV1 _).mono ?_
  rintro e w2 ⟨rfl, hb2⟩
  replace k0 := keepc hb2 k0
  replace k1 := keepc hb2 k1
  replace k2 := keepc hb2 k2
  replace k3 := keepc hb2 k3
  replace kb : Below w.heap.size w w2 := kb.trans (hb2.mono (Nat.le_trans kb.size (by simp)))
  clear hb2
  go_wp2_with fail
  refine (hV2 _).mono ?_
  rintro e w3 ⟨rfl, hb3⟩
  replace k0 := keepc hb3 k0
  replace k1 := keepc hb3 k1
  replace k2 := keepc hb3 k2
  replace k3 := keepc hb3 k3
  replace kb : Below w.heap.size w w3 := kb.trans (hb3.mono (Nat.le_trans kb.size (by simp)))
  clear hb3
  go_wp2_with fail
  refine (hAdd _).mono ?_
  rintro e w4 ⟨rfl, hb4⟩
  replace k0 := keepc hb4 k0
  replace k1 := keepc hb4 k1
  replace k2 := keepc hb4 k2
  replace k3 := keepc hb4 k3
  replace kb : Below w.heap.size w w4 := kb.trans (hb4.mono (Nat.le_trans kb.size (by simp)))
  clear hb4
  go_wp2_with fail
  refine (hSub _).mono ?_
  rintro e w5 ⟨rfl, hb5⟩
  replace k0 := keepc hb5 (keepa _ k0)
  replace k1 := keepc hb5 (keepa _ k1)
  replace k2 := keepc hb5 (keepa _ k2)
  replace k3 := keepc hb5 (keepa _ k3)
  have k4 : w5.cell? ⟨w4.heap.size, 0, none⟩ = some (.int .i64 s1) := keepc hb5 (by simp [go_sem])
  have k5 : w5.cell? ⟨w4.heap.size, 1, none⟩ = some (.int .i64 s2) := keepc hb5 (by simp [go_sem])
  replace kb : Below w.heap.size w w5 := (kb.alloc (Nat.le_trans kb.size (by simp)) _).trans (hb5.mono (Nat.le_trans kb.size (by simp)))
  clear hb5
  go_wp2_with fail
  refine (hC _).mono ?_
  rintro e w6 ⟨rfl, hb6⟩
  replace k0 := keepc hb6 (keepa _ k0)
  replace k1 := keepc hb6 (keepa _ k1)
  replace k2 := keepc hb6 (keepa _ k2)
  replace k3 := keepc hb6 (keepa _ k3)
  replace k4 := keepc hb6 (keepa _ k4)
  replace k5 := keepc hb6 (keepa _ k5)
  have k6 : w6.cell? ⟨w5.heap.size, 0, none⟩ = some (.int .i64 r1) := keepc hb6 (by simp [go_sem])
  have k7 : w6.cell? ⟨w5.heap.size, 1, none⟩ = some (.int .i64 r2) := keepc hb6 (by simp [go_sem])
  replace kb : Below w.heap.size w w6 := (kb.alloc (Nat.le_trans kb.size (by simp)) _).trans (hb6.mono (Nat.le_trans kb.size (by simp)))
  clear hb6
  go_wp2_with fail
  refine (hVs _).mono ?_
  rintro e w7 ⟨rfl, hb7⟩
  replace k0 := keepc hb7 k0
  replace k1 := keepc hb7 k1
  replace k2 := keepc hb7 k2
  replace k3 := keepc hb7 k3
  replace k4 := keepc hb7 k4
  replace k5 := keepc hb7 k5
  replace k6 := keepc hb7 k6
  replace k7 := keepc hb7 k7
  replace kb : Below w.heap.size w w7 := kb.trans (hb7.mono (Nat.le_trans kb.size (by simp)))
  clear hb7
  go_wp2_with fail
  refine (hMul _).mono ?_
  rintro e w8 ⟨rfl, hb8⟩
  replace k0 := keepc hb8 k0
  replace k1 := keepc hb8 k1
  replace k2 := keepc hb8 k2
  replace k3 := keepc hb8 k3
  replace k4 := keepc hb8 k4
  replace k5 := keepc hb8 k5
  replace k6 := keepc hb8 k6
  replace k7 := keepc hb8 k7
  replace kb : Below w.heap.size w w8 := kb.trans (hb8.mono (Nat.le_trans kb.size (by simp)))
  clear hb8
  go_wp2_with fail
  go_ret
  exact ⟨rfl, (kb.alloc (Nat.le_trans kb.size (by simp)) _)⟩

set_option maxHeartbeats 1000000 in
theorem undo_12 (n1 d1 n2 d2 s1 s2 s3 p1 p2 p3 r1 r2 q1 q2 : Int) (hV1 : ValidTo n1 d1 true) (hV2 : ValidTo n2 d2 true) (hAdd : AddTo n1 d1 n2 d2 s1 s2 s3) (hMul : MulTo n1 d1 n2 d2 p1 p2 p3)
    (hS : s3 = 0) (hSub : SubTo s1 s2 n2 d2 r1 r2 0) (hC : CmpTo r1 r2 n1 d1 0) (hVs : ValidTo s1 s2 true) (hs2 : (s2 == 0) = false) (hP : p3 = 0) (hn : n2 = 0) (hp1 : p1 = 0) (hp2 : p2 = 1) (hD : DivTo p1 p2 n2 d2 q1 q2 2) (w : World) :
    Calls Try.prog 6 #[.agg #[.int .i64 n1, .int .i64 d1], .agg #[.int .i64 n2, .int .i64 d2]] w fun e w' => e = .returned (.bool true) ∧ Below w.heap.size w w' := by
  subst hS
  subst hP
  subst hn
  subst hp1
  subst hp2
  have hka := @World.cell?_alloc_some
  go_enter Try.func6, Try.ntmps6
  go_wp2_with fail
  refine (awake_any _).mono ?_
  rintro e w1 ⟨rfl, hb1⟩
  have k0 : w1.cell? ⟨w.heap.size, 0, none⟩ = some (.int .i64 n1) := keepc hb1 (by simp [go_sem])
  have k1 : w1.cell? ⟨w.heap.size, 1, none⟩ = some (.int .i64 d1) := keepc hb1 (by simp [go_sem])
  have k2 : w1.cell? ⟨w.heap.size + 1, 0, none⟩ = some (.int .i64 0) := keepc hb1 (by simp [go_sem])
  have k3 : w1.cell? ⟨w.heap.size + 1, 1, none⟩ = some (.int .i64 d2) := keepc hb1 (by simp [go_sem])
  have kb : Below w.heap.size w w1 := (((Below.refl w.heap.size w).alloc (by (try simp) <;> omega) _).alloc (by (try simp) <;> omega) _).trans (hb1.mono (by (try simp) <;> omega))
  clear hb1
  go_wp2_with fail
  refine (hV1 _).mono ?_
  rintro e w2 ⟨rfl, hb2⟩
  replace k0 := keepc hb2 k0
  replace k1 := keepc hb2 k1
  replace k2 := keepc hb2 k2
  replace k3 := keepc hb2 k3
  replace kb : Below w.heap.size w w2 := kb.trans (hb2.mono (Nat.le_trans kb.size (by simp)))
  clear hb2
  go_wp2_with fail
  refine (hV2 _).mono ?_
  rintro e w3 ⟨rfl, hb3⟩
  replace k0 := keepc hb3 k0
  replace k1 := keepc hb3 k1
  replace k2 := keepc hb3 k2
  replace k3 := keepc hb3 k3
  replace kb : Below w.heap.size w w3 := kb.trans (hb3.mono (Nat.le_trans kb.size (by simp)))
  clear hb3
  go_wp2_with fail
  refine (hAdd _).mono ?_
  rintro e w4 ⟨rfl, hb4⟩
  replace k0 := keepc hb4 k0
  replace k1 := keepc hb4 k1
  replace k2 := keepc hb4 k2
  replace k3 := keepc hb4 k3
  replace kb : Below w.heap.size w w4 := kb.trans (hb4.mono (Nat.le_trans kb.size (by simp)))
  clear hb4
  go_wp2_with fail
  refine (hSub _).mono ?_
  rintro e w5 ⟨rfl, hb5⟩
  replace k0 := keepc hb5 (keepa _ k0)
  replace k1 := keepc hb5 (keepa _ k1)
  replace k2 := keepc hb5 (keepa _ k2)
  replace k3 := keepc hb5 (keepa _ k3)
  have k4 : w5.cell? ⟨w4.heap.size, 0, none⟩ = some (.int .i64 s1) := keepc hb5 (by simp [go_sem])
  have k5 : w5.cell? ⟨w4.heap.size, 1, none⟩ = some (.int .i64 s2) := keepc hb5 (by simp [go_sem])
  replace kb : Below w.heap.size w w5 := (kb.alloc (Nat.le_trans kb.size (by simp)) _).trans (hb5.mono (Nat.le_trans kb.size (by simp)))
  clear hb5
  go_wp2_with fail
  refine (hC _).mono ?_
  rintro e w6 ⟨rfl, hb6⟩
  replace k0 := keepc hb6 (keepa _ k0)
  replace k1 := keepc hb6 (keepa _ k1)
  replace k2 := keepc hb6 (keepa _ k2)
  replace k3 := keepc hb6 (keepa _ k3)
  replace k4 := keepc hb6 (keepa _ k4)
  replace k5 := keepc hb6 (keepa _ k5)
  have k6 : w6.cell? ⟨w5.heap.size, 0, none⟩ = some (.int .i64 r1) := keepc hb6 (by simp [go_sem])
  have k7 : w6.cell? ⟨w5.heap.size, 1, none⟩ = some (.int .i64 r2) := keepc hb6 (by simp [go_sem])
  replace kb : Below w.heap.size w w6 := (kb.alloc (Nat.le_trans kb.size (by simp)) _).trans (hb6.mono (Nat.le_trans kb.size (by simp)))
  clear hb6
  go_wp2_with fail
  refine (hVs _).mono ?_
  rintro e w7 ⟨rfl, hb7⟩
  replace k0 := keepc hb7 k0
  replace k1 := keepc hb7 k1
  replace k2 := keepc hb7 k2
  replace k3 := keepc hb7 k3
  replace k4 := keepc hb7 k4
  replace k5 := keepc hb7 k5
  replace k6 := keepc hb7 k6
  replace k7 := keepc hb7 k7
  replace kb : Below w.heap.size w w7 := kb.trans (hb7.mono (Nat.le_trans kb.size (by simp)))
  clear hb7
  go_wp2_with fail
  refine (hMul _).mono ?_
  rintro e w8 ⟨rfl, hb8⟩
  replace k0 := keepc hb8 k0
  replace k1 := keepc hb8 k1
  replace k2 := keepc hb8 k2
  replace k3 := keepc hb8 k3
  replace k4 := keepc hb8 k4
  replace k5 := keepc hb8 k5
  replace k6 := keepc hb8 k6
  replace k7 := keepc hb8 k7
  replace kb : Below w.heap.size w w8 := kb.trans (hb8.mono (Nat.le_trans kb.size (by simp)))
  clear hb8
  go_wp2_with fail
  refine (hD _).mono ?_
  rintro e w9 ⟨rfl, hb9⟩
  replace k0 := keepc hb9 (keepa _ k0)
  replace k1 := keepc hb9 (keepa _ k1)
  replace k2 := keepc hb9 (keepa _ k2)
  replace k3 := keepc hb9 (keepa _ k3)
  replace k4 := keepc hb9 (keepa _ k4)
  replace k5 := keepc hb9 (keepa _ k5)
  replace k6 := keepc hb9 (keepa _ k6)
  replace k7 := keepc hb9 (keepa _ k7)
  have k8 : w9.cell? ⟨w8.heap.size, 0, none⟩ = some (.int .i64 0) := keepc hb9 (by simp [go_sem])
  have k9 : w9.cell? ⟨w8.heap.size, 1, none⟩ = some (.int .i64 1) := keepc hb9 (by simp [go_sem])
  replace kb : Below w.heap.size w w9 := (kb.alloc (Nat.le_trans kb.size (by simp)) _).trans (hb9.mono (Nat.le_trans kb.size (by simp)))
  clear hb9
  go_wp2_with fail
  go_ret
  exact ⟨rfl, (kb.alloc (Nat.le_trans kb.size (by simp)) _)⟩

set_option maxHeartbeats 1000000 in
theorem undo_13 (n1 d1 n2 d2 s1 s2 s3 p1 p2 p3 r1 r2 q1 q2 : Int) (hV1 : ValidTo n1 d1 true) (hV2 : ValidTo n2 d2 true) (hAdd : AddTo n1 d1 n2 d2 s1 s2 s3) (hMul : MulTo n1 d1 n2 d2 p1 p2 p3)
    (hS : s3 = 0) (hSub : SubTo s1 s2 n2 d2 r1 r2 0) (hC : CmpTo r1 r2 n1 d1 0) (hVs : ValidTo s1 s2 true) (hs2 : (s2 == 0) = false) (hP : p3 = 0) (hn : (n2 == 0) = false) (hD : DivTo p1 p2 n2 d2 q1 q2 0) (hE : CmpTo q1 q2 n1 d1 0) (hVp : ValidTo p1 p2 true) (w : World) :
    Calls Try.prog 6 #[.agg #[.int .i64 n1, .int .i64 d1], .agg #[.int .i64 n2, .int .i64 d2]] w fun e w' => e = .returned (.bool true) ∧ Below w.heap.size w w' := by
  subst hS
  subst hP
  have hka := @World.cell?_alloc_some
  go_enter Try.func6, Try.ntmps6
  go_wp2_with fail
  refine (awake_any _).mono ?_
  rintro e w1 ⟨rfl, hb1⟩
  have k0 : w1.cell? ⟨w.heap.size, 0, none⟩ = some (.int .i64 n1) := keepc hb1 (by simp [go_sem])
  have k1 : w1.cell? ⟨w.heap.size, 1, none⟩ = some (.int .i64 d1) := keepc hb1 (by simp [go_sem])
  have k2 : w1.cell? ⟨w.heap.size + 1, 0, none⟩ = some (.int .i64 n2) := keepc hb1 (by simp [go_sem])
  have k3 : w1.cell? ⟨w.heap.size + 1, 1, none⟩ = some (.int .i64 d2) := keepc hb1 (by simp [go_sem])
  have kb : Below w.heap.size w w1 := (((Below.refl w.heap.size w).alloc (by (try simp) <;> omega) _).alloc (by (try simp) <;> omega) _).trans (hb1.mono (by (try simp) <;> omega))
  clear hb1
  go_wp2_with fail
  refine (hV1 _).mono ?_
  rintro e w2 ⟨rfl, hb2⟩
  replace k0 := keepc hb2 k0
  replace k1 := keepc hb2 k1
  replace k2 := keepc hb2 k2
  replace k3 := keepc hb2 k3
  replace kb : Below w.heap.size w w2 := kb.trans (hb2.mono (Nat.le_trans kb.size (by simp)))
  clear hb2
  go_wp2_with fail
  refine (hV2 _).mono ?_
  rintro e w3 ⟨rfl, hb3⟩
  replace k0 := keepc hb3 k0
  replace k1 := keepc hb3 k1
  replace k2 := keepc hb3 k2
  replace k3 := keepc hb3 k3
  replace kb : Below w.heap.size w w3 := kb.trans (hb3.mono (Nat.le_trans kb.size (by simp)))
  clear hb3
  go_wp2_with fail
  refine (hAdd _).mono ?_
  rintro e w4 ⟨rfl, hb4⟩
  replace k0 := keepc hb4 k0
  replace k1 := keepc hb4 k1
  replace k2 := keepc hb4 k2
  replace k3 := keepc hb4 k3
  replace kb : Below w.heap.size w w4 := kb.trans (hb4.mono (Nat.le_trans kb.size (by simp)))
  clear hb4
  go_wp2_with fail
  refine (hSub _).mono ?_
  rintro e w5 ⟨rfl, hb5⟩
  replace k0 := keepc hb5 (keepa _ k0)
  replace k1 := keepc hb5 (keepa _ k1)
  replace k2 := keepc hb5 (keepa _ k2)
  replace k3 := keepc hb5 (keepa _ k3)
  have k4 : w5.cell? ⟨w4.heap.size, 0, none⟩ = some (.int .i64 s1) := keepc hb5 (by simp [go_sem])
  have k5 : w5.cell? ⟨w4.heap.size, 1, none⟩ = some (.int .i64 s2) := keepc hb5 (by simp [go_sem])
  replace kb : Below w.heap.size w w5 := (kb.alloc (Nat.le_trans kb.size (by simp)) _).trans (hb5.mono (Nat.le_trans kb.size (by simp)))
  clear hb5
  go_wp2_with fail
  refine (hC _).mono ?_
  rintro e w6 ⟨rfl, hb6⟩
  replace k0 := keepc hb6 (keepa _ k0)
  replace k1 := keepc hb6 (keepa _ k1)
  replace k2 := keepc hb6 (keepa _ k2)
  replace k3 := keepc hb6 (keepa _ k3)
  replace k4 := keepc hb6 (keepa _ k4)
  replace k5 := keepc hb6 (keepa _ k5)
  have k6 : w6.cell? ⟨w5.heap.size, 0, none⟩ = some (.int .i64 r1) := keepc hb6 (by simp [go_sem])
  have k7 : w6.cell? ⟨w5.heap.size, 1, none⟩ = some (.int .i64 r2) := keepc hb6 (by simp [go_sem])
  replace kb : Below w.heap.size w w6 := (kb.alloc (Nat.le_trans kb.size (by simp)) _).trans (hb6.mono (Nat.le_trans kb.size (by simp)))
  clear hb6
  go_wp2_with fail
  refine (hVs _).mono ?_
  rintro e w7 ⟨rfl, hb7⟩
  replace k0 := keepc hb7 k0
  replace k1 := keepc hb7 k1
  replace k2 := keepc hb7 k2
  replace k3 := keepc hb7 k3
  replace k4 := keepc hb7 k4
  replace k5 := keepc hb7 k5
  replace k6 := keepc hb7 k6
  replace k7 := keepc hb7 k7
  replace kb : Below w.heap.size w w7 := kb.trans (hb7.mono (Nat.le_trans kb.size (by simp)))
  clear hb7
  go_wp2_with fail
  refine (hMul _).mono ?_
  rintro e w8 ⟨rfl, hb8⟩
  replace k0 := keepc hb8 k0
  replace k1 := keepc hb8 k1
  replace k2 := keepc hb8 k2
  replace k3 := keepc hb8 k3
  replace k4 := keepc hb8 k4
  replace k5 := keepc hb8 k5
  replace k6 := keepc hb8 k6
  replace k7 := keepc hb8 k7
  replace kb : Below w.heap.size w w8 := kb.trans (hb8.mono (Nat.le_trans kb.size (by simp)))
  clear hb8
  go_wp2_with fail
  refine (hD _).mono ?_
  rintro e w9 ⟨rfl, hb9⟩
  replace k0 := keepc hb9 (keepa _ k0)
  replace k1 := keepc hb9 (keepa _ k1)
  replace k2 := keepc hb9 (keepa _ k2)
  replace k3 := keepc hb9 (keepa _ k3)
  replace k4 := keepc hb9 (keepa _ k4)
  replace k5 := keepc hb9 (keepa _ k5)
  replace k6 := keepc hb9 (keepa _ k6)
  replace k7 := keepc hb9 (keepa _ k7)
  have k8 : w9.cell? ⟨w8.heap.size, 0, none⟩ = some (.int .i64 p1) := keepc hb9 (by simp [go_sem])
  have k9 : w9.cell? ⟨w8.heap.size, 1, none⟩ = some (.int .i64 p2) := keepc hb9 (by simp [go_sem])
  replace kb : Below w.heap.size w w9 := (kb.alloc (Nat.le_trans kb.size (by simp)) _).trans (hb9.mono (Nat.le_trans kb.size (by simp)))
  clear hb9
  go_wp2_with fail
  refine (hE _).mono ?_
  rintro e w10 ⟨rfl, hb10⟩
  replace k0 := keepc hb10 (keepa _ k0)
  replace k1 := keepc hb10 (keepa _ k1)
  replace k2 := keepc hb10 (keepa _ k2)
  replace k3 := keepc hb10 (keepa _ k3)
  replace k4 := keepc hb10 (keepa _ k4)
  replace k5 := keepc hb10 (keepa _ k5)
  replace k6 := keepc hb10 (keepa _ k6)
  replace k7 := keepc hb10 (keepa _ k7)
  replace k8 := keepc hb10 (keepa _ k8)
  replace k9 := keepc hb10 (keepa _ k9)
  have k10 : w10.cell? ⟨w9.heap.size, 0, none⟩ = some (.int .i64 q1) := keepc hb10 (by simp [go_sem])
  have k11 : w10.cell? ⟨w9.heap.size, 1, none⟩ = some (.int .i64 q2) := keepc hb10 (by simp [go_sem])
  replace kb : Below w.heap.size w w10 := (kb.alloc (Nat.le_trans kb.size (by simp)) _).trans (hb10.mono (Nat.le_trans kb.size (by simp)))
  clear hb10
  go_wp2_with fail
  refine (hVp _).mono ?_
  rintro e w11 ⟨rfl, hb11⟩
  replace k0 := keepc hb11 k0
  replace k1 := keepc hb11 k1
  replace k2 := keepc hb11 k2
  replace k3 := keepc hb11 k3
  replace k4 := keepc hb11 k4
  replace k5 := keepc hb11 k5
  replace k6 := keepc hb11 k6
  replace k7 := keepc hb11 k7
  replace k8 := keepc hb11 k8
  replace k9 := keepc hb11 k9
  replace k10 := keepc hb11 k10
  replace k11 := keepc hb11 k11
  replace kb : Below w.heap.size w w11 := kb.trans (hb11.mono (Nat.le_trans kb.size (by simp)))
  clear hb11
  go_wp2_with fail
  go_ret
  exact ⟨rfl, kb⟩

set_option maxHeartbeats 1000000 in
theorem undo_21 (n1 d1 n2 d2 s1 s2 s3 p1 p2 p3   : Int) (hV1 : ValidTo n1 d1 true) (hV2 : ValidTo n2 d2 true) (hAdd : AddTo n1 d1 n2 d2 s1 s2 s3) (hMul : MulTo n1 d1 n2 d2 p1 p2 p3)
    (hS : s3 = 10) (hs1 : s1 = 0) (hs2 : s2 = 0) (hP : p3 = 10) (hp1 : p1 = 0) (hp2 : p2 = 0) (w : World) :
    Calls Try.prog 6 #[.agg #[.int .i64 n1, .int .i64 d1], .agg #[.int .i64 n2, .int .i64 d2]] w fun e w' => e = .returned (.bool true) ∧ Below w.heap.size w w' := by
  subst hS
  subst hs1
  subst hs2
  subst hP
  subst hp1
  subst hp2
  have hka := @World.cell?_alloc_some
  go_enter Try.func6, Try.ntmps6
  go_wp2_with fail
  refine (awake_any _).mono ?_
  rintro e w1 ⟨rfl, hb1⟩
  have k0 : w1.cell? ⟨w.heap.size, 0, none⟩ = some (.int .i64 n1) := keepc hb1 (by simp [go_sem])
  have k1 : w1.cell? ⟨w.heap.size, 1, none⟩ = some (.int .i64 d1) := keepc hb1 (by simp [go_sem])
  have k2 : w1.cell? ⟨w.heap.size + 1, 0, none⟩ = some (.int .i64 n2) := keepc hb1 (by simp [go_sem])
  have k3 : w1.cell? ⟨w.heap.size + 1, 1, none⟩ = some (.int .i64 d2) := keepc hb1 (by simp [go_sem])
  have kb : Below w.heap.size w w1 := (((Below.refl w.heap.size w).alloc (by (try simp) <;> omega) _).alloc (by (try simp) <;> omega) _).trans (hb1.mono (by (try simp) <;> omega))
  clear hb1
  go_wp2_with fail
  refine (hV1 _).mono ?_
  rintro e w2 ⟨rfl, hb2⟩
  replace k0 := keepc hb2 k0
  replace k1 := keepc hb2 k1
  replace k2 := keepc hb2 k2
  replace k3 := keepc hb2 k3
  replace kb : Below w.heap.size w w2 := kb.trans (hb2.mono (Nat.le_trans kb.size (by simp)))
  clear hb2
  go_wp2_with fail
  refine (hV2 _).mono ?_
  rintro e w3 ⟨rfl, hb3⟩
  replace k0 := keepc hb3 k0
  replace k1 := keepc hb3 k1
  replace k2 := keepc hb3 k2
  replace k3 := keepc hb3 k3
  replace kb : Below w.heap.size w w3 := kb.trans (hb3.mono (Nat.le_trans kb.size (by simp)))
  clear hb3
  go_wp2_with fail
  refine (hAdd _).mono ?_
  rintro e w4 ⟨rfl, hb4⟩
  replace k0 := keepc hb4 k0
  replace k1 := keepc hb4 k1
  replace k2 := keepc hb4 k2
  replace k3 := keepc hb4 k3
  replace kb : Below w.heap.size w w4 := kb.trans (hb4.mono (Nat.le_trans kb.size (by simp)))
  clear hb4
  go_wp2_with fail
  refine (hMul _).mono ?_
  rintro e w5 ⟨rfl, hb5⟩
  replace k0 := keepc hb5 (keepa _ k0)
  replace k1 := keepc hb5 (keepa _ k1)
  replace k2 := keepc hb5 (keepa _ k2)
  replace k3 := keepc hb5 (keepa _ k3)
  have k4 : w5.cell? ⟨w4.heap.size, 0, none⟩ = some (.int .i64 0) := keepc hb5 (by simp [go_sem])
  have k5 : w5.cell? ⟨w4.heap.size, 1, none⟩ = some (.int .i64 0) := keepc hb5 (by simp [go_sem])
  replace kb : Below w.heap.size w w5 := (kb.alloc (Nat.le_trans kb.size (by simp)) _).trans (hb5.mono (Nat.le_trans kb.size (by simp)))
  clear hb5
  go_wp2_with fail
  go_ret
  exact ⟨rfl, (kb.alloc (Nat.le_trans kb.size (by simp)) _)⟩

set_option maxHeartbeats 1000000 in
theorem undo_22 (n1 d1 n2 d2 s1 s2 s3 p1 p2 p3  q1 q2 : Int) (hV1 : ValidTo n1 d1 true) (hV2 : ValidTo n2 d2 true) (hAdd : AddTo n1 d1 n2 d2 s1 s2 s3) (hMul : MulTo n1 d1 n2 d2 p1 p2 p3)
    (hS : s3 = 10) (hs1 : s1 = 0) (hs2 : s2 = 0) (hP : p3 = 0) (hn : n2 = 0) (hp1 : p1 = 0) (hp2 : p2 = 1) (hD : DivTo p1 p2 n2 d2 q1 q2 2) (w : World) :
    Calls Try.prog 6 #[.agg #[.int .i64 n1, .int .i64 d1], .agg #[.int .i64 n2, .int .i64 d2]] w fun e w' => e = .returned (.bool true) ∧ Below w.heap.size w w' := by
  subst hS
  subst hs1
  subst hs2
  subst hP
  subst hn
  subst hp1
  subst hp2
  have hka := @World.cell?_alloc_some
  go_enter Try.func6, Try.ntmps6
  go_wp2_with fail
  refine (awake_any _).mono ?_
  rintro e w1 ⟨rfl, hb1⟩
  have k0 : w1.cell? ⟨w.heap.size, 0, none⟩ = some (.int .i64 n1) := keepc hb1 (by simp [go_sem])
  have k1 : w1.cell? ⟨w.heap.size, 1, none⟩ = some (.int .i64 d1) := keepc hb1 (by simp [go_sem])
  have k2 : w1.cell? ⟨w.heap.size + 1, 0, none⟩ = some (.int .i64 0) := keepc hb1 (by simp [go_sem])
  have k3 : w1.cell? ⟨w.heap.size + 1, 1, none⟩ = some (.int .i64 d2) := keepc hb1 (by simp [go_sem])
  have kb : Below w.heap.size w w1 := (((Below.refl w.heap.size w).alloc (by (try simp) <;> omega) _).alloc (by (try simp) <;> omega) _).trans (hb1.mono (by (try simp) <;> omega))
  clear hb1
  go_wp2_with fail
  refine (hV1 _).mono ?_
  rintro e w2 ⟨rfl, hb2⟩
  replace k0 := keepc hb2 k0
  replace k1 := keepc hb2 k1
  replace k2 := keepc hb2 k2
  replace k3 := keepc hb2 k3
  replace kb : Below w.heap.size w w2 := kb.trans (hb2.mono (Nat.le_trans kb.size (by simp)))
  clear hb2
  go_wp2_with fail
  refine (hV2 _).mono ?_
  rintro e w3 ⟨rfl, hb3⟩
  replace k0 := keepc hb3 k0
  replace k1 := keepc hb3 k1
  replace k2 := keepc hb3 k2
  replace k3 := keepc hb3 k3
  replace kb : Below w.heap.size w w3 := kb.trans (hb3.mono (Nat.le_trans kb.size (by simp)))
  clear hb3
  go_wp2_with fail
  refine (hAdd _).mono ?_
  rintro e w4 ⟨rfl, hb4⟩
  replace k0 := keepc hb4 k0
  replace k1 := keepc hb4 k1
  replace k2 := keepc hb4 k2
  replace k3 := keepc hb4 k3
  replace kb : Below w.heap.size w w4 := kb.trans (hb4.mono (Nat.le_trans kb.size (by simp)))
  clear hb4
  go_wp2_with fail
  refine (hMul _).mono ?_
  rintro e w5 ⟨rfl, hb5⟩
  replace k0 := keepc hb5 (keepa _ k0)
  replace k1 := keepc hb5 (keepa _ k1)
  replace k2 := keepc hb5 (keepa _ k2)
  replace k3 := keepc hb5 (keepa _ k3)
  have k4 : w5.cell? ⟨w4.heap.size, 0, none⟩ = some (.int .i64 0) := keepc hb5 (by simp [go_sem])
  have k5 : w5.cell? ⟨w4.heap.size, 1, none⟩ = some (.int .i64 0) := keepc hb5 (by simp [go_sem])
  replace kb : Below w.heap.size w w5 := (kb.alloc (Nat.le_trans kb.size (by simp)) _).trans (hb5.mono (Nat.le_trans kb.size (by simp)))
  clear hb5
  go_wp2_with fail
  refine (hD _).mono ?_
  rintro e w6 ⟨rfl, hb6⟩
  replace k0 := keepc hb6 (keepa _ k0)
  replace k1 := keepc hb6 (keepa _ k1)
  replace k2 := keepc hb6 (keepa _ k2)
  replace k3 := keepc hb6 (keepa _ k3)
  replace k4 := keepc hb6 (keepa _ k4)
  replace k5 := keepc hb6 (keepa _ k5)
  have k6 : w6.cell? ⟨w5.heap.size, 0, none⟩ = some (.int .i64 0) := keepc hb6 (by simp [go_sem])
  have k7 : w6.cell? ⟨w5.heap.size, 1, none⟩ = some (.int .i64 1) := keepc hb6 (by simp [go_sem])
  replace kb : Below w.heap.size w w6 := (kb.alloc (Nat.le_trans kb.size (by simp)) _).trans (hb6.mono (Nat.le_trans kb.size (by simp)))
  clear hb6
  go_wp2_with fail
  go_ret
  exact ⟨rfl, (kb.alloc (Nat.le_trans kb.size (by simp)) _)⟩

set_option maxHeartbeats 1000000 in
theorem undo_23 (n1 d1 n2 d2 s1 s2 s3 p1 p2 p3  q1 q2 : Int) (hV1 : ValidTo n1 d1 true) (hV2 : ValidTo n2 d2 true) (hAdd : AddTo n1 d1 n2 d2 s1 s2 s3) (hMul : MulTo n1 d1 n2 d2 p1 p2 p3)
    (hS : s3 = 10) (hs1 : s1 = 0) (hs2 : s2 = 0) (hP : p3 = 0) (hn : (n2 == 0) = false) (hD : DivTo p1 p2 n2 d2 q1 q2 0) (hE : CmpTo q1 q2 n1 d1 0) (hVp : ValidTo p1 p2 true) (w : World) :
    Calls Try.prog 6 #[.agg #[.int .i64 n1, .int .i64 d1], .agg #[.int .i64 n2, .int .i64 d2]] w fun e w' => e = .returned (.bool true) ∧ Below w.heap.size w w' := by
  subst hS
  subst hs1
  subst hs2
  subst hP
  have hka := @World.cell?_alloc_some
  go_enter Try.func6, Try.ntmps6
  go_wp2_with fail
  refine (awake_any _).mono ?_
  rintro e w1 ⟨rfl, hb1⟩
  have k0 : w1.cell? ⟨w.heap.size, 0, none⟩ = some (.int .i64 n1) := keepc hb1 (by simp [go_sem])
  have k1 : w1.cell? ⟨w.heap.size, 1, none⟩ = some (.int .i64 d1) := keepc hb1 (by simp [go_sem])
  have k2 : w1.cell? ⟨w.heap.size + 1, 0, none⟩ = some (.int .i64 n2) := keepc hb1 (by simp [go_sem])
  have k3 : w1.cell? ⟨w.heap.size + 1, 1, none⟩ = some (.int .i64 d2) := keepc hb1 (by simp [go_sem])
  have kb : Below w.heap.size w w1 := (((Below.refl w.heap.size w).alloc (by (try simp) <;> omega) _).alloc (by (try simp) <;> omega) _).trans (hb1.mono (by (try simp) <;> omega))
  clear hb1
  go_wp2_with fail
  refine (hV1 _).mono ?_
  rintro e w2 ⟨rfl, hb2⟩
  replace k0 := keepc hb2 k0
  replace k1 := keepc hb2 k1
  replace k2 := keepc hb2 k2
  replace k3 := keepc hb2 k3
  replace kb : Below w.heap.size w w2 := kb.trans (hb2.mono (Nat.le_trans kb.size (by simp)))
  clear hb2
  go_wp2_with fail
  refine (hV2 _).mono ?_
  rintro e w3 ⟨rfl, hb3⟩
  replace k0 := keepc hb3 k0
  replace k1 := keepc hb3 k1
  replace k2 := keepc hb3 k2
  replace k3 := keepc hb3 k3
  replace kb : Below w.heap.size w w3 := kb.trans (hb3.mono (Nat.le_trans kb.size (by simp)))
  clear hb3
  go_wp2_with fail
  refine (hAdd _).mono ?_
  rintro e w4 ⟨rfl, hb4⟩
  replace k0 := keepc hb4 k0
  replace k1 := keepc hb4 k1
  replace k2 := keepc hb4 k2
  replace k3 := keepc hb4 k3
  replace kb : Below w.heap.size w w4 := kb.trans (hb4.mono (Nat.le_trans kb.size (by simp)))
  clear hb4
  go_wp2_with fail
  refine (hMul _).mono ?_
  rintro e w5 ⟨rfl, hb5⟩
  replace k0 := keepc hb5 (keepa _ k0)
  replace k1 := keepc hb5 (keepa _ k1)
  replace k2 := keepc hb5 (keepa _ k2)
  replace k3 := keepc hb5 (keepa _ k3)
  have k4 : w5.cell? ⟨w4.heap.size, 0, none⟩ = some (.int .i64 0) := keepc hb5 (by simp [go_sem])
  have k5 : w5.cell? ⟨w4.heap.size, 1, none⟩ = some (.int .i64 0) := keepc hb5 (by simp [go_sem])
  replace kb : Below w.heap.size w w5 := (kb.alloc (Nat.le_trans kb.size (by simp)) _).trans (hb5.mono (Nat.le_trans kb.size (by simp)))
  clear hb5
  go_wp2_with fail
  refine (hD _).mono ?_
  rintro e w6 ⟨rfl, hb6⟩
  replace k0 := keepc hb6 (keepa _ k0)
  replace k1 := keepc hb6 (keepa _ k1)
  replace k2 := keepc hb6 (keepa _ k2)
  replace k3 := keepc hb6 (keepa _ k3)
  replace k4 := keepc hb6 (keepa _ k4)
  replace k5 := keepc hb6 (keepa _ k5)
  have k6 : w6.cell? ⟨w5.heap.size, 0, none⟩ = some (.int .i64 p1) := keepc hb6 (by simp [go_sem])
  have k7 : w6.cell? ⟨w5.heap.size, 1, none⟩ = some (.int .i64 p2) := keepc hb6 (by simp [go_sem])
  replace kb : Below w.heap.size w w6 := (kb.alloc (Nat.le_trans kb.size (by simp)) _).trans (hb6.mono (Nat.le_trans kb.size (by simp)))
  clear hb6
  go_wp2_with fail
  refine (hE _).mono ?_
  rintro e w7 ⟨rfl, hb7⟩
  replace k0 := keepc hb7 (keepa _ k0)
  replace k1 := keepc hb7 (keepa _ k1)
  replace k2 := keepc hb7 (keepa _ k2)
  replace k3 := keepc hb7 (keepa _ k3)
  replace k4 := keepc hb7 (keepa _ k4)
  replace k5 := keepc hb7 (keepa _ k5)
  replace k6 := keepc hb7 (keepa _ k6)
  replace k7 := keepc hb7 (keepa _ k7)
  have k8 : w7.cell? ⟨w6.heap.size, 0, none⟩ = some (.int .i64 q1) := keepc hb7 (by simp [go_sem])
  have k9 : w7.cell? ⟨w6.heap.size, 1, none⟩ = some (.int .i64 q2) := keepc hb7 (by simp [go_sem])
  replace kb : Below w.heap.size w w7 := (kb.alloc (Nat.le_trans kb.size (by simp)) _).trans (hb7.mono (Nat.le_trans kb.size (by simp)))
  clear hb7
  go_wp2_with fail
  refine (hVp _).mono ?_
  rintro e w8 ⟨rfl, hb8⟩
  replace k0 := keepc hb8 k0
  replace k1 := keepc hb8 k1
  replace k2 := keepc hb8 k2
  replace k3 := keepc hb8 k3
  replace k4 := keepc hb8 k4
  replace k5 := keepc hb8 k5
  replace k6 := keepc hb8 k6
  replace k7 := keepc hb8 k7
  replace k8 := keepc hb8 k8
  replace k9 := keepc hb8 k9
  replace kb : Below w.heap.size w w8 := kb.trans (hb8.mono (Nat.le_trans kb.size (by simp)))
  clear hb8
  go_wp2_with fail
  go_ret
  exact ⟨rfl, kb⟩

theorem wrap_neg {c d : Int} (h : okR c d) : wrap64 (-c) = -c ∧ okR (-c) d ∧ toR (-c) d = -toR c d := by
  obtain ⟨i1, i2, _⟩ := okR_num h
  refine ⟨by unfold wrap64; omega, ?_, ?_⟩
  · rcases h with ⟨rfl, rfl⟩ | ⟨h1, h2, h3, h4, h5⟩
    · exact .inl ⟨rfl, rfl⟩
    · exact .inr ⟨h1, h2, by omega, by omega, by unfold gd at *; rw [Int.neg_gcd]; exact h5⟩
  · unfold toR; rw [Rat.neg_mkRat]
theorem cmp_self {a b c d : Int} (h1 : okR a b) (h2 : okR c d) (h : toR a b = toR c d) : cmpS a b c d = 0 := by
  obtain ⟨x1, x2⟩ := toR_num h1
  obtain ⟨y1, y2⟩ := toR_num h2
  rw [h] at x1 x2
  have e1 : a = c := x1.symm.trans y1
  have e2 : full b = full d := x2.symm.trans y2
  unfold cmpS cmpI
  rw [validB_of h1, validB_of h2, Bool.and_self, if_pos rfl, e1, e2]
  simp
theorem outR_self {a b : Int} (h : okR a b) : outR (toR a b) = (a, full b, 0) ∧ okR a (full b) ∧ toR a (full b) = toR a b := by
  obtain ⟨x1, x2⟩ := toR_num h
  obtain ⟨i1, i2, i3, i4, _⟩ := okR_num h
  have f := full_pos h
  have e : outR (toR a b) = (a, full b, 0) := by
    unfold outR
    rw [x1, x2, if_neg (by unfold mag; split <;> omega)]
  obtain ⟨k1, k2, _⟩ := outR_ok e rfl
  exact ⟨e, k1, k2⟩
theorem okR_i64 {a b : Int} (h : okR a b) : I64 a ∧ I64 b := by
  obtain ⟨i1, i2, i3, i4, _⟩ := okR_num h
  exact ⟨⟨by omega, by omega⟩, ⟨by omega, by omega⟩⟩
theorem toR_zero {d : Int} : toR 0 d = 0 := by unfold toR; exact Rat.zero_mkRat _
theorem toR_ne {c d : Int} (h : okR c d) (hc : c ≠ 0) : toR c d ≠ 0 := by
  intro e
  obtain ⟨x1, _⟩ := toR_num h
  rw [e] at x1
  exact hc x1.symm

theorem undo_any (n1 d1 n2 d2 : Int) (a1 : I64 n1) (a2 : I64 d1) (b1 : I64 n2) (b2 : I64 d2) (w : World) :
    Calls Try.prog 6 #[.agg #[.int .i64 n1, .int .i64 d1], .agg #[.int .i64 n2, .int .i64 d2]] w fun e w' => e = .returned (.bool true) ∧ Below w.heap.size w w' := by
  by_cases h1 : validB n1 d1 = true
  rotate_left
  · rw [Bool.not_eq_true] at h1
    exact undo_bad1 n1 d1 n2 d2 (validTo a1 a2 h1) w
  by_cases h2 : validB n2 d2 = true
  rotate_left
  · rw [Bool.not_eq_true] at h2
    exact undo_bad2 n1 d1 n2 d2 (validTo a1 a2 h1) (validTo b1 b2 h2) w
  have o1 := okR_of h1
  have o2 := okR_of h2
  have V1 := validTo a1 a2 h1
  have V2 := validTo b1 b2 h2
  obtain ⟨s1, s2, s3, hS⟩ : ∃ x y z, outR (toR n1 d1 + toR n2 d2) = (x, y, z) := ⟨_, _, _, rfl⟩
  obtain ⟨p1, p2, p3, hP⟩ : ∃ x y z, outR (toR n1 d1 * toR n2 d2) = (x, y, z) := ⟨_, _, _, rfl⟩
  have A := addTo a1 a2 b1 b2 ((addS_ok o1 o2).trans hS)
  have Mu := mulTo a1 a2 b1 b2 ((mulS_ok o1 o2).trans hP)
  -- the sum
  have hsum : (s3 = 0 ∧ ∃ r1 r2, SubTo s1 s2 n2 d2 r1 r2 0 ∧ CmpTo r1 r2 n1 d1 0 ∧ ValidTo s1 s2 true ∧ (s2 == 0) = false) ∨ (s3 = 10 ∧ s1 = 0 ∧ s2 = 0) := by
    rcases outR_cases (toR n1 d1 + toR n2 d2) with k | ⟨k, k1, k2⟩
    · rw [k] at hS; cases hS; exact .inr ⟨rfl, rfl, rfl⟩
    · rw [k] at hS
      obtain ⟨w1, w2, w3⟩ := wrap_neg o2
      have hne : (toR n1 d1 + toR n2 d2).den ≠ 0 := Rat.den_nz _
      cases hS
      refine .inl ⟨rfl, ?_⟩
      have back : toR (toR n1 d1 + toR n2 d2).num (toR n1 d1 + toR n2 d2).den + toR (-n2) d2 = toR n1 d1 := by
        rw [k2, w3, Rat.add_assoc, Rat.add_neg_cancel, Rat.add_zero]
      obtain ⟨j, j1, j2⟩ := outR_self o1
      exact ⟨_, _, subTo (okR_i64 k1).1 (okR_i64 k1).2 b2 (by rw [w1, addS_ok k1 w2, back, j]), cmpTo (okR_i64 j1).1 (okR_i64 j1).2 a1 a2 (cmp_self j1 o1 j2), validTo (okR_i64 k1).1 (okR_i64 k1).2 (validB_of k1), by rw [beq_eq_false_iff_ne]; omega⟩
  have hprod : (p3 = 10 ∧ p1 = 0 ∧ p2 = 0) ∨ (p3 = 0 ∧ n2 = 0 ∧ p1 = 0 ∧ p2 = 1 ∧ ∃ q1 q2, DivTo p1 p2 n2 d2 q1 q2 2) ∨
      (p3 = 0 ∧ (n2 == 0) = false ∧ ∃ q1 q2, DivTo p1 p2 n2 d2 q1 q2 0 ∧ CmpTo q1 q2 n1 d1 0 ∧ ValidTo p1 p2 true) := by
    rcases outR_cases (toR n1 d1 * toR n2 d2) with k | ⟨k, k1, k2⟩
    · rw [k] at hP; cases hP; exact .inl ⟨rfl, rfl, rfl⟩
    · rw [k] at hP
      cases hP
      by_cases hn : n2 = 0
      · have e0 : toR n1 d1 * toR n2 d2 = 0 := by rw [hn, toR_zero, Rat.mul_zero]
        rw [e0] at k1 ⊢
        refine .inr (.inl ⟨rfl, hn, rfl, rfl, 0, 0, divTo (okR_i64 k1).1 (okR_i64 k1).2 b1 b2 ?_⟩)
        unfold divS; rw [validB_of k1, h2, Bool.and_self, if_pos rfl, if_pos hn]
      · refine .inr (.inr ⟨rfl, beq_eq_false_iff_ne.2 hn, ?_⟩)
        have back : toR (toR n1 d1 * toR n2 d2).num (toR n1 d1 * toR n2 d2).den / toR n2 d2 = toR n1 d1 := by
          rw [k2, Rat.mul_div_cancel (toR_ne o2 hn)]
        obtain ⟨j, j1, j2⟩ := outR_self o1
        exact ⟨_, _, divTo (okR_i64 k1).1 (okR_i64 k1).2 b1 b2 (by rw [divS_ok k1 o2 hn, back, j]), cmpTo (okR_i64 j1).1 (okR_i64 j1).2 a1 a2 (cmp_self j1 o1 j2), validTo (okR_i64 k1).1 (okR_i64 k1).2 (validB_of k1)⟩
  rcases hsum with ⟨e1, r1, r2, f1, f2, f3, f4⟩ | ⟨e1, e2, e3⟩ <;> rcases hprod with ⟨g1, g2, g3⟩ | ⟨g1, g2, g3, g4, q1, q2, g5⟩ | ⟨g1, g2, q1, q2, g3, g4, g5⟩
  · exact undo_11 n1 d1 n2 d2 s1 s2 s3 p1 p2 p3 r1 r2 V1 V2 A Mu e1 f1 f2 f3 f4 g1 g2 g3 w
  · exact undo_12 n1 d1 n2 d2 s1 s2 s3 p1 p2 p3 r1 r2 q1 q2 V1 V2 A Mu e1 f1 f2 f3 f4 g1 g2 g3 g4 g5 w
  · exact undo_13 n1 d1 n2 d2 s1 s2 s3 p1 p2 p3 r1 r2 q1 q2 V1 V2 A Mu e1 f1 f2 f3 f4 g1 g2 g3 g4 g5 w
  · exact undo_21 n1 d1 n2 d2 s1 s2 s3 p1 p2 p3 V1 V2 A Mu e1 e2 e3 g1 g2 g3 w
  · exact undo_22 n1 d1 n2 d2 s1 s2 s3 p1 p2 p3 q1 q2 V1 V2 A Mu e1 e2 e3 g1 g2 g3 g4 g5 w
  · exact undo_23 n1 d1 n2 d2 s1 s2 s3 p1 p2 p3 q1 q2 V1 V2 A Mu e1 e2 e3 g1 g2 g3 g4 g5 w
end Go.Proofs.Ythiemhkhlggenaa
