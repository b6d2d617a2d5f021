/- RationalField: sums and products are commutative and associative, and products distribute over sums. -/
import Derived.Test.YtokcgfpnokeanaaRatI
namespace Go.Proofs.Ytokcgfpnokeanaa
open Go.RowKit Go.Shelf

set_option maxRecDepth 100000 in
set_option maxHeartbeats 4000000 in
theorem field_walk (n1 d1 n2 d2 n3 d3 s1 s2 s3 x1 x2 x3 t1 t2 t3 y1 y2 y3 z1 z2 z3 : Int)
    (hAB : AddTo n1 d1 n2 d2 s1 s2 s3) (hBA : AddTo n2 d2 n1 d1 s1 s2 s3) (hXY : MulTo n1 d1 n2 d2 x1 x2 x3) (hYX : MulTo n2 d2 n1 d1 x1 x2 x3)
    (hBC : AddTo n2 d2 n3 d3 t1 t2 t3) (hYZ : MulTo n2 d2 n3 d3 y1 y2 y3) (hXZ : MulTo n1 d1 n3 d3 z1 z2 z3)
    (hall : (s3 ≠ 0 ∨ x3 ≠ 0 ∨ t3 ≠ 0 ∨ y3 ≠ 0 ∨ z3 ≠ 0) ∨ (s3 = 0 ∧ x3 = 0 ∧ t3 = 0 ∧ y3 = 0 ∧ z3 = 0 ∧
      ∃ l1 l2 l3 m1 m2 m3 p1 p2 p3 : Int, AddTo s1 s2 n3 d3 l1 l2 l3 ∧ AddTo n1 d1 t1 t2 l1 l2 l3 ∧ MulTo x1 x2 n3 d3 m1 m2 m3 ∧ MulTo n1 d1 y1 y2 m1 m2 m3 ∧ MulTo n1 d1 t1 t2 p1 p2 p3 ∧ AddTo x1 x2 z1 z2 p1 p2 p3)) (w : World) :
    Calls Try.prog 5 #[.agg #[.int .i64 n1, .int .i64 d1], .agg #[.int .i64 n2, .int .i64 d2], .agg #[.int .i64 n3, .int .i64 d3]] w fun e w' => e = .returned (.bool true) ∧ Below w.heap.size w w' := by
  have hka := @World.cell?_alloc_some
  have HALL := Lib.hid hall
  clear hall
  go_enter Try.func5, Try.ntmps5
  go_wp2_with fail
  refine (awake_any _).mono ?_
  rintro e w1 ⟨rfl, hb1⟩
  have k0 : w1.cell? ⟨w.heap.size, 0, none⟩ = some (.int .i64 n1) := keepc hb1 (by simp [go_sem])
  have k1 : w1.cell? ⟨w.heap.size, 1, none⟩ = some (.int .i64 d1) := keepc hb1 (by simp [go_sem])
  have k2 : w1.cell? ⟨w.heap.size + 1, 0, none⟩ = some (.int .i64 n2) := keepc hb1 (by simp [go_sem])
  have k3 : w1.cell? ⟨w.heap.size + 1, 1, none⟩ = some (.int .i64 d2) := keepc hb1 (by simp [go_sem])
  have k4 : w1.cell? ⟨w.heap.size + 1 + 1, 0, none⟩ = some (.int .i64 n3) := keepc hb1 (by simp [go_sem])
  have k5 : w1.cell? ⟨w.heap.size + 1 + 1, 1, none⟩ = some (.int .i64 d3) := keepc hb1 (by simp [go_sem])
  have kb : Below w.heap.size w w1 := ((((Below.refl w.heap.size w).alloc (by (try simp) <;> omega) _).alloc (by (try simp) <;> omega) _).alloc (by (try simp) <;> omega) _).trans (hb1.mono (by (try simp) <;> omega))
  clear hb1
  go_wp2_with fail
  refine (hAB _).mono ?_
  rintro e w2 ⟨rfl, hb2⟩
  replace k0 := keepc hb2 k0
  replace k1 := keepc hb2 k1
  replace k2 := keepc hb2 k2
  replace k3 := keepc hb2 k3
  replace k4 := keepc hb2 k4
  replace k5 := keepc hb2 k5
  replace kb : Below w.heap.size w w2 := kb.trans (hb2.mono (Nat.le_trans kb.size (by simp)))
  clear hb2
  go_wp2_with fail
  refine (hBA _).mono ?_
  rintro e w3 ⟨rfl, hb3⟩
  replace k0 := keepc hb3 (keepa _ k0)
  replace k1 := keepc hb3 (keepa _ k1)
  replace k2 := keepc hb3 (keepa _ k2)
  replace k3 := keepc hb3 (keepa _ k3)
  replace k4 := keepc hb3 (keepa _ k4)
  replace k5 := keepc hb3 (keepa _ k5)
  have k6 : w3.cell? ⟨w2.heap.size, 0, none⟩ = some (.int .i64 s1) := keepc hb3 (by simp [go_sem])
  have k7 : w3.cell? ⟨w2.heap.size, 1, none⟩ = some (.int .i64 s2) := keepc hb3 (by simp [go_sem])
  replace kb : Below w.heap.size w w3 := (kb.alloc (Nat.le_trans kb.size (by simp)) _).trans (hb3.mono (Nat.le_trans kb.size (by simp)))
  clear hb3
  go_wp2_with fail
  refine (hXY _).mono ?_
  rintro e w4 ⟨rfl, hb4⟩
  replace k0 := keepc hb4 (keepa _ k0)
  replace k1 := keepc hb4 (keepa _ k1)
  replace k2 := keepc hb4 (keepa _ k2)
  replace k3 := keepc hb4 (keepa _ k3)
  replace k4 := keepc hb4 (keepa _ k4)
  replace k5 := keepc hb4 (keepa _ k5)
  replace k6 := keepc hb4 (keepa _ k6)
  replace k7 := keepc hb4 (keepa _ k7)
  have k8 : w4.cell? ⟨w3.heap.size, 0, none⟩ = some (.int .i64 s1) := keepc hb4 (by simp [go_sem])
  have k9 : w4.cell? ⟨w3.heap.size, 1, none⟩ = some (.int .i64 s2) := keepc hb4 (by simp [go_sem])
  replace kb : Below w.heap.size w w4 := (kb.alloc (Nat.le_trans kb.size (by simp)) _).trans (hb4.mono (Nat.le_trans kb.size (by simp)))
  clear hb4
  go_wp2_with fail
  refine (hYX _).mono ?_
  rintro e w5 ⟨rfl, hb5⟩
  replace k0 := keepc hb5 (keepa _ k0)
  replace k1 := keepc hb5 (keepa _ k1)
  replace k2 := keepc hb5 (keepa _ k2)
  replace k3 := keepc hb5 (keepa _ k3)
  replace k4 := keepc hb5 (keepa _ k4)
  replace k5 := keepc hb5 (keepa _ k5)
  replace k6 := keepc hb5 (keepa _ k6)
  replace k7 := keepc hb5 (keepa _ k7)
  replace k8 := keepc hb5 (keepa _ k8)
  replace k9 := keepc hb5 (keepa _ k9)
  have k10 : w5.cell? ⟨w4.heap.size, 0, none⟩ = some (.int .i64 x1) := keepc hb5 (by simp [go_sem])
  have k11 : w5.cell? ⟨w4.heap.size, 1, none⟩ = some (.int .i64 x2) := keepc hb5 (by simp [go_sem])
  replace kb : Below w.heap.size w w5 := (kb.alloc (Nat.le_trans kb.size (by simp)) _).trans (hb5.mono (Nat.le_trans kb.size (by simp)))
  clear hb5
  go_wp2_with fail
  refine (hBC _).mono ?_
  rintro e w6 ⟨rfl, hb6⟩
  replace k0 := keepc hb6 (keepa _ k0)
  replace k1 := keepc hb6 (keepa _ k1)
  replace k2 := keepc hb6 (keepa _ k2)
  replace k3 := keepc hb6 (keepa _ k3)
  replace k4 := keepc hb6 (keepa _ k4)
  replace k5 := keepc hb6 (keepa _ k5)
  replace k6 := keepc hb6 (keepa _ k6)
  replace k7 := keepc hb6 (keepa _ k7)
  replace k8 := keepc hb6 (keepa _ k8)
  replace k9 := keepc hb6 (keepa _ k9)
  replace k10 := keepc hb6 (keepa _ k10)
  replace k11 := keepc hb6 (keepa _ k11)
  have k12 : w6.cell? ⟨w5.heap.size, 0, none⟩ = some (.int .i64 x1) := keepc hb6 (by simp [go_sem])
  have k13 : w6.cell? ⟨w5.heap.size, 1, none⟩ = some (.int .i64 x2) := keepc hb6 (by simp [go_sem])
  replace kb : Below w.heap.size w w6 := (kb.alloc (Nat.le_trans kb.size (by simp)) _).trans (hb6.mono (Nat.le_trans kb.size (by simp)))
  clear hb6
  go_wp2_with fail
  refine (hYZ _).mono ?_
  rintro e w7 ⟨rfl, hb7⟩
  replace k0 := keepc hb7 (keepa _ k0)
  replace k1 := keepc hb7 (keepa _ k1)
  replace k2 := keepc hb7 (keepa _ k2)
  replace k3 := keepc hb7 (keepa _ k3)
  replace k4 := keepc hb7 (keepa _ k4)
  replace k5 := keepc hb7 (keepa _ k5)
  replace k6 := keepc hb7 (keepa _ k6)
  replace k7 := keepc hb7 (keepa _ k7)
  replace k8 := keepc hb7 (keepa _ k8)
  replace k9 := keepc hb7 (keepa _ k9)
  replace k10 := keepc hb7 (keepa _ k10)
  replace k11 := keepc hb7 (keepa _ k11)
  replace k12 := keepc hb7 (keepa _ k12)
  replace k13 := keepc hb7 (keepa _ k13)
  have k14 : w7.cell? ⟨w6.heap.size, 0, none⟩ = some (.int .i64 t1) := keepc hb7 (by simp [go_sem])
  have k15 : w7.cell? ⟨w6.heap.size, 1, none⟩ = some (.int .i64 t2) := keepc hb7 (by simp [go_sem])
  replace kb : Below w.heap.size w w7 := (kb.alloc (Nat.le_trans kb.size (by simp)) _).trans (hb7.mono (Nat.le_trans kb.size (by simp)))
  clear hb7
  go_wp2_with fail
  refine (hXZ _).mono ?_
  rintro e w8 ⟨rfl, hb8⟩
  replace k0 := keepc hb8 (keepa _ k0)
  replace k1 := keepc hb8 (keepa _ k1)
  replace k2 := keepc hb8 (keepa _ k2)
  replace k3 := keepc hb8 (keepa _ k3)
  replace k4 := keepc hb8 (keepa _ k4)
  replace k5 := keepc hb8 (keepa _ k5)
  replace k6 := keepc hb8 (keepa _ k6)
  replace k7 := keepc hb8 (keepa _ k7)
  replace k8 := keepc hb8 (keepa _ k8)
  replace k9 := keepc hb8 (keepa _ k9)
  replace k10 := keepc hb8 (keepa _ k10)
  replace k11 := keepc hb8 (keepa _ k11)
  replace k12 := keepc hb8 (keepa _ k12)
  replace k13 := keepc hb8 (keepa _ k13)
  replace k14 := keepc hb8 (keepa _ k14)
  replace k15 := keepc hb8 (keepa _ k15)
  have k16 : w8.cell? ⟨w7.heap.size, 0, none⟩ = some (.int .i64 y1) := keepc hb8 (by simp [go_sem])
  have k17 : w8.cell? ⟨w7.heap.size, 1, none⟩ = some (.int .i64 y2) := keepc hb8 (by simp [go_sem])
  replace kb : Below w.heap.size w w8 := (kb.alloc (Nat.le_trans kb.size (by simp)) _).trans (hb8.mono (Nat.le_trans kb.size (by simp)))
  clear hb8
  go_upto_region 12 with fail
  by_cases hb : s3 = 0
  rotate_left
  · have hne : (s3 != 0) = true := by simp [hb]
    clear hb
    go_wp2_with fail
    go_ret
    exact ⟨rfl, (kb.alloc (Nat.le_trans kb.size (by simp)) _)⟩
  subst hb
  by_cases hb : x3 = 0
  rotate_left
  · have hne : (x3 != 0) = true := by simp [hb]
    clear hb
    go_wp2_with fail
    go_ret
    exact ⟨rfl, (kb.alloc (Nat.le_trans kb.size (by simp)) _)⟩
  subst hb
  by_cases hb : t3 = 0
  rotate_left
  · have hne : (t3 != 0) = true := by simp [hb]
    clear hb
    go_wp2_with fail
    go_ret
    exact ⟨rfl, (kb.alloc (Nat.le_trans kb.size (by simp)) _)⟩
  subst hb
  by_cases hb : y3 = 0
  rotate_left
  · have hne : (y3 != 0) = true := by simp [hb]
    clear hb
    go_wp2_with fail
    go_ret
    exact ⟨rfl, (kb.alloc (Nat.le_trans kb.size (by simp)) _)⟩
  subst hb
  by_cases hb : z3 = 0
  rotate_left
  · have hne : (z3 != 0) = true := by simp [hb]
    clear hb
    go_wp2_with fail
    go_ret
    exact ⟨rfl, (kb.alloc (Nat.le_trans kb.size (by simp)) _)⟩
  subst hb
  obtain ⟨l1, l2, l3, m1, m2, m3, p1, p2, p3, hLE, hRI, hFI, hSE, hPP, hRR⟩ : ∃ l1 l2 l3 m1 m2 m3 p1 p2 p3 : Int, AddTo s1 s2 n3 d3 l1 l2 l3 ∧ AddTo n1 d1 t1 t2 l1 l2 l3 ∧ MulTo x1 x2 n3 d3 m1 m2 m3 ∧ MulTo n1 d1 y1 y2 m1 m2 m3 ∧ MulTo n1 d1 t1 t2 p1 p2 p3 ∧ AddTo x1 x2 z1 z2 p1 p2 p3 := by
    rcases HALL.out with h | ⟨_, _, _, _, _, h⟩
    · omega
    · exact h
  go_wp2_with fail
  refine (hLE _).mono ?_
  rintro e w9 ⟨rfl, hb9⟩
  replace k0 := keepc hb9 (keepa _ k0)
  replace k1 := keepc hb9 (keepa _ k1)
  replace k2 := keepc hb9 (keepa _ k2)
  replace k3 := keepc hb9 (keepa _ k3)
  replace k4 := keepc hb9 (keepa _ k4)
  replace k5 := keepc hb9 (keepa _ k5)
  replace k6 := keepc hb9 (keepa _ k6)
  replace k7 := keepc hb9 (keepa _ k7)
  replace k8 := keepc hb9 (keepa _ k8)
  replace k9 := keepc hb9 (keepa _ k9)
  replace k10 := keepc hb9 (keepa _ k10)
  replace k11 := keepc hb9 (keepa _ k11)
  replace k12 := keepc hb9 (keepa _ k12)
  replace k13 := keepc hb9 (keepa _ k13)
  replace k14 := keepc hb9 (keepa _ k14)
  replace k15 := keepc hb9 (keepa _ k15)
  replace k16 := keepc hb9 (keepa _ k16)
  replace k17 := keepc hb9 (keepa _ k17)
  have k18 : w9.cell? ⟨w8.heap.size, 0, none⟩ = some (.int .i64 z1) := keepc hb9 (by simp [go_sem])
  have k19 : w9.cell? ⟨w8.heap.size, 1, none⟩ = some (.int .i64 z2) := keepc hb9 (by simp [go_sem])
  replace kb : Below w.heap.size w w9 := (kb.alloc (Nat.le_trans kb.size (by simp)) _).trans (hb9.mono (Nat.le_trans kb.size (by simp)))
  clear hb9
  go_wp2_with fail
  refine (hRI _).mono ?_
  rintro e w10 ⟨rfl, hb10⟩
  replace k0 := keepc hb10 (keepa _ k0)
  replace k1 := keepc hb10 (keepa _ k1)
  replace k2 := keepc hb10 (keepa _ k2)
  replace k3 := keepc hb10 (keepa _ k3)
  replace k4 := keepc hb10 (keepa _ k4)
  replace k5 := keepc hb10 (keepa _ k5)
  replace k6 := keepc hb10 (keepa _ k6)
  replace k7 := keepc hb10 (keepa _ k7)
  replace k8 := keepc hb10 (keepa _ k8)
  replace k9 := keepc hb10 (keepa _ k9)
  replace k10 := keepc hb10 (keepa _ k10)
  replace k11 := keepc hb10 (keepa _ k11)
  replace k12 := keepc hb10 (keepa _ k12)
  replace k13 := keepc hb10 (keepa _ k13)
  replace k14 := keepc hb10 (keepa _ k14)
  replace k15 := keepc hb10 (keepa _ k15)
  replace k16 := keepc hb10 (keepa _ k16)
  replace k17 := keepc hb10 (keepa _ k17)
  replace k18 := keepc hb10 (keepa _ k18)
  replace k19 := keepc hb10 (keepa _ k19)
  have k20 : w10.cell? ⟨w9.heap.size, 0, none⟩ = some (.int .i64 l1) := keepc hb10 (by simp [go_sem])
  have k21 : w10.cell? ⟨w9.heap.size, 1, none⟩ = some (.int .i64 l2) := keepc hb10 (by simp [go_sem])
  replace kb : Below w.heap.size w w10 := (kb.alloc (Nat.le_trans kb.size (by simp)) _).trans (hb10.mono (Nat.le_trans kb.size (by simp)))
  clear hb10
  by_cases hl : l3 = 0
  · subst hl
    go_wp2_with fail
    refine (hFI _).mono ?_
    rintro e w11 ⟨rfl, hb11⟩
    replace k0 := keepc hb11 (keepa _ k0)
    replace k1 := keepc hb11 (keepa _ k1)
    replace k2 := keepc hb11 (keepa _ k2)
    replace k3 := keepc hb11 (keepa _ k3)
    replace k4 := keepc hb11 (keepa _ k4)
    replace k5 := keepc hb11 (keepa _ k5)
    replace k6 := keepc hb11 (keepa _ k6)
    replace k7 := keepc hb11 (keepa _ k7)
    replace k8 := keepc hb11 (keepa _ k8)
    replace k9 := keepc hb11 (keepa _ k9)
    replace k10 := keepc hb11 (keepa _ k10)
    replace k11 := keepc hb11 (keepa _ k11)
    replace k12 := keepc hb11 (keepa _ k12)
    replace k13 := keepc hb11 (keepa _ k13)
    replace k14 := keepc hb11 (keepa _ k14)
    replace k15 := keepc hb11 (keepa _ k15)
    replace k16 := keepc hb11 (keepa _ k16)
    replace k17 := keepc hb11 (keepa _ k17)
    replace k18 := keepc hb11 (keepa _ k18)
    replace k19 := keepc hb11 (keepa _ k19)
    replace k20 := keepc hb11 (keepa _ k20)
    replace k21 := keepc hb11 (keepa _ k21)
    have k22 : w11.cell? ⟨w10.heap.size, 0, none⟩ = some (.int .i64 l1) := keepc hb11 (by simp [go_sem])
    have k23 : w11.cell? ⟨w10.heap.size, 1, none⟩ = some (.int .i64 l2) := keepc hb11 (by simp [go_sem])
    replace kb : Below w.heap.size w w11 := (kb.alloc (Nat.le_trans kb.size (by simp)) _).trans (hb11.mono (Nat.le_trans kb.size (by simp)))
    clear hb11
    go_wp2_with fail
    refine (hSE _).mono ?_
    rintro e w12 ⟨rfl, hb12⟩
    replace k0 := keepc hb12 (keepa _ k0)
    replace k1 := keepc hb12 (keepa _ k1)
    replace k2 := keepc hb12 (keepa _ k2)
    replace k3 := keepc hb12 (keepa _ k3)
    replace k4 := keepc hb12 (keepa _ k4)
    replace k5 := keepc hb12 (keepa _ k5)
    replace k6 := keepc hb12 (keepa _ k6)
    replace k7 := keepc hb12 (keepa _ k7)
    replace k8 := keepc hb12 (keepa _ k8)
    replace k9 := keepc hb12 (keepa _ k9)
    replace k10 := keepc hb12 (keepa _ k10)
    replace k11 := keepc hb12 (keepa _ k11)
    replace k12 := keepc hb12 (keepa _ k12)
    replace k13 := keepc hb12 (keepa _ k13)
    replace k14 := keepc hb12 (keepa _ k14)
    replace k15 := keepc hb12 (keepa _ k15)
    replace k16 := keepc hb12 (keepa _ k16)
    replace k17 := keepc hb12 (keepa _ k17)
    replace k18 := keepc hb12 (keepa _ k18)
    replace k19 := keepc hb12 (keepa _ k19)
    replace k20 := keepc hb12 (keepa _ k20)
    replace k21 := keepc hb12 (keepa _ k21)
    replace k22 := keepc hb12 (keepa _ k22)
    replace k23 := keepc hb12 (keepa _ k23)
    have k24 : w12.cell? ⟨w11.heap.size, 0, none⟩ = some (.int .i64 m1) := keepc hb12 (by simp [go_sem])
    have k25 : w12.cell? ⟨w11.heap.size, 1, none⟩ = some (.int .i64 m2) := keepc hb12 (by simp [go_sem])
    replace kb : Below w.heap.size w w12 := (kb.alloc (Nat.le_trans kb.size (by simp)) _).trans (hb12.mono (Nat.le_trans kb.size (by simp)))
    clear hb12
    go_wp2_with fail
    refine (hPP _).mono ?_
    rintro e w13 ⟨rfl, hb13⟩
    replace k0 := keepc hb13 (keepa _ k0)
    replace k1 := keepc hb13 (keepa _ k1)
    replace k2 := keepc hb13 (keepa _ k2)
    replace k3 := keepc hb13 (keepa _ k3)
    replace k4 := keepc hb13 (keepa _ k4)
    replace k5 := keepc hb13 (keepa _ k5)
    replace k6 := keepc hb13 (keepa _ k6)
    replace k7 := keepc hb13 (keepa _ k7)
    replace k8 := keepc hb13 (keepa _ k8)
    replace k9 := keepc hb13 (keepa _ k9)
    replace k10 := keepc hb13 (keepa _ k10)
    replace k11 := keepc hb13 (keepa _ k11)
    replace k12 := keepc hb13 (keepa _ k12)
    replace k13 := keepc hb13 (keepa _ k13)
    replace k14 := keepc hb13 (keepa _ k14)
    replace k15 := keepc hb13 (keepa _ k15)
    replace k16 := keepc hb13 (keepa _ k16)
    replace k17 := keepc hb13 (keepa _ k17)
    replace k18 := keepc hb13 (keepa _ k18)
    replace k19 := keepc hb13 (keepa _ k19)
    replace k20 := keepc hb13 (keepa _ k20)
    replace k21 := keepc hb13 (keepa _ k21)
    replace k22 := keepc hb13 (keepa _ k22)
    replace k23 := keepc hb13 (keepa _ k23)
    replace k24 := keepc hb13 (keepa _ k24)
    replace k25 := keepc hb13 (keepa _ k25)
    have k26 : w13.cell? ⟨w12.heap.size, 0, none⟩ = some (.int .i64 m1) := keepc hb13 (by simp [go_sem])
    have k27 : w13.cell? ⟨w12.heap.size, 1, none⟩ = some (.int .i64 m2) := keepc hb13 (by simp [go_sem])
    replace kb : Below w.heap.size w w13 := (kb.alloc (Nat.le_trans kb.size (by simp)) _).trans (hb13.mono (Nat.le_trans kb.size (by simp)))
    clear hb13
    go_wp2_with fail
    refine (hRR _).mono ?_
    rintro e w14 ⟨rfl, hb14⟩
    replace k0 := keepc hb14 (keepa _ k0)
    replace k1 := keepc hb14 (keepa _ k1)
    replace k2 := keepc hb14 (keepa _ k2)
    replace k3 := keepc hb14 (keepa _ k3)
    replace k4 := keepc hb14 (keepa _ k4)
    replace k5 := keepc hb14 (keepa _ k5)
    replace k6 := keepc hb14 (keepa _ k6)
    replace k7 := keepc hb14 (keepa _ k7)
    replace k8 := keepc hb14 (keepa _ k8)
    replace k9 := keepc hb14 (keepa _ k9)
    replace k10 := keepc hb14 (keepa _ k10)
    replace k11 := keepc hb14 (keepa _ k11)
    replace k12 := keepc hb14 (keepa _ k12)
    replace k13 := keepc hb14 (keepa _ k13)
    replace k14 := keepc hb14 (keepa _ k14)
    replace k15 := keepc hb14 (keepa _ k15)
    replace k16 := keepc hb14 (keepa _ k16)
    replace k17 := keepc hb14 (keepa _ k17)
    replace k18 := keepc hb14 (keepa _ k18)
    replace k19 := keepc hb14 (keepa _ k19)
    replace k20 := keepc hb14 (keepa _ k20)
    replace k21 := keepc hb14 (keepa _ k21)
    replace k22 := keepc hb14 (keepa _ k22)
    replace k23 := keepc hb14 (keepa _ k23)
    replace k24 := keepc hb14 (keepa _ k24)
    replace k25 := keepc hb14 (keepa _ k25)
    replace k26 := keepc hb14 (keepa _ k26)
    replace k27 := keepc hb14 (keepa _ k27)
    have k28 : w14.cell? ⟨w13.heap.size, 0, none⟩ = some (.int .i64 p1) := keepc hb14 (by simp [go_sem])
    have k29 : w14.cell? ⟨w13.heap.size, 1, none⟩ = some (.int .i64 p2) := keepc hb14 (by simp [go_sem])
    replace kb : Below w.heap.size w w14 := (kb.alloc (Nat.le_trans kb.size (by simp)) _).trans (hb14.mono (Nat.le_trans kb.size (by simp)))
    clear hb14
    go_wp2_with fail
    go_ret
    exact ⟨rfl, (kb.alloc (Nat.le_trans kb.size (by simp)) _)⟩
  · have hne : (l3 == 0) = false := by simp [hl]
    clear hl
    go_wp2_with fail
    refine (hFI _).mono ?_
    rintro e w11 ⟨rfl, hb11⟩
    replace k0 := keepc hb11 (keepa _ k0)
    replace k1 := keepc hb11 (keepa _ k1)
    replace k2 := keepc hb11 (keepa _ k2)
    replace k3 := keepc hb11 (keepa _ k3)
    replace k4 := keepc hb11 (keepa _ k4)
    replace k5 := keepc hb11 (keepa _ k5)
    replace k6 := keepc hb11 (keepa _ k6)
    replace k7 := keepc hb11 (keepa _ k7)
    replace k8 := keepc hb11 (keepa _ k8)
    replace k9 := keepc hb11 (keepa _ k9)
    replace k10 := keepc hb11 (keepa _ k10)
    replace k11 := keepc hb11 (keepa _ k11)
    replace k12 := keepc hb11 (keepa _ k12)
    replace k13 := keepc hb11 (keepa _ k13)
    replace k14 := keepc hb11 (keepa _ k14)
    replace k15 := keepc hb11 (keepa _ k15)
    replace k16 := keepc hb11 (keepa _ k16)
    replace k17 := keepc hb11 (keepa _ k17)
    replace k18 := keepc hb11 (keepa _ k18)
    replace k19 := keepc hb11 (keepa _ k19)
    replace k20 := keepc hb11 (keepa _ k20)
    replace k21 := keepc hb11 (keepa _ k21)
    have k22 : w11.cell? ⟨w10.heap.size, 0, none⟩ = some (.int .i64 l1) := keepc hb11 (by simp [go_sem])
    have k23 : w11.cell? ⟨w10.heap.size, 1, none⟩ = some (.int .i64 l2) := keepc hb11 (by simp [go_sem])
    replace kb : Below w.heap.size w w11 := (kb.alloc (Nat.le_trans kb.size (by simp)) _).trans (hb11.mono (Nat.le_trans kb.size (by simp)))
    clear hb11
    go_wp2_with fail
    refine (hSE _).mono ?_
    rintro e w12 ⟨rfl, hb12⟩
    replace k0 := keepc hb12 (keepa _ k0)
    replace k1 := keepc hb12 (keepa _ k1)
    replace k2 := keepc hb12 (keepa _ k2)
    replace k3 := keepc hb12 (keepa _ k3)
    replace k4 := keepc hb12 (keepa _ k4)
    replace k5 := keepc hb12 (keepa _ k5)
    replace k6 := keepc hb12 (keepa _ k6)
    replace k7 := keepc hb12 (keepa _ k7)
    replace k8 := keepc hb12 (keepa _ k8)
    replace k9 := keepc hb12 (keepa _ k9)
    replace k10 := keepc hb12 (keepa _ k10)
    replace k11 := keepc hb12 (keepa _ k11)
    replace k12 := keepc hb12 (keepa _ k12)
    replace k13 := keepc hb12 (keepa _ k13)
    replace k14 := keepc hb12 (keepa _ k14)
    replace k15 := keepc hb12 (keepa _ k15)
    replace k16 := keepc hb12 (keepa _ k16)
    replace k17 := keepc hb12 (keepa _ k17)
    replace k18 := keepc hb12 (keepa _ k18)
    replace k19 := keepc hb12 (keepa _ k19)
    replace k20 := keepc hb12 (keepa _ k20)
    replace k21 := keepc hb12 (keepa _ k21)
    replace k22 := keepc hb12 (keepa _ k22)
    replace k23 := keepc hb12 (keepa _ k23)
    have k24 : w12.cell? ⟨w11.heap.size, 0, none⟩ = some (.int .i64 m1) := keepc hb12 (by simp [go_sem])
    have k25 : w12.cell? ⟨w11.heap.size, 1, none⟩ = some (.int .i64 m2) := keepc hb12 (by simp [go_sem])
    replace kb : Below w.heap.size w w12 := (kb.alloc (Nat.le_trans kb.size (by simp)) _).trans (hb12.mono (Nat.le_trans kb.size (by simp)))
    clear hb12
    go_wp2_with fail
    refine (hPP _).mono ?_
    rintro e w13 ⟨rfl, hb13⟩
    replace k0 := keepc hb13 (keepa _ k0)
    replace k1 := keepc hb13 (keepa _ k1)
    replace k2 := keepc hb13 (keepa _ k2)
    replace k3 := keepc hb13 (keepa _ k3)
    replace k4 := keepc hb13 (keepa _ k4)
    replace k5 := keepc hb13 (keepa _ k5)
    replace k6 := keepc hb13 (keepa _ k6)
    replace k7 := keepc hb13 (keepa _ k7)
    replace k8 := keepc hb13 (keepa _ k8)
    replace k9 := keepc hb13 (keepa _ k9)
    replace k10 := keepc hb13 (keepa _ k10)
    replace k11 := keepc hb13 (keepa _ k11)
    replace k12 := keepc hb13 (keepa _ k12)
    replace k13 := keepc hb13 (keepa _ k13)
    replace k14 := keepc hb13 (keepa _ k14)
    replace k15 := keepc hb13 (keepa _ k15)
    replace k16 := keepc hb13 (keepa _ k16)
    replace k17 := keepc hb13 (keepa _ k17)
    replace k18 := keepc hb13 (keepa _ k18)
    replace k19 := keepc hb13 (keepa _ k19)
    replace k20 := keepc hb13 (keepa _ k20)
    replace k21 := keepc hb13 (keepa _ k21)
    replace k22 := keepc hb13 (keepa _ k22)
    replace k23 := keepc hb13 (keepa _ k23)
    replace k24 := keepc hb13 (keepa _ k24)
    replace k25 := keepc hb13 (keepa _ k25)
    have k26 : w13.cell? ⟨w12.heap.size, 0, none⟩ = some (.int .i64 m1) := keepc hb13 (by simp [go_sem])
    have k27 : w13.cell? ⟨w12.heap.size, 1, none⟩ = some (.int .i64 m2) := keepc hb13 (by simp [go_sem])
    replace kb : Below w.heap.size w w13 := (kb.alloc (Nat.le_trans kb.size (by simp)) _).trans (hb13.mono (Nat.le_trans kb.size (by simp)))
    clear hb13
    go_wp2_with fail
    refine (hRR _).mono ?_
    rintro e w14 ⟨rfl, hb14⟩
    replace k0 := keepc hb14 (keepa _ k0)
    replace k1 := keepc hb14 (keepa _ k1)
    replace k2 := keepc hb14 (keepa _ k2)
    replace k3 := keepc hb14 (keepa _ k3)
    replace k4 := keepc hb14 (keepa _ k4)
    replace k5 := keepc hb14 (keepa _ k5)
    replace k6 := keepc hb14 (keepa _ k6)
    replace k7 := keepc hb14 (keepa _ k7)
    replace k8 := keepc hb14 (keepa _ k8)
    replace k9 := keepc hb14 (keepa _ k9)
    replace k10 := keepc hb14 (keepa _ k10)
    replace k11 := keepc hb14 (keepa _ k11)
    replace k12 := keepc hb14 (keepa _ k12)
    replace k13 := keepc hb14 (keepa _ k13)
    replace k14 := keepc hb14 (keepa _ k14)
    replace k15 := keepc hb14 (keepa _ k15)
    replace k16 := keepc hb14 (keepa _ k16)
    replace k17 := keepc hb14 (keepa _ k17)
    replace k18 := keepc hb14 (keepa _ k18)
    replace k19 := keepc hb14 (keepa _ k19)
    replace k20 := keepc hb14 (keepa _ k20)
    replace k21 := keepc hb14 (keepa _ k21)
    replace k22 := keepc hb14 (keepa _ k22)
    replace k23 := keepc hb14 (keepa _ k23)
    replace k24 := keepc hb14 (keepa _ k24)
    replace k25 := keepc hb14 (keepa _ k25)
    replace k26 := keepc hb14 (keepa _ k26)
    replace k27 := keepc hb14 (keepa _ k27)
    have k28 : w14.cell? ⟨w13.heap.size, 0, none⟩ = some (.int .i64 p1) := keepc hb14 (by simp [go_sem])
    have k29 : w14.cell? ⟨w13.heap.size, 1, none⟩ = some (.int .i64 p2) := keepc hb14 (by simp [go_sem])
    replace kb : Below w.heap.size w w14 := (kb.alloc (Nat.le_trans kb.size (by simp)) _).trans (hb14.mono (Nat.le_trans kb.size (by simp)))
    clear hb14
    go_wp2_with fail
    go_ret
    exact ⟨rfl, (kb.alloc (Nat.le_trans kb.size (by simp)) _)⟩

theorem field_any (n1 d1 n2 d2 n3 d3 : Int) (a1 : I64 n1) (a2 : I64 d1) (b1 : I64 n2) (b2 : I64 d2) (c1 : I64 n3) (c2 : I64 d3) (w : World) :
    Calls Try.prog 5 #[.agg #[.int .i64 n1, .int .i64 d1], .agg #[.int .i64 n2, .int .i64 d2], .agg #[.int .i64 n3, .int .i64 d3]] w fun e w' => e = .returned (.bool true) ∧ Below w.heap.size w w' := by
  obtain ⟨s1, s2, s3, hS⟩ : ∃ s1 s2 s3, addS n1 d1 n2 d2 = (s1, s2, s3) := ⟨_, _, _, rfl⟩
  obtain ⟨x1, x2, x3, hX⟩ : ∃ s1 s2 s3, mulS n1 d1 n2 d2 = (s1, s2, s3) := ⟨_, _, _, rfl⟩
  obtain ⟨t1, t2, t3, hT⟩ : ∃ s1 s2 s3, addS n2 d2 n3 d3 = (s1, s2, s3) := ⟨_, _, _, rfl⟩
  obtain ⟨y1, y2, y3, hY⟩ : ∃ s1 s2 s3, mulS n2 d2 n3 d3 = (s1, s2, s3) := ⟨_, _, _, rfl⟩
  obtain ⟨z1, z2, z3, hZ⟩ : ∃ s1 s2 s3, mulS n1 d1 n3 d3 = (s1, s2, s3) := ⟨_, _, _, rfl⟩
  refine field_walk n1 d1 n2 d2 n3 d3 s1 s2 s3 x1 x2 x3 t1 t2 t3 y1 y2 y3 z1 z2 z3 (addTo a1 a2 b1 b2 hS) (addTo b1 b2 a1 a2 ((addS_comm ..).trans hS)) (mulTo a1 a2 b1 b2 hX) (mulTo b1 b2 a1 a2 ((mulS_comm ..).trans hX)) (addTo b1 b2 c1 c2 hT) (mulTo b1 b2 c1 c2 hY) (mulTo a1 a2 c1 c2 hZ) ?_ w
  by_cases hall : s3 = 0 ∧ x3 = 0 ∧ t3 = 0 ∧ y3 = 0 ∧ z3 = 0
  · obtain ⟨e1, e2, e3, e4, e5⟩ := hall
    refine .inr ⟨e1, e2, e3, e4, e5, ?_⟩
    obtain ⟨o1, o2, s5, s6, _⟩ := addS_zero hS e1
    obtain ⟨_, o3, t5, t6, _⟩ := addS_zero hT e3
    obtain ⟨_, _, x5, x6, _⟩ := mulS_zero hX e2
    obtain ⟨_, _, y5, y6, _⟩ := mulS_zero hY e4
    obtain ⟨_, _, z5, z6, _⟩ := mulS_zero hZ e5
    obtain ⟨l1, l2, l3, hL⟩ : ∃ u v x, addS s1 s2 n3 d3 = (u, v, x) := ⟨_, _, _, rfl⟩
    obtain ⟨m1, m2, m3, hM⟩ : ∃ u v x, mulS x1 x2 n3 d3 = (u, v, x) := ⟨_, _, _, rfl⟩
    obtain ⟨p1, p2, p3, hP⟩ : ∃ u v x, mulS n1 d1 t1 t2 = (u, v, x) := ⟨_, _, _, rfl⟩
    refine ⟨l1, l2, l3, m1, m2, m3, p1, p2, p3, addTo (addS_range hS).1 (addS_range hS).2 c1 c2 hL, addTo a1 a2 (addS_range hT).1 (addS_range hT).2 ?_, mulTo (mulS_range hX).1 (mulS_range hX).2 c1 c2 hM, mulTo a1 a2 (mulS_range hY).1 (mulS_range hY).2 ?_, mulTo a1 a2 (addS_range hT).1 (addS_range hT).2 hP, addTo (mulS_range hX).1 (mulS_range hX).2 (mulS_range hZ).1 (mulS_range hZ).2 ?_⟩
    · rw [← hL, addS_ok o1 t5, addS_ok s5 o3, s6, t6, Rat.add_assoc]
    · rw [← hM, mulS_ok o1 y5, mulS_ok x5 o3, x6, y6, Rat.mul_assoc]
    · rw [← hP, mulS_ok o1 t5, addS_ok x5 z5, x6, z6, t6, Rat.mul_add]
  · exact .inl (by omega)
end Go.Proofs.Ytokcgfpnokeanaa
