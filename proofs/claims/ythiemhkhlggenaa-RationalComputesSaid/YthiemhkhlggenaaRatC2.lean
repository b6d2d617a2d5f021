/- RationalComputes: the main case. -/
import Derived.Test.YthiemhkhlggenaaRatS2
import Derived.Test.YthiemhkhlggenaaRatT
import Derived.Deep.CutBlock
import Derived.Deep.CutRange
import Derived.Deep.DeepCutAuto
import Derived.Deep.RegionHeld3
namespace Go.Proofs.Ythiemhkhlggenaa
open Go.RowKit Go.Shelf

def RTo (f : Nat) (a b c d r1 r2 r3 : Int) : Prop := ∀ w : World, Calls Try.prog f #[.agg #[.int .i64 a, .int .i64 b], .agg #[.int .i64 c, .int .i64 d]] w fun e w' => e = .returned (.tuple #[.agg #[.int .i64 r1, .int .i64 r2], .int .i64 r3]) ∧ Below w.heap.size w w'

set_option maxRecDepth 100000 in
set_option maxHeartbeats 16000000 in
theorem comp_main (n1 d1 n2 d2 m2 s1 s2 s3 r1 r2 r3 p1 p2 p3 q1 q2 q3 : Int) (hA : AddTo n1 d1 n2 d2 s1 s2 s3) (hS : SubTo n1 d1 n2 d2 r1 r2 r3) (hM : MulTo n1 d1 n2 d2 p1 p2 p3) (hD : DivTo n1 d1 n2 d2 q1 q2 q3) (hV1 : ValidTo n1 d1 true) (hV2 : ValidTo n2 d2 true) (hB : smallB [n1, d1, n2, d2] = true) (hRA : RTo 22 n1 d1 n2 d2 s1 s2 s3) (hRS : RTo 22 n1 d1 m2 d2 r1 r2 r3) (hm2 : wrap64 (-n2) = m2) (hRM : RTo 24 n1 d1 n2 d2 p1 p2 p3) (hRD : RTo 25 n1 d1 n2 d2 q1 q2 q3) (w : World) :
    Calls Try.prog 4 #[.agg #[.int .i64 n1, .int .i64 d1], .agg #[.int .i64 n2, .int .i64 d2]] w fun e w' => e = .returned (.bool true) ∧ Below w.heap.size w w' := by
  have hka := @World.cell?_alloc_some
  go_enter Try.func4, Try.ntmps4
  go_wp2_with fail
  refine (awake_any _).mono ?_
  rintro e w1 ⟨rfl, hb1⟩
  have k0 : w1.cell? ⟨w.heap.size, 0, none⟩ = some (.int .i64 n1) := keepc hb1 (by simp [go_sem])
  have k1 : w1.cell? ⟨w.heap.size, 1, none⟩ = some (.int .i64 d1) := keepc hb1 (by simp [go_sem])
  have k2 : w1.cell? ⟨w.heap.size + 1, 0, none⟩ = some (.int .i64 n2) := keepc hb1 (by simp [go_sem])
  have k3 : w1.cell? ⟨w.heap.size + 1, 1, none⟩ = some (.int .i64 d2) := keepc hb1 (by simp [go_sem])
  have kb : Below w.heap.size w w1 := (((Below.refl w.heap.size w).alloc (by (try simp) <;> omega) _).alloc (by (try simp) <;> omega) _).trans (hb1.mono (by (try simp) <;> omega))
  clear hb1
  go_wp2_with fail
  refine (hA _).mono ?_
  rintro e w2 ⟨rfl, hb2⟩
  replace k0 := keepc hb2 k0
  replace k1 := keepc hb2 k1
  replace k2 := keepc hb2 k2
  replace k3 := keepc hb2 k3
  replace kb : Below w.heap.size w w2 := kb.trans (hb2.mono (Nat.le_trans kb.size (by simp)))
  clear hb2
  go_wp2_with fail
  refine (hS _).mono ?_
  rintro e w3 ⟨rfl, hb3⟩
  replace k0 := keepc hb3 (keepa _ k0)
  replace k1 := keepc hb3 (keepa _ k1)
  replace k2 := keepc hb3 (keepa _ k2)
  replace k3 := keepc hb3 (keepa _ k3)
  have k4 : w3.cell? ⟨w2.heap.size, 0, none⟩ = some (.int .i64 s1) := keepc hb3 (by simp [go_sem])
  have k5 : w3.cell? ⟨w2.heap.size, 1, none⟩ = some (.int .i64 s2) := keepc hb3 (by simp [go_sem])
  replace kb : Below w.heap.size w w3 := (kb.alloc (Nat.le_trans kb.size (by simp)) _).trans (hb3.mono (Nat.le_trans kb.size (by simp)))
  clear hb3
  go_wp2_with fail
  refine (hM _).mono ?_
  rintro e w4 ⟨rfl, hb4⟩
  replace k0 := keepc hb4 (keepa _ k0)
  replace k1 := keepc hb4 (keepa _ k1)
  replace k2 := keepc hb4 (keepa _ k2)
  replace k3 := keepc hb4 (keepa _ k3)
  replace k4 := keepc hb4 (keepa _ k4)
  replace k5 := keepc hb4 (keepa _ k5)
  have k6 : w4.cell? ⟨w3.heap.size, 0, none⟩ = some (.int .i64 r1) := keepc hb4 (by simp [go_sem])
  have k7 : w4.cell? ⟨w3.heap.size, 1, none⟩ = some (.int .i64 r2) := keepc hb4 (by simp [go_sem])
  replace kb : Below w.heap.size w w4 := (kb.alloc (Nat.le_trans kb.size (by simp)) _).trans (hb4.mono (Nat.le_trans kb.size (by simp)))
  clear hb4
  go_wp2_with fail
  refine (hD _).mono ?_
  rintro e w5 ⟨rfl, hb5⟩
  replace k0 := keepc hb5 (keepa _ k0)
  replace k1 := keepc hb5 (keepa _ k1)
  replace k2 := keepc hb5 (keepa _ k2)
  replace k3 := keepc hb5 (keepa _ k3)
  replace k4 := keepc hb5 (keepa _ k4)
  replace k5 := keepc hb5 (keepa _ k5)
  replace k6 := keepc hb5 (keepa _ k6)
  replace k7 := keepc hb5 (keepa _ k7)
  have k8 : w5.cell? ⟨w4.heap.size, 0, none⟩ = some (.int .i64 p1) := keepc hb5 (by simp [go_sem])
  have k9 : w5.cell? ⟨w4.heap.size, 1, none⟩ = some (.int .i64 p2) := keepc hb5 (by simp [go_sem])
  replace kb : Below w.heap.size w w5 := (kb.alloc (Nat.le_trans kb.size (by simp)) _).trans (hb5.mono (Nat.le_trans kb.size (by simp)))
  clear hb5
  go_wp2_with fail
  refine (hV1 _).mono ?_
  rintro e w6 ⟨rfl, hb6⟩
  replace k0 := keepc hb6 (keepa _ k0)
  replace k1 := keepc hb6 (keepa _ k1)
  replace k2 := keepc hb6 (keepa _ k2)
  replace k3 := keepc hb6 (keepa _ k3)
  replace k4 := keepc hb6 (keepa _ k4)
  replace k5 := keepc hb6 (keepa _ k5)
  replace k6 := keepc hb6 (keepa _ k6)
  replace k7 := keepc hb6 (keepa _ k7)
  replace k8 := keepc hb6 (keepa _ k8)
  replace k9 := keepc hb6 (keepa _ k9)
  have k10 : w6.cell? ⟨w5.heap.size, 0, none⟩ = some (.int .i64 q1) := keepc hb6 (by simp [go_sem])
  have k11 : w6.cell? ⟨w5.heap.size, 1, none⟩ = some (.int .i64 q2) := keepc hb6 (by simp [go_sem])
  replace kb : Below w.heap.size w w6 := (kb.alloc (Nat.le_trans kb.size (by simp)) _).trans (hb6.mono (Nat.le_trans kb.size (by simp)))
  clear hb6
  go_wp2_with fail
  refine (hV2 _).mono ?_
  rintro e w7 ⟨rfl, hb7⟩
  replace k0 := keepc hb7 k0
  replace k1 := keepc hb7 k1
  replace k2 := keepc hb7 k2
  replace k3 := keepc hb7 k3
  replace k4 := keepc hb7 k4
  replace k5 := keepc hb7 k5
  replace k6 := keepc hb7 k6
  replace k7 := keepc hb7 k7
  replace k8 := keepc hb7 k8
  replace k9 := keepc hb7 k9
  replace k10 := keepc hb7 k10
  replace k11 := keepc hb7 k11
  replace kb : Below w.heap.size w w7 := kb.trans (hb7.mono (Nat.le_trans kb.size (by simp)))
  clear hb7
  go_wp2_with fail
  refine (small_four n1 d1 n2 d2 _ _ _ (by simp [go_sem]) (by simp [go_sem]) (by simp [go_sem]) (by simp [go_sem]) hB).mono ?_
  rintro e w8 ⟨rfl, hb8⟩
  replace k0 := keepc hb8 (keepa _ k0)
  replace k1 := keepc hb8 (keepa _ k1)
  replace k2 := keepc hb8 (keepa _ k2)
  replace k3 := keepc hb8 (keepa _ k3)
  replace k4 := keepc hb8 (keepa _ k4)
  replace k5 := keepc hb8 (keepa _ k5)
  replace k6 := keepc hb8 (keepa _ k6)
  replace k7 := keepc hb8 (keepa _ k7)
  replace k8 := keepc hb8 (keepa _ k8)
  replace k9 := keepc hb8 (keepa _ k9)
  replace k10 := keepc hb8 (keepa _ k10)
  replace k11 := keepc hb8 (keepa _ k11)
  have k12 : w8.cell? ⟨w7.heap.size, 0, none⟩ = some (.int .i64 n1) := keepc hb8 (by simp [go_sem])
  have k13 : w8.cell? ⟨w7.heap.size, 1, none⟩ = some (.int .i64 d1) := keepc hb8 (by simp [go_sem])
  have k14 : w8.cell? ⟨w7.heap.size, 2, none⟩ = some (.int .i64 n2) := keepc hb8 (by simp [go_sem])
  have k15 : w8.cell? ⟨w7.heap.size, 3, none⟩ = some (.int .i64 d2) := keepc hb8 (by simp [go_sem])
  replace kb : Below w.heap.size w w8 := (kb.alloc (Nat.le_trans kb.size (by simp)) _).trans (hb8.mono (Nat.le_trans kb.size (by simp)))
  clear hb8
  clear k12
  clear k13
  clear k14
  clear k15
  go_upto_region 12 with fail
  go_cut [14, 15] (fun t14 t15 wx => ∃ px py : Nat, t14 = .pointer (some ⟨px, 0, none⟩) ∧ t15 = .pointer (some ⟨py, 0, none⟩) ∧ wx.cell? ⟨px, 0, none⟩ = some (.int .i64 n1) ∧ wx.cell? ⟨px, 1, none⟩ = some (.int .i64 d1) ∧ wx.cell? ⟨py, 0, none⟩ = some (.int .i64 n2) ∧ wx.cell? ⟨py, 1, none⟩ = some (.int .i64 d2) ∧ wx.cell? ⟨w.heap.size, 0, none⟩ = some (.int .i64 n1) ∧ wx.cell? ⟨w.heap.size, 1, none⟩ = some (.int .i64 d1) ∧ wx.cell? ⟨w.heap.size + 1, 0, none⟩ = some (.int .i64 n2) ∧ wx.cell? ⟨w.heap.size + 1, 1, none⟩ = some (.int .i64 d2) ∧ wx.cell? ⟨w2.heap.size, 0, none⟩ = some (.int .i64 s1) ∧ wx.cell? ⟨w2.heap.size, 1, none⟩ = some (.int .i64 s2) ∧ wx.cell? ⟨w3.heap.size, 0, none⟩ = some (.int .i64 r1) ∧ wx.cell? ⟨w3.heap.size, 1, none⟩ = some (.int .i64 r2) ∧ wx.cell? ⟨w4.heap.size, 0, none⟩ = some (.int .i64 p1) ∧ wx.cell? ⟨w4.heap.size, 1, none⟩ = some (.int .i64 p2) ∧ wx.cell? ⟨w5.heap.size, 0, none⟩ = some (.int .i64 q1) ∧ wx.cell? ⟨w5.heap.size, 1, none⟩ = some (.int .i64 q2) ∧ Below w.heap.size w wx)
  case first =>
    have hds : ∀ x : World, x.drew.heap.size = x.heap.size := fun _ => rfl
    have h_k0 : ∀ w' : World, Below w8.heap.size w8 w' → w'.cell? ⟨w.heap.size, 0, none⟩ = some (.int .i64 n1) := fun w' h => keepc h k0
    have h_k1 : ∀ w' : World, Below w8.heap.size w8 w' → w'.cell? ⟨w.heap.size, 1, none⟩ = some (.int .i64 d1) := fun w' h => keepc h k1
    have h_k2 : ∀ w' : World, Below w8.heap.size w8 w' → w'.cell? ⟨w.heap.size + 1, 0, none⟩ = some (.int .i64 n2) := fun w' h => keepc h k2
    have h_k3 : ∀ w' : World, Below w8.heap.size w8 w' → w'.cell? ⟨w.heap.size + 1, 1, none⟩ = some (.int .i64 d2) := fun w' h => keepc h k3
    have h_k4 : ∀ w' : World, Below w8.heap.size w8 w' → w'.cell? ⟨w2.heap.size, 0, none⟩ = some (.int .i64 s1) := fun w' h => keepc h k4
    have h_k5 : ∀ w' : World, Below w8.heap.size w8 w' → w'.cell? ⟨w2.heap.size, 1, none⟩ = some (.int .i64 s2) := fun w' h => keepc h k5
    have h_k6 : ∀ w' : World, Below w8.heap.size w8 w' → w'.cell? ⟨w3.heap.size, 0, none⟩ = some (.int .i64 r1) := fun w' h => keepc h k6
    have h_k7 : ∀ w' : World, Below w8.heap.size w8 w' → w'.cell? ⟨w3.heap.size, 1, none⟩ = some (.int .i64 r2) := fun w' h => keepc h k7
    have h_k8 : ∀ w' : World, Below w8.heap.size w8 w' → w'.cell? ⟨w4.heap.size, 0, none⟩ = some (.int .i64 p1) := fun w' h => keepc h k8
    have h_k9 : ∀ w' : World, Below w8.heap.size w8 w' → w'.cell? ⟨w4.heap.size, 1, none⟩ = some (.int .i64 p2) := fun w' h => keepc h k9
    have h_k10 : ∀ w' : World, Below w8.heap.size w8 w' → w'.cell? ⟨w5.heap.size, 0, none⟩ = some (.int .i64 q1) := fun w' h => keepc h k10
    have h_k11 : ∀ w' : World, Below w8.heap.size w8 w' → w'.cell? ⟨w5.heap.size, 1, none⟩ = some (.int .i64 q2) := fun w' h => keepc h k11
    have b0 : Below w8.heap.size w8 w8 := Below.refl _ _
    have b1 : Below w8.heap.size w8 w8.drew := b0.drew
    have y0 : w8.heap.size ≤ w8.heap.size := Nat.le_refl _
    go_region_held3 (fun w' => Below w8.heap.size w8 w') (first | assumption | (repeat (first | assumption | exact b1 | exact b0 | refine Below.alloc ?_ (by first | exact Below.size (by assumption) | (simp <;> omega)) _ | refine Below.setCell ?_ (by first | exact Below.size (by assumption) | (simp <;> omega)) _ | refine Below.drew ?_)))
      (first | (go_at_call_of 13 (Value.agg #[Value.int IntKind.i64 n1, Value.int IntKind.i64 d1]); refine (plain_any _ _ _).mono ?_; rintro e wp ⟨rfl, hb_wp⟩; obtain ⟨hc_wp, hf_wp⟩ := bcell hb_wp; have k_wp := (fun h : Below w8.heap.size w8 _ => h.trans (hb_wp.mono h.size)); replace k_wp := k_wp (by assumption); have y_wp := Below.size k_wp; have z_wp := Below.size hb_wp; (try simp at z_wp); clear hb_wp; (try have v_wp_0 : w8.heap.size < wp.heap.size := (by omega)); (try have v_wp_1 : w8.heap.size + 1 < wp.heap.size := (by omega))) | (go_at_call_of 13 (Value.agg #[Value.int IntKind.i64 n2, Value.int IntKind.i64 d2]); refine (plain_any _ _ _).mono ?_; rintro e wq ⟨rfl, hb_wq⟩; obtain ⟨hc_wq, hf_wq⟩ := bcell hb_wq; have k_wq := (fun h : Below w8.heap.size w8 _ => h.trans (hb_wq.mono h.size)); replace k_wq := k_wq (by assumption); have y_wq := Below.size k_wq; have z_wq := Below.size hb_wq; (try simp at z_wq); clear hb_wq; (try have v_wq_0 : w8.heap.size < wq.heap.size := (by omega)); (try have v_wq_1 : w8.heap.size + 1 < wq.heap.size := (by omega)); (try have v_wq_2 : wp.heap.size < wq.heap.size := (by omega)); (try have v_wq_3 : wp.heap.size + 1 < wq.heap.size := (by omega))))
    all_goals
      go_wp2_with fail
      go_meet
      refine ⟨_, _, rfl, rfl, ?_, ?_, ?_, ?_, h_k0 _ ?_, h_k1 _ ?_, h_k2 _ ?_, h_k3 _ ?_, h_k4 _ ?_, h_k5 _ ?_, h_k6 _ ?_, h_k7 _ ?_, h_k8 _ ?_, h_k9 _ ?_, h_k10 _ ?_, h_k11 _ ?_, kb.trans (Below.mono ?_ kb.size)⟩
      rotate_left 4
      · (first | assumption | (repeat (first | assumption | exact b1 | exact b0 | refine Below.alloc ?_ (by first | exact Below.size (by assumption) | (simp <;> omega)) _ | refine Below.setCell ?_ (by first | exact Below.size (by assumption) | (simp <;> omega)) _ | refine Below.drew ?_)))
      · (first | assumption | (repeat (first | assumption | exact b1 | exact b0 | refine Below.alloc ?_ (by first | exact Below.size (by assumption) | (simp <;> omega)) _ | refine Below.setCell ?_ (by first | exact Below.size (by assumption) | (simp <;> omega)) _ | refine Below.drew ?_)))
      · (first | assumption | (repeat (first | assumption | exact b1 | exact b0 | refine Below.alloc ?_ (by first | exact Below.size (by assumption) | (simp <;> omega)) _ | refine Below.setCell ?_ (by first | exact Below.size (by assumption) | (simp <;> omega)) _ | refine Below.drew ?_)))
      · (first | assumption | (repeat (first | assumption | exact b1 | exact b0 | refine Below.alloc ?_ (by first | exact Below.size (by assumption) | (simp <;> omega)) _ | refine Below.setCell ?_ (by first | exact Below.size (by assumption) | (simp <;> omega)) _ | refine Below.drew ?_)))
      · (first | assumption | (repeat (first | assumption | exact b1 | exact b0 | refine Below.alloc ?_ (by first | exact Below.size (by assumption) | (simp <;> omega)) _ | refine Below.setCell ?_ (by first | exact Below.size (by assumption) | (simp <;> omega)) _ | refine Below.drew ?_)))
      · (first | assumption | (repeat (first | assumption | exact b1 | exact b0 | refine Below.alloc ?_ (by first | exact Below.size (by assumption) | (simp <;> omega)) _ | refine Below.setCell ?_ (by first | exact Below.size (by assumption) | (simp <;> omega)) _ | refine Below.drew ?_)))
      · (first | assumption | (repeat (first | assumption | exact b1 | exact b0 | refine Below.alloc ?_ (by first | exact Below.size (by assumption) | (simp <;> omega)) _ | refine Below.setCell ?_ (by first | exact Below.size (by assumption) | (simp <;> omega)) _ | refine Below.drew ?_)))
      · (first | assumption | (repeat (first | assumption | exact b1 | exact b0 | refine Below.alloc ?_ (by first | exact Below.size (by assumption) | (simp <;> omega)) _ | refine Below.setCell ?_ (by first | exact Below.size (by assumption) | (simp <;> omega)) _ | refine Below.drew ?_)))
      · (first | assumption | (repeat (first | assumption | exact b1 | exact b0 | refine Below.alloc ?_ (by first | exact Below.size (by assumption) | (simp <;> omega)) _ | refine Below.setCell ?_ (by first | exact Below.size (by assumption) | (simp <;> omega)) _ | refine Below.drew ?_)))
      · (first | assumption | (repeat (first | assumption | exact b1 | exact b0 | refine Below.alloc ?_ (by first | exact Below.size (by assumption) | (simp <;> omega)) _ | refine Below.setCell ?_ (by first | exact Below.size (by assumption) | (simp <;> omega)) _ | refine Below.drew ?_)))
      · (first | assumption | (repeat (first | assumption | exact b1 | exact b0 | refine Below.alloc ?_ (by first | exact Below.size (by assumption) | (simp <;> omega)) _ | refine Below.setCell ?_ (by first | exact Below.size (by assumption) | (simp <;> omega)) _ | refine Below.drew ?_)))
      · (first | assumption | (repeat (first | assumption | exact b1 | exact b0 | refine Below.alloc ?_ (by first | exact Below.size (by assumption) | (simp <;> omega)) _ | refine Below.setCell ?_ (by first | exact Below.size (by assumption) | (simp <;> omega)) _ | refine Below.drew ?_)))
      · (first | assumption | (repeat (first | assumption | exact b1 | exact b0 | refine Below.alloc ?_ (by first | exact Below.size (by assumption) | (simp <;> omega)) _ | refine Below.setCell ?_ (by first | exact Below.size (by assumption) | (simp <;> omega)) _ | refine Below.drew ?_)))
      all_goals
        have l1 : ∀ n : Nat, n < n + 1 := fun n => Nat.lt_succ_self n
        have l2 : ∀ n : Nat, n < n + 1 + 1 := fun n => by omega
        have l3 : ∀ n : Nat, n ≠ n + 1 := fun n => by omega
        have l4 : w8.heap.size < wp.heap.size + 1 := by omega
        have l5 : w8.heap.size < wp.heap.size + 1 + 1 := by omega
        (simp [go_sem, *]; done)
  case rest =>
    obtain ⟨px, py, rfl, rfl, c1_px_0, c1_px_1, c1_py_0, c1_py_1, k0, k1, k2, k3, k4, k5, k6, k7, k8, k9, k10, k11, kb⟩ := hcut
    generalize wc = wC1 at *
    go_wp2_with fail
    refine (hRA _).mono ?_
    rintro e w9 ⟨rfl, hb9⟩
    replace k0 := keepc hb9 k0
    replace k1 := keepc hb9 k1
    replace k2 := keepc hb9 k2
    replace k3 := keepc hb9 k3
    replace k4 := keepc hb9 k4
    replace k5 := keepc hb9 k5
    replace k6 := keepc hb9 k6
    replace k7 := keepc hb9 k7
    replace k8 := keepc hb9 k8
    replace k9 := keepc hb9 k9
    replace k10 := keepc hb9 k10
    replace k11 := keepc hb9 k11
    replace c1_px_0 := keepc hb9 c1_px_0
    replace c1_px_1 := keepc hb9 c1_px_1
    replace c1_py_0 := keepc hb9 c1_py_0
    replace c1_py_1 := keepc hb9 c1_py_1
    replace kb : Below w.heap.size w w9 := kb.trans (hb9.mono (Nat.le_trans kb.size (by simp)))
    clear hb9
    go_upto_region 14 with fail
    replace k0 := keepa (.cells #[.int .i64 s1, .int .i64 s2] 27) k0
    replace k1 := keepa (.cells #[.int .i64 s1, .int .i64 s2] 27) k1
    replace k2 := keepa (.cells #[.int .i64 s1, .int .i64 s2] 27) k2
    replace k3 := keepa (.cells #[.int .i64 s1, .int .i64 s2] 27) k3
    replace k4 := keepa (.cells #[.int .i64 s1, .int .i64 s2] 27) k4
    replace k5 := keepa (.cells #[.int .i64 s1, .int .i64 s2] 27) k5
    replace k6 := keepa (.cells #[.int .i64 s1, .int .i64 s2] 27) k6
    replace k7 := keepa (.cells #[.int .i64 s1, .int .i64 s2] 27) k7
    replace k8 := keepa (.cells #[.int .i64 s1, .int .i64 s2] 27) k8
    replace k9 := keepa (.cells #[.int .i64 s1, .int .i64 s2] 27) k9
    replace k10 := keepa (.cells #[.int .i64 s1, .int .i64 s2] 27) k10
    replace k11 := keepa (.cells #[.int .i64 s1, .int .i64 s2] 27) k11
    replace c1_px_0 := keepa (.cells #[.int .i64 s1, .int .i64 s2] 27) c1_px_0
    replace c1_px_1 := keepa (.cells #[.int .i64 s1, .int .i64 s2] 27) c1_px_1
    replace c1_py_0 := keepa (.cells #[.int .i64 s1, .int .i64 s2] 27) c1_py_0
    replace c1_py_1 := keepa (.cells #[.int .i64 s1, .int .i64 s2] 27) c1_py_1
    have k116 : (w9.alloc (.cells #[.int .i64 s1, .int .i64 s2] 27)).cell? ⟨w9.heap.size, 0, none⟩ = some (.int .i64 s1) := by simp [go_sem]
    have k117 : (w9.alloc (.cells #[.int .i64 s1, .int .i64 s2] 27)).cell? ⟨w9.heap.size, 1, none⟩ = some (.int .i64 s2) := by simp [go_sem]
    replace kb : Below w.heap.size w (w9.alloc (.cells #[.int .i64 s1, .int .i64 s2] 27)) := kb.alloc kb.size _
    generalize w9.alloc (.cells #[.int .i64 s1, .int .i64 s2] 27) = wS at *
    go_upto_region 14 with fail
    go_cut [18, 19] (fun t18 t19 wx => ∃ pd : Nat, t18 = .pointer (some ⟨pd, 0, none⟩) ∧ t19 = .int .i64 r3 ∧ wx.cell? ⟨pd, 0, none⟩ = some (.int .i64 r1) ∧ wx.cell? ⟨pd, 1, none⟩ = some (.int .i64 r2) ∧ wx.cell? ⟨w.heap.size, 0, none⟩ = some (.int .i64 n1) ∧ wx.cell? ⟨w.heap.size, 1, none⟩ = some (.int .i64 d1) ∧ wx.cell? ⟨w.heap.size + 1, 0, none⟩ = some (.int .i64 n2) ∧ wx.cell? ⟨w.heap.size + 1, 1, none⟩ = some (.int .i64 d2) ∧ wx.cell? ⟨w2.heap.size, 0, none⟩ = some (.int .i64 s1) ∧ wx.cell? ⟨w2.heap.size, 1, none⟩ = some (.int .i64 s2) ∧ wx.cell? ⟨w3.heap.size, 0, none⟩ = some (.int .i64 r1) ∧ wx.cell? ⟨w3.heap.size, 1, none⟩ = some (.int .i64 r2) ∧ wx.cell? ⟨w4.heap.size, 0, none⟩ = some (.int .i64 p1) ∧ wx.cell? ⟨w4.heap.size, 1, none⟩ = some (.int .i64 p2) ∧ wx.cell? ⟨w5.heap.size, 0, none⟩ = some (.int .i64 q1) ∧ wx.cell? ⟨w5.heap.size, 1, none⟩ = some (.int .i64 q2) ∧ wx.cell? ⟨px, 0, none⟩ = some (.int .i64 n1) ∧ wx.cell? ⟨px, 1, none⟩ = some (.int .i64 d1) ∧ wx.cell? ⟨py, 0, none⟩ = some (.int .i64 n2) ∧ wx.cell? ⟨py, 1, none⟩ = some (.int .i64 d2) ∧ wx.cell? ⟨w9.heap.size, 0, none⟩ = some (.int .i64 s1) ∧ wx.cell? ⟨w9.heap.size, 1, none⟩ = some (.int .i64 s2) ∧ Below w.heap.size w wx)
    case first =>
      have hds : ∀ x : World, x.drew.heap.size = x.heap.size := fun _ => rfl
      have h_k0 : ∀ w' : World, Below wS.heap.size wS w' → w'.cell? ⟨w.heap.size, 0, none⟩ = some (.int .i64 n1) := fun w' h => keepc h k0
      have h_k1 : ∀ w' : World, Below wS.heap.size wS w' → w'.cell? ⟨w.heap.size, 1, none⟩ = some (.int .i64 d1) := fun w' h => keepc h k1
      have h_k2 : ∀ w' : World, Below wS.heap.size wS w' → w'.cell? ⟨w.heap.size + 1, 0, none⟩ = some (.int .i64 n2) := fun w' h => keepc h k2
      have h_k3 : ∀ w' : World, Below wS.heap.size wS w' → w'.cell? ⟨w.heap.size + 1, 1, none⟩ = some (.int .i64 d2) := fun w' h => keepc h k3
      have h_k4 : ∀ w' : World, Below wS.heap.size wS w' → w'.cell? ⟨w2.heap.size, 0, none⟩ = some (.int .i64 s1) := fun w' h => keepc h k4
      have h_k5 : ∀ w' : World, Below wS.heap.size wS w' → w'.cell? ⟨w2.heap.size, 1, none⟩ = some (.int .i64 s2) := fun w' h => keepc h k5
      have h_k6 : ∀ w' : World, Below wS.heap.size wS w' → w'.cell? ⟨w3.heap.size, 0, none⟩ = some (.int .i64 r1) := fun w' h => keepc h k6
      have h_k7 : ∀ w' : World, Below wS.heap.size wS w' → w'.cell? ⟨w3.heap.size, 1, none⟩ = some (.int .i64 r2) := fun w' h => keepc h k7
      have h_k8 : ∀ w' : World, Below wS.heap.size wS w' → w'.cell? ⟨w4.heap.size, 0, none⟩ = some (.int .i64 p1) := fun w' h => keepc h k8
      have h_k9 : ∀ w' : World, Below wS.heap.size wS w' → w'.cell? ⟨w4.heap.size, 1, none⟩ = some (.int .i64 p2) := fun w' h => keepc h k9
      have h_k10 : ∀ w' : World, Below wS.heap.size wS w' → w'.cell? ⟨w5.heap.size, 0, none⟩ = some (.int .i64 q1) := fun w' h => keepc h k10
      have h_k11 : ∀ w' : World, Below wS.heap.size wS w' → w'.cell? ⟨w5.heap.size, 1, none⟩ = some (.int .i64 q2) := fun w' h => keepc h k11
      have h_c1_px_0 : ∀ w' : World, Below wS.heap.size wS w' → w'.cell? ⟨px, 0, none⟩ = some (.int .i64 n1) := fun w' h => keepc h c1_px_0
      have h_c1_px_1 : ∀ w' : World, Below wS.heap.size wS w' → w'.cell? ⟨px, 1, none⟩ = some (.int .i64 d1) := fun w' h => keepc h c1_px_1
      have h_c1_py_0 : ∀ w' : World, Below wS.heap.size wS w' → w'.cell? ⟨py, 0, none⟩ = some (.int .i64 n2) := fun w' h => keepc h c1_py_0
      have h_c1_py_1 : ∀ w' : World, Below wS.heap.size wS w' → w'.cell? ⟨py, 1, none⟩ = some (.int .i64 d2) := fun w' h => keepc h c1_py_1
      have h_k116 : ∀ w' : World, Below wS.heap.size wS w' → w'.cell? ⟨w9.heap.size, 0, none⟩ = some (.int .i64 s1) := fun w' h => keepc h k116
      have h_k117 : ∀ w' : World, Below wS.heap.size wS w' → w'.cell? ⟨w9.heap.size, 1, none⟩ = some (.int .i64 s2) := fun w' h => keepc h k117
      have b0 : Below wS.heap.size wS wS := Below.refl _ _
      have b1 : Below wS.heap.size wS wS.drew := b0.drew
      have y0 : wS.heap.size ≤ wS.heap.size := Nat.le_refl _
      go_region_held3 (fun w' => Below wS.heap.size wS w') (first | assumption | (repeat (first | assumption | exact b1 | exact b0 | refine Below.alloc ?_ (by first | exact Below.size (by assumption) | (simp <;> omega)) _ | refine Below.setCell ?_ (by first | exact Below.size (by assumption) | (simp <;> omega)) _ | refine Below.drew ?_)))
        (first | (go_at_call 23; refine (rneg_any n2 d2 _).mono ?_; rintro e wp ⟨he, hb_wp⟩; rw [hm2] at he; subst he; obtain ⟨hc_wp, hf_wp⟩ := bcell hb_wp; have k_wp := (fun h : Below wS.heap.size wS _ => h.trans (hb_wp.mono h.size)); replace k_wp := k_wp (by assumption); have y_wp := Below.size k_wp; have z_wp := Below.size hb_wp; (try simp at z_wp); clear hb_wp; (try have v_wp_0 : wS.heap.size < wp.heap.size := (by omega)); (try have v_wp_1 : wS.heap.size + 1 < wp.heap.size := (by omega))) | (go_at_call 22; refine (hRS _).mono ?_; rintro e wq ⟨rfl, hb_wq⟩; obtain ⟨hc_wq, hf_wq⟩ := bcell hb_wq; have k_wq := (fun h : Below wS.heap.size wS _ => h.trans (hb_wq.mono h.size)); replace k_wq := k_wq (by assumption); have y_wq := Below.size k_wq; have z_wq := Below.size hb_wq; (try simp at z_wq); clear hb_wq; (try have v_wq_0 : wS.heap.size < wq.heap.size := (by omega)); (try have v_wq_1 : wS.heap.size + 1 < wq.heap.size := (by omega)); (try have v_wq_2 : wp.heap.size < wq.heap.size := (by omega)); (try have v_wq_3 : wp.heap.size + 1 < wq.heap.size := (by omega))))
      all_goals
        go_wp2_with fail
        go_meet
        refine ⟨_, rfl, rfl, ?_, ?_, h_k0 _ ?_, h_k1 _ ?_, h_k2 _ ?_, h_k3 _ ?_, h_k4 _ ?_, h_k5 _ ?_, h_k6 _ ?_, h_k7 _ ?_, h_k8 _ ?_, h_k9 _ ?_, h_k10 _ ?_, h_k11 _ ?_, h_c1_px_0 _ ?_, h_c1_px_1 _ ?_, h_c1_py_0 _ ?_, h_c1_py_1 _ ?_, h_k116 _ ?_, h_k117 _ ?_, kb.trans (Below.mono ?_ kb.size)⟩
        rotate_left 2
        · (first | assumption | (repeat (first | assumption | exact b1 | exact b0 | refine Below.alloc ?_ (by first | exact Below.size (by assumption) | (simp <;> omega)) _ | refine Below.setCell ?_ (by first | exact Below.size (by assumption) | (simp <;> omega)) _ | refine Below.drew ?_)))
        · (first | assumption | (repeat (first | assumption | exact b1 | exact b0 | refine Below.alloc ?_ (by first | exact Below.size (by assumption) | (simp <;> omega)) _ | refine Below.setCell ?_ (by first | exact Below.size (by assumption) | (simp <;> omega)) _ | refine Below.drew ?_)))
        · (first | assumption | (repeat (first | assumption | exact b1 | exact b0 | refine Below.alloc ?_ (by first | exact Below.size (by assumption) | (simp <;> omega)) _ | refine Below.setCell ?_ (by first | exact Below.size (by assumption) | (simp <;> omega)) _ | refine Below.drew ?_)))
        · (first | assumption | (repeat (first | assumption | exact b1 | exact b0 | refine Below.alloc ?_ (by first | exact Below.size (by assumption) | (simp <;> omega)) _ | refine Below.setCell ?_ (by first | exact Below.size (by assumption) | (simp <;> omega)) _ | refine Below.drew ?_)))
        · (first | assumption | (repeat (first | assumption | exact b1 | exact b0 | refine Below.alloc ?_ (by first | exact Below.size (by assumption) | (simp <;> omega)) _ | refine Below.setCell ?_ (by first | exact Below.size (by assumption) | (simp <;> omega)) _ | refine Below.drew ?_)))
        · (first | assumption | (repeat (first | assumption | exact b1 | exact b0 | refine Below.alloc ?_ (by first | exact Below.size (by assumption) | (simp <;> omega)) _ | refine Below.setCell ?_ (by first | exact Below.size (by assumption) | (simp <;> omega)) _ | refine Below.drew ?_)))
        · (first | assumption | (repeat (first | assumption | exact b1 | exact b0 | refine Below.alloc ?_ (by first | exact Below.size (by assumption) | (simp <;> omega)) _ | refine Below.setCell ?_ (by first | exact Below.size (by assumption) | (simp <;> omega)) _ | refine Below.drew ?_)))
        · (first | assumption | (repeat (first | assumption | exact b1 | exact b0 | refine Below.alloc ?_ (by first | exact Below.size (by assumption) | (simp <;> omega)) _ | refine Below.setCell ?_ (by first | exact Below.size (by assumption) | (simp <;> omega)) _ | refine Below.drew ?_)))
        · (first | assumption | (repeat (first | assumption | exact b1 | exact b0 | refine Below.alloc ?_ (by first | exact Below.size (by assumption) | (simp <;> omega)) _ | refine Below.setCell ?_ (by first | exact Below.size (by assumption) | (simp <;> omega)) _ | refine Below.drew ?_)))
        · (first | assumption | (repeat (first | assumption | exact b1 | exact b0 | refine Below.alloc ?_ (by first | exact Below.size (by assumption) | (simp <;> omega)) _ | refine Below.setCell ?_ (by first | exact Below.size (by assumption) | (simp <;> omega)) _ | refine Below.drew ?_)))
        · (first | assumption | (repeat (first | assumption | exact b1 | exact b0 | refine Below.alloc ?_ (by first | exact Below.size (by assumption) | (simp <;> omega)) _ | refine Below.setCell ?_ (by first | exact Below.size (by assumption) | (simp <;> omega)) _ | refine Below.drew ?_)))
        · (first | assumption | (repeat (first | assumption | exact b1 | exact b0 | refine Below.alloc ?_ (by first | exact Below.size (by assumption) | (simp <;> omega)) _ | refine Below.setCell ?_ (by first | exact Below.size (by assumption) | (simp <;> omega)) _ | refine Below.drew ?_)))
        · (first | assumption | (repeat (first | assumption | exact b1 | exact b0 | refine Below.alloc ?_ (by first | exact Below.size (by assumption) | (simp <;> omega)) _ | refine Below.setCell ?_ (by first | exact Below.size (by assumption) | (simp <;> omega)) _ | refine Below.drew ?_)))
        · (first | assumption | (repeat (first | assumption | exact b1 | exact b0 | refine Below.alloc ?_ (by first | exact Below.size (by assumption) | (simp <;> omega)) _ | refine Below.setCell ?_ (by first | exact Below.size (by assumption) | (simp <;> omega)) _ | refine Below.drew ?_)))
        · (first | assumption | (repeat (first | assumption | exact b1 | exact b0 | refine Below.alloc ?_ (by first | exact Below.size (by assumption) | (simp <;> omega)) _ | refine Below.setCell ?_ (by first | exact Below.size (by assumption) | (simp <;> omega)) _ | refine Below.drew ?_)))
        · (first | assumption | (repeat (first | assumption | exact b1 | exact b0 | refine Below.alloc ?_ (by first | exact Below.size (by assumption) | (simp <;> omega)) _ | refine Below.setCell ?_ (by first | exact Below.size (by assumption) | (simp <;> omega)) _ | refine Below.drew ?_)))
        · (first | assumption | (repeat (first | assumption | exact b1 | exact b0 | refine Below.alloc ?_ (by first | exact Below.size (by assumption) | (simp <;> omega)) _ | refine Below.setCell ?_ (by first | exact Below.size (by assumption) | (simp <;> omega)) _ | refine Below.drew ?_)))
        · (first | assumption | (repeat (first | assumption | exact b1 | exact b0 | refine Below.alloc ?_ (by first | exact Below.size (by assumption) | (simp <;> omega)) _ | refine Below.setCell ?_ (by first | exact Below.size (by assumption) | (simp <;> omega)) _ | refine Below.drew ?_)))
        · (first | assumption | (repeat (first | assumption | exact b1 | exact b0 | refine Below.alloc ?_ (by first | exact Below.size (by assumption) | (simp <;> omega)) _ | refine Below.setCell ?_ (by first | exact Below.size (by assumption) | (simp <;> omega)) _ | refine Below.drew ?_)))
        all_goals
          have l1 : ∀ n : Nat, n < n + 1 := fun n => Nat.lt_succ_self n
          have l2 : ∀ n : Nat, n < n + 1 + 1 := fun n => by omega
          have l3 : ∀ n : Nat, n ≠ n + 1 := fun n => by omega
          have l4 : wS.heap.size < wp.heap.size + 1 := by omega
          have l5 : wS.heap.size < wp.heap.size + 1 + 1 := by omega
          (simp [go_sem, *]; done)
    case rest =>
      obtain ⟨pd, rfl, rfl, c2_pd_0, c2_pd_1, k0, k1, k2, k3, k4, k5, k6, k7, k8, k9, k10, k11, c1_px_0, c1_px_1, c1_py_0, c1_py_1, k116, k117, kb⟩ := hcut
      generalize wc = wC2 at *
      go_wp2_with fail
      refine (hRM _).mono ?_
      rintro e w10 ⟨rfl, hb10⟩
      replace k0 := keepc hb10 k0
      replace k1 := keepc hb10 k1
      replace k2 := keepc hb10 k2
      replace k3 := keepc hb10 k3
      replace k4 := keepc hb10 k4
      replace k5 := keepc hb10 k5
      replace k6 := keepc hb10 k6
      replace k7 := keepc hb10 k7
      replace k8 := keepc hb10 k8
      replace k9 := keepc hb10 k9
      replace k10 := keepc hb10 k10
      replace k11 := keepc hb10 k11
      replace c1_px_0 := keepc hb10 c1_px_0
      replace c1_px_1 := keepc hb10 c1_px_1
      replace c1_py_0 := keepc hb10 c1_py_0
      replace c1_py_1 := keepc hb10 c1_py_1
      replace k116 := keepc hb10 k116
      replace k117 := keepc hb10 k117
      replace c2_pd_0 := keepc hb10 c2_pd_0
      replace c2_pd_1 := keepc hb10 c2_pd_1
      replace kb : Below w.heap.size w w10 := kb.trans (hb10.mono (Nat.le_trans kb.size (by simp)))
      clear hb10
      go_wp2_with fail
      refine (hRD _).mono ?_
      rintro e w11 ⟨rfl, hb11⟩
      replace k0 := keepc hb11 (keepa _ k0)
      replace k1 := keepc hb11 (keepa _ k1)
      replace k2 := keepc hb11 (keepa _ k2)
      replace k3 := keepc hb11 (keepa _ k3)
      replace k4 := keepc hb11 (keepa _ k4)
      replace k5 := keepc hb11 (keepa _ k5)
      replace k6 := keepc hb11 (keepa _ k6)
      replace k7 := keepc hb11 (keepa _ k7)
      replace k8 := keepc hb11 (keepa _ k8)
      replace k9 := keepc hb11 (keepa _ k9)
      replace k10 := keepc hb11 (keepa _ k10)
      replace k11 := keepc hb11 (keepa _ k11)
      replace c1_px_0 := keepc hb11 (keepa _ c1_px_0)
      replace c1_px_1 := keepc hb11 (keepa _ c1_px_1)
      replace c1_py_0 := keepc hb11 (keepa _ c1_py_0)
      replace c1_py_1 := keepc hb11 (keepa _ c1_py_1)
      replace k116 := keepc hb11 (keepa _ k116)
      replace k117 := keepc hb11 (keepa _ k117)
      replace c2_pd_0 := keepc hb11 (keepa _ c2_pd_0)
      replace c2_pd_1 := keepc hb11 (keepa _ c2_pd_1)
      have k20 : w11.cell? ⟨w10.heap.size, 0, none⟩ = some (.int .i64 p1) := keepc hb11 (by simp [go_sem])
      have k21 : w11.cell? ⟨w10.heap.size, 1, none⟩ = some (.int .i64 p2) := keepc hb11 (by simp [go_sem])
      replace kb : Below w.heap.size w w11 := (kb.alloc (Nat.le_trans kb.size (by simp)) _).trans (hb11.mono (Nat.le_trans kb.size (by simp)))
      clear hb11
      go_wp2_with fail
      refine (is_any s1 s2 s3 _).mono ?_
      rintro e w12 ⟨rfl, hb12⟩
      replace k0 := keepc hb12 (keepa _ k0)
      replace k1 := keepc hb12 (keepa _ k1)
      replace k2 := keepc hb12 (keepa _ k2)
      replace k3 := keepc hb12 (keepa _ k3)
      replace k4 := keepc hb12 (keepa _ k4)
      replace k5 := keepc hb12 (keepa _ k5)
      replace k6 := keepc hb12 (keepa _ k6)
      replace k7 := keepc hb12 (keepa _ k7)
      replace k8 := keepc hb12 (keepa _ k8)
      replace k9 := keepc hb12 (keepa _ k9)
      replace k10 := keepc hb12 (keepa _ k10)
      replace k11 := keepc hb12 (keepa _ k11)
      replace c1_px_0 := keepc hb12 (keepa _ c1_px_0)
      replace c1_px_1 := keepc hb12 (keepa _ c1_px_1)
      replace c1_py_0 := keepc hb12 (keepa _ c1_py_0)
      replace c1_py_1 := keepc hb12 (keepa _ c1_py_1)
      replace k116 := keepc hb12 (keepa _ k116)
      replace k117 := keepc hb12 (keepa _ k117)
      replace c2_pd_0 := keepc hb12 (keepa _ c2_pd_0)
      replace c2_pd_1 := keepc hb12 (keepa _ c2_pd_1)
      replace k20 := keepc hb12 (keepa _ k20)
      replace k21 := keepc hb12 (keepa _ k21)
      have k22 : w12.cell? ⟨w11.heap.size, 0, none⟩ = some (.int .i64 q1) := keepc hb12 (by simp [go_sem])
      have k23 : w12.cell? ⟨w11.heap.size, 1, none⟩ = some (.int .i64 q2) := keepc hb12 (by simp [go_sem])
      replace kb : Below w.heap.size w w12 := (kb.alloc (Nat.le_trans kb.size (by simp)) _).trans (hb12.mono (Nat.le_trans kb.size (by simp)))
      clear hb12
      go_wp2_with fail
      refine (is_any r1 r2 r3 _).mono ?_
      rintro e w13 ⟨rfl, hb13⟩
      replace k0 := keepc hb13 k0
      replace k1 := keepc hb13 k1
      replace k2 := keepc hb13 k2
      replace k3 := keepc hb13 k3
      replace k4 := keepc hb13 k4
      replace k5 := keepc hb13 k5
      replace k6 := keepc hb13 k6
      replace k7 := keepc hb13 k7
      replace k8 := keepc hb13 k8
      replace k9 := keepc hb13 k9
      replace k10 := keepc hb13 k10
      replace k11 := keepc hb13 k11
      replace c1_px_0 := keepc hb13 c1_px_0
      replace c1_px_1 := keepc hb13 c1_px_1
      replace c1_py_0 := keepc hb13 c1_py_0
      replace c1_py_1 := keepc hb13 c1_py_1
      replace k116 := keepc hb13 k116
      replace k117 := keepc hb13 k117
      replace c2_pd_0 := keepc hb13 c2_pd_0
      replace c2_pd_1 := keepc hb13 c2_pd_1
      replace k20 := keepc hb13 k20
      replace k21 := keepc hb13 k21
      replace k22 := keepc hb13 k22
      replace k23 := keepc hb13 k23
      replace kb : Below w.heap.size w w13 := kb.trans (hb13.mono (Nat.le_trans kb.size (by simp)))
      clear hb13
      go_wp2_with fail
      refine (is_any p1 p2 p3 _).mono ?_
      rintro e w14 ⟨rfl, hb14⟩
      replace k0 := keepc hb14 k0
      replace k1 := keepc hb14 k1
      replace k2 := keepc hb14 k2
      replace k3 := keepc hb14 k3
      replace k4 := keepc hb14 k4
      replace k5 := keepc hb14 k5
      replace k6 := keepc hb14 k6
      replace k7 := keepc hb14 k7
      replace k8 := keepc hb14 k8
      replace k9 := keepc hb14 k9
      replace k10 := keepc hb14 k10
      replace k11 := keepc hb14 k11
      replace c1_px_0 := keepc hb14 c1_px_0
      replace c1_px_1 := keepc hb14 c1_px_1
      replace c1_py_0 := keepc hb14 c1_py_0
      replace c1_py_1 := keepc hb14 c1_py_1
      replace k116 := keepc hb14 k116
      replace k117 := keepc hb14 k117
      replace c2_pd_0 := keepc hb14 c2_pd_0
      replace c2_pd_1 := keepc hb14 c2_pd_1
      replace k20 := keepc hb14 k20
      replace k21 := keepc hb14 k21
      replace k22 := keepc hb14 k22
      replace k23 := keepc hb14 k23
      replace kb : Below w.heap.size w w14 := kb.trans (hb14.mono (Nat.le_trans kb.size (by simp)))
      clear hb14
      go_wp2_with fail
      refine (is_any q1 q2 q3 _).mono ?_
      rintro e w15 ⟨rfl, hb15⟩
      replace k0 := keepc hb15 k0
      replace k1 := keepc hb15 k1
      replace k2 := keepc hb15 k2
      replace k3 := keepc hb15 k3
      replace k4 := keepc hb15 k4
      replace k5 := keepc hb15 k5
      replace k6 := keepc hb15 k6
      replace k7 := keepc hb15 k7
      replace k8 := keepc hb15 k8
      replace k9 := keepc hb15 k9
      replace k10 := keepc hb15 k10
      replace k11 := keepc hb15 k11
      replace c1_px_0 := keepc hb15 c1_px_0
      replace c1_px_1 := keepc hb15 c1_px_1
      replace c1_py_0 := keepc hb15 c1_py_0
      replace c1_py_1 := keepc hb15 c1_py_1
      replace k116 := keepc hb15 k116
      replace k117 := keepc hb15 k117
      replace c2_pd_0 := keepc hb15 c2_pd_0
      replace c2_pd_1 := keepc hb15 c2_pd_1
      replace k20 := keepc hb15 k20
      replace k21 := keepc hb15 k21
      replace k22 := keepc hb15 k22
      replace k23 := keepc hb15 k23
      replace kb : Below w.heap.size w w15 := kb.trans (hb15.mono (Nat.le_trans kb.size (by simp)))
      clear hb15
      go_wp2_with fail
      go_ret
      exact ⟨rfl, kb⟩
end Go.Proofs.Ythiemhkhlggenaa
