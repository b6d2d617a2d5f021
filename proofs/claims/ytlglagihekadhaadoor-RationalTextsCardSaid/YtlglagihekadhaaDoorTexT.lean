/- The texts of numbers: the contracts of both sides. -/
import Derived.Test.YtlglagihekadhaaDoorTexD
import Derived.Test.YtlglagihekadhaaDoorShelf
import Derived.Test.YtlglagihekadhaaDoorRatV
import Derived.Test.YtlglagihekadhaaDoorRatQ
import Derived.Deep.QuietTactic
import Derived.BigQuiet
import Derived.Lib.AppendIntMem
import Derived.WalkSmall
import Derived.Lib.LaidTab
import Derived.Deep.RegionHeld3
namespace Go.Proofs.YtlglagihekadhaaDoor
open Go.RowKit Go.Lib

theorem rfull_any (n d : Int) (hv : d = 0 → n = 0) (w : World) :
    Calls Tryd.prog 21 #[.agg #[.int .i64 n, .int .i64 d]] w fun e w' => e = .returned (.agg #[.int .i64 n, .int .i64 (full d)]) ∧ Below w.heap.size w w' := by
  by_cases h : d = 0
  · obtain rfl := hv h
    subst h
    go_enter Tryd.func21, Tryd.ntmps21
    go_wp2_with fail
    refine bodyPost_ret (v := .agg #[.int .i64 0, .int .i64 1]) (by simp [results, Tryd.results21, go_sem]) rfl ⟨rfl, ?_⟩
    repeat (first | exact Below.refl _ _ | assumption | (refine Below.alloc ?_ (by (try simp) <;> omega) _) | (refine Below.setCell ?_ (by (try simp) <;> omega) _) | (refine Below.drew ?_))
  · have E : Box (full d = d) := box (if_neg h)
    have hd : (d == 0) = false := by simp [h]
    clear h hv
    go_enter Tryd.func21, Tryd.ntmps21
    go_wp2_with fail
    refine bodyPost_ret (v := .agg #[.int .i64 n, .int .i64 d]) (by simp [results, Tryd.results21, go_sem]) rfl ⟨by rw [E.out], ?_⟩
    repeat (first | exact Below.refl _ _ | assumption | (refine Below.alloc ?_ (by (try simp) <;> omega) _) | (refine Below.setCell ?_ (by (try simp) <;> omega) _) | (refine Below.drew ?_))

theorem decimal_q (n : Int) (h1 : -1152921504606846976 ≤ n) (h2 : n ≤ 1152921504606846976) (w : World) (k : Nat) :
    Calls Tryd.prog 22 #[.int .i64 n] (w.drewN k) fun e w' => e = .returned (st (itoa n)) ∧ ∃ m, w' = w.drewN m :=
  Calls.quiet_of_same (decimal_any n h1 h2 _)

theorem itoa_len {n : Int} (h1 : -1152921504606846976 ≤ n) (h2 : n ≤ 1152921504606846976) : (itoa n).length ≤ 21 := itoa_length_le n (by omega) (by omega)

set_option maxRecDepth 10000 in
set_option maxHeartbeats 1000000 in
theorem rtext_any (n d : Int) (hv : d = 0 → n = 0) (h1 : -1152921504606846976 ≤ n) (h2 : n ≤ 1152921504606846976) (d1 : 0 ≤ d) (d2 : d ≤ 1152921504606846976) (w : World) :
    Calls Tryd.prog 8 #[.agg #[.int .i64 n, .int .i64 d]] w fun e w' => e = .returned (st (tx n (full d))) ∧ Below w.heap.size w w' := by
  have F := fun w => box (rfull_any n d hv w)
  have b1 : -1152921504606846976 ≤ full d := by unfold full; split <;> omega
  have b2 : full d ≤ 1152921504606846976 := by unfold full; split <;> omega
  generalize full d = D at F b1 b2 ⊢
  have T1 := fun w k => box (decimal_q n h1 h2 w k)
  have T2 := fun w k => box (decimal_q D b1 b2 w k)
  have T0 := fun w => box (decimal_any n h1 h2 w)
  have L1 := itoa_len h1 h2
  have L2 := itoa_len b1 b2
  by_cases hD : D = 1
  · have hD1 : (D == 1) = true := by simp [hD]
    have hE : tx n D = itoa n := if_pos hD
    rw [hE]
    generalize itoa n = s1 at T0
    clear T1 T2 L1 L2 hD hE
    go_enter Tryd.func8, Tryd.ntmps8
    go_wp2_with fail
    refine (F _).out.mono ?_
    rintro e w1 ⟨rfl, hb1⟩
    have c0 : w1.cell? ⟨w.heap.size, 0, none⟩ = some (.int .i64 n) := (hb1.cell (by show w.heap.size < _; simp)).trans (by simp [go_sem])
    have c1 : w1.cell? ⟨w.heap.size, 1, none⟩ = some (.int .i64 d) := (hb1.cell (by show w.heap.size < _; simp)).trans (by simp [go_sem])
    have f0 : w1.frozen? ⟨w.heap.size, 0, none⟩ = false := (hb1.frozen (by show w.heap.size < _; simp)).trans (by simp [go_sem])
    have f1 : w1.frozen? ⟨w.heap.size, 1, none⟩ = false := (hb1.frozen (by show w.heap.size < _; simp)).trans (by simp [go_sem])
    have kb : Below w.heap.size w w1 := ((Below.refl w.heap.size w).alloc (Nat.le_refl _) _).trans (hb1.mono (by simp))
    clear hb1
    go_wp2_with fail
    refine (T0 _).out.mono ?_
    rintro e w2 ⟨rfl, hw2⟩
    have hw2' := hw2.symm
    subst hw2'
    go_wp2_with fail
    go_ret
    exact ⟨rfl, (kb.setCell (Nat.le_refl _) _).setCell (Nat.le_refl _) _⟩
  · have hD1 : (D == 1) = false := by simp [hD]
    have hE : tx n D = itoa n ++ [47] ++ itoa D := by unfold tx; rw [if_neg hD]; simp
    rw [hE]
    generalize itoa n = s1 at T1 L1
    generalize itoa D = s2 at T2 L2
    clear T0 hD hE
    go_enter Tryd.func8, Tryd.ntmps8
    go_wp2_with fail
    refine (F _).out.mono ?_
    rintro e w1 ⟨rfl, hb1⟩
    have c0 : w1.cell? ⟨w.heap.size, 0, none⟩ = some (.int .i64 n) := (hb1.cell (by show w.heap.size < _; simp)).trans (by simp [go_sem])
    have c1 : w1.cell? ⟨w.heap.size, 1, none⟩ = some (.int .i64 d) := (hb1.cell (by show w.heap.size < _; simp)).trans (by simp [go_sem])
    have f0 : w1.frozen? ⟨w.heap.size, 0, none⟩ = false := (hb1.frozen (by show w.heap.size < _; simp)).trans (by simp [go_sem])
    have f1 : w1.frozen? ⟨w.heap.size, 1, none⟩ = false := (hb1.frozen (by show w.heap.size < _; simp)).trans (by simp [go_sem])
    have kb : Below w.heap.size w w1 := ((Below.refl w.heap.size w).alloc (Nat.le_refl _) _).trans (hb1.mono (by simp))
    clear hb1
    have a1 := bytes_add s1 [47]
    have a2 := bytes_add (s1 ++ [47]) s2
    have z1 : ¬ (9223372036854775807 < s1.length + 1) := by omega
    have z2 : ¬ (9223372036854775807 < s1.length + 1 + s2.length) := by omega
    go_wp2_with fail
    go_quiet ((first | (go_at_call_of 22 (Value.int IntKind.i64 n); exact (T1 _ _).out) | (go_at_call_of 22 (Value.int IntKind.i64 D); exact (T2 _ _).out)))
    go_wp2_with fail
    go_ret
    exact ⟨by simp, below_drewN _ ((kb.setCell (Nat.le_refl _) _).setCell (Nat.le_refl _) _)⟩

/-- The table of powers lies in the world. -/
def TabW (w : World) : Prop := TabIs Tryd.prog w "internal/strconv.uint64pow10" .u64 pow10Tab
theorem gPow : ∃ g, Tryd.prog.globalNamed "internal/strconv.uint64pow10" = some g := Option.isSome_iff_exists.1 (by kernel_rfl)
theorem TabW.below {w w' : World} (h : TabW w) (hb : Below w.heap.size w w') : TabW w' := by
  obtain ⟨g, hg⟩ := gPow
  have hc := h.cell hg 0 (by rw [pow10Tab_length]; decide)
  exact var?_below hb hg (World.block_lt_of_cell? w _ hc) h

theorem itoa_any (n : Int) (h1 : -1152921504606846976 ≤ n) (h2 : n ≤ 1152921504606846976) (w : World) (ht : TabW w) :
    Calls Tryd.prog 16 #[.int .i64 n] w fun e w' => e = .returned (st (itoa n)) ∧ Below w.heap.size w w' :=
  (Tryd.strconv_Itoa n (by omega) (by omega) w ht).mono fun e w' ⟨he, k, os, hw⟩ => ⟨he, hw ▸ below_grow _ _ (Nat.le_refl _) k os⟩

set_option maxRecDepth 10000 in
set_option maxHeartbeats 1000000 in
theorem text_bad (n d : Int) (n0 : -9223372036854775808 ≤ n) (n1 : n ≤ 9223372036854775807) (d0 : -9223372036854775808 ≤ d) (d1 : d ≤ 9223372036854775807) (hv : validB n d = false) (w : World) :
    Calls Tryd.prog 5 #[.agg #[.int .i64 n, .int .i64 d]] w fun e w' => e = .returned (st []) ∧ Below w.heap.size w w' := by
  have V := fun w => box (valid_any n d n0 n1 d0 d1 w)
  rw [hv] at V
  go_enter Tryd.func5, Tryd.ntmps5
  go_wp2_with fail
  refine (V _).out.mono ?_
  rintro e w1 ⟨rfl, hb1⟩
  have kb : Below w.heap.size w w1 := ((Below.refl w.heap.size w).alloc (Nat.le_refl _) _).trans (hb1.mono (by simp))
  clear hb1
  go_wp2_with fail
  go_ret
  exact ⟨rfl, kb⟩

set_option maxRecDepth 10000 in
set_option maxHeartbeats 4000000 in
theorem text_ok (n d : Int) (o : okR n d) (w : World) (ht : TabW w) :
    Calls Tryd.prog 5 #[.agg #[.int .i64 n, .int .i64 d]] w fun e w' => e = .returned (st (tx n (full d))) ∧ Below w.heap.size w w' := by
  obtain ⟨i1, i2, i3, i4, i5⟩ := okR_num o
  have hv := validB_of o
  have V := fun w => box (valid_any n d (by omega) (by omega) (by omega) (by omega) w)
  rw [hv] at V
  have F := fun w => box (settle_any n d i5 w)
  have b1 : -1152921504606846976 ≤ full d := by unfold full; split <;> omega
  have b2 : full d ≤ 1152921504606846976 := by unfold full; split <;> omega
  generalize full d = D at F b1 b2 ⊢
  have T1 := fun w h => box (itoa_any n i1 i2 w h)
  have T2 := fun w h => box (itoa_any D b1 b2 w h)
  have L1 := itoa_len i1 i2
  have L2 := itoa_len b1 b2
  have HT := box ht
  clear ht hv o
  by_cases hD : D = 1
  · have hD1 : (D == 1) = true := by simp [hD]
    have hE : tx n D = itoa n := if_pos hD
    rw [hE]
    generalize itoa n = s1 at T1
    clear T2 L1 L2 hD hE
    go_enter Tryd.func5, Tryd.ntmps5
    go_wp2_with fail
    refine (V _).out.mono ?_
    rintro e w0 ⟨rfl, hb0⟩
    have c0 : w0.cell? ⟨w.heap.size, 0, none⟩ = some (.int .i64 n) := (hb0.cell (by show w.heap.size < _; simp)).trans (by simp [go_sem])
    have c1 : w0.cell? ⟨w.heap.size, 1, none⟩ = some (.int .i64 d) := (hb0.cell (by show w.heap.size < _; simp)).trans (by simp [go_sem])
    have f0 : w0.frozen? ⟨w.heap.size, 0, none⟩ = false := (hb0.frozen (by show w.heap.size < _; simp)).trans (by simp [go_sem])
    have f1 : w0.frozen? ⟨w.heap.size, 1, none⟩ = false := (hb0.frozen (by show w.heap.size < _; simp)).trans (by simp [go_sem])
    have kb0 : Below w.heap.size w w0 := ((Below.refl w.heap.size w).alloc (Nat.le_refl _) _).trans (hb0.mono (by simp))
    clear hb0
    go_wp2_with fail
    refine (F _).out.mono ?_
    rintro e w1 ⟨rfl, hb1⟩
    have lt0 : w.heap.size < w0.heap.size := World.block_lt_of_cell? w0 _ c0
    replace f0 : w1.frozen? ⟨w.heap.size, 0, none⟩ = false := (hb1.frozen lt0).trans f0
    replace f1 : w1.frozen? ⟨w.heap.size, 1, none⟩ = false := (hb1.frozen lt0).trans f1
    replace c0 : w1.cell? ⟨w.heap.size, 0, none⟩ = some (.int .i64 n) := (hb1.cell lt0).trans c0
    replace c1 : w1.cell? ⟨w.heap.size, 1, none⟩ = some (.int .i64 d) := (hb1.cell lt0).trans c1
    have kb : Below w.heap.size w w1 := kb0.trans (hb1.mono kb0.size)
    clear hb1 kb0
    go_wp2_with fail
    refine (T1 _ (HT.out.below ((kb.setCell (Nat.le_refl _) _).setCell (Nat.le_refl _) _))).out.mono ?_
    rintro e w2 ⟨rfl, hb2⟩
    go_wp2_with fail
    go_ret
    exact ⟨rfl, ((kb.setCell (Nat.le_refl _) _).setCell (Nat.le_refl _) _).trans (hb2.mono (by have := kb.size; simpa using this))⟩
  · have hD1 : (D == 1) = false := by simp [hD]
    have hE : tx n D = itoa n ++ 47 :: itoa D := if_neg hD
    rw [hE]
    generalize itoa n = s1 at T1 L1
    generalize itoa D = s2 at T2 L2
    clear hD hE
    go_enter Tryd.func5, Tryd.ntmps5
    go_wp2_with fail
    refine (V _).out.mono ?_
    rintro e w0 ⟨rfl, hb0⟩
    have c0 : w0.cell? ⟨w.heap.size, 0, none⟩ = some (.int .i64 n) := (hb0.cell (by show w.heap.size < _; simp)).trans (by simp [go_sem])
    have c1 : w0.cell? ⟨w.heap.size, 1, none⟩ = some (.int .i64 d) := (hb0.cell (by show w.heap.size < _; simp)).trans (by simp [go_sem])
    have f0 : w0.frozen? ⟨w.heap.size, 0, none⟩ = false := (hb0.frozen (by show w.heap.size < _; simp)).trans (by simp [go_sem])
    have f1 : w0.frozen? ⟨w.heap.size, 1, none⟩ = false := (hb0.frozen (by show w.heap.size < _; simp)).trans (by simp [go_sem])
    have kb0 : Below w.heap.size w w0 := ((Below.refl w.heap.size w).alloc (Nat.le_refl _) _).trans (hb0.mono (by simp))
    clear hb0
    go_wp2_with fail
    refine (F _).out.mono ?_
    rintro e w1 ⟨rfl, hb1⟩
    have lt0 : w.heap.size < w0.heap.size := World.block_lt_of_cell? w0 _ c0
    replace f0 : w1.frozen? ⟨w.heap.size, 0, none⟩ = false := (hb1.frozen lt0).trans f0
    replace f1 : w1.frozen? ⟨w.heap.size, 1, none⟩ = false := (hb1.frozen lt0).trans f1
    replace c0 : w1.cell? ⟨w.heap.size, 0, none⟩ = some (.int .i64 n) := (hb1.cell lt0).trans c0
    replace c1 : w1.cell? ⟨w.heap.size, 1, none⟩ = some (.int .i64 d) := (hb1.cell lt0).trans c1
    have kb : Below w.heap.size w w1 := kb0.trans (hb1.mono kb0.size)
    clear hb1 kb0
    have a1 := bytes_add s1 [47]
    have a2 := bytes_add (s1 ++ [47]) s2
    have z1 : ¬ (9223372036854775807 < s1.length + 1) := by omega
    have z2 : ¬ (9223372036854775807 < s1.length + 1 + s2.length) := by omega
    go_wp2_with fail
    have c0' : ((w1.setCell ⟨w.heap.size, 0, none⟩ (.int .i64 n)).setCell ⟨w.heap.size, 1, none⟩ (.int .i64 D)).cell? ⟨w.heap.size, 0, none⟩ = some (.int .i64 n) := by simp [go_sem, *]
    have c1' : ((w1.setCell ⟨w.heap.size, 0, none⟩ (.int .i64 n)).setCell ⟨w.heap.size, 1, none⟩ (.int .i64 D)).cell? ⟨w.heap.size, 1, none⟩ = some (.int .i64 D) := by simp [go_sem, *]
    have kX : Below w.heap.size w ((w1.setCell ⟨w.heap.size, 0, none⟩ (.int .i64 n)).setCell ⟨w.heap.size, 1, none⟩ (.int .i64 D)) := (kb.setCell (Nat.le_refl _) _).setCell (Nat.le_refl _) _
    generalize (w1.setCell ⟨w.heap.size, 0, none⟩ (.int .i64 n)).setCell ⟨w.heap.size, 1, none⟩ (.int .i64 D) = wX at c0' c1' kX ⊢
    have HTX := box (HT.out.below kX)
    clear c0 c1 f0 f1 kb
    have h0 : ∀ w' : World, Below wX.heap.size wX w' → w'.cell? ⟨w.heap.size, 0, none⟩ = some (.int .i64 n) := fun w' h => (h.cell (World.block_lt_of_cell? wX _ c0')).trans c0'
    have h1 : ∀ w' : World, Below wX.heap.size wX w' → w'.cell? ⟨w.heap.size, 1, none⟩ = some (.int .i64 D) := fun w' h => (h.cell (World.block_lt_of_cell? wX _ c1')).trans c1'
    have b0 : Below wX.heap.size wX wX := Below.refl _ _
    have b1 : Below wX.heap.size wX wX.drew := b0.drew
    go_region_held3 (fun w' => Below wX.heap.size wX w') (first | assumption | exact Below.drew (by assumption))
      (first | (go_at_call_of 16 (Value.int IntKind.i64 n); refine (T1 _ (HTX.out.below (by assumption))).out.mono ?_; rintro e wp ⟨rfl, hb_wp⟩; have k_wp := (fun h : Below wX.heap.size wX _ => h.trans (hb_wp.mono h.size)); replace k_wp := k_wp (by assumption); clear hb_wp) | (go_at_call_of 16 (Value.int IntKind.i64 D); refine (T2 _ (HTX.out.below (by assumption))).out.mono ?_; rintro e wq ⟨rfl, hb_wq⟩; have k_wq := (fun h : Below wX.heap.size wX _ => h.trans (hb_wq.mono h.size)); replace k_wq := k_wq (by assumption); clear hb_wq))
    all_goals
      go_wp2_with fail
      go_ret
      refine ⟨by simp, kX.trans (Below.mono ?_ kX.size)⟩
      assumption
end Go.Proofs.YtlglagihekadhaaDoor
