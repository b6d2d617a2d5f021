/- Contracts of the signed two-word numbers: sums and comparisons. -/
import Derived.Test.YtlglagihekadhaaDoorRatS
namespace Go.Proofs.YtlglagihekadhaaDoor
open Go.RowKit Go.Shelf

set_option maxHeartbeats 1000000 in
theorem splus_same (n : Bool) (xh xl yh yl : Int) (h1 : 0 ≤ xh) (h2 : 0 ≤ xl) (h3 : 0 ≤ yh) (h4 : 0 ≤ yl) (l2 : xl ≤ 18446744073709551615) (l4 : yl ≤ 18446744073709551615) (hs : xh + yh + 1 ≤ 18446744073709551615) (w : World) :
    Calls Tryd.prog 26 #[.agg #[.bool n, .int .u64 xh, .int .u64 xl], .agg #[.bool n, .int .u64 yh, .int .u64 yl]] w fun e w' =>
      e = .returned (.agg #[.bool n, .int .u64 (((xh * 18446744073709551616 + xl) + (yh * 18446744073709551616 + yl)) / 18446744073709551616), .int .u64 (((xh * 18446744073709551616 + xl) + (yh * 18446744073709551616 + yl)) % 18446744073709551616)]) ∧ Below w.heap.size w w' := by
  go_enter Tryd.func26, Tryd.ntmps26
  go_wp2_with fail
  have n02 : w.heap.size + 1 + 1 ≠ w.heap.size := by omega
  have l03 : w.heap.size < w.heap.size + 1 + 1 + 1 := by omega
  go_region_held3 (fun w' => w'.cell? ⟨w.heap.size, 0, none⟩ = some (.bool n) ∧ w'.cell? ⟨w.heap.size, 1, none⟩ = some (.int .u64 xh) ∧ w'.cell? ⟨w.heap.size, 2, none⟩ = some (.int .u64 xl) ∧ w'.cell? ⟨w.heap.size + 1, 0, none⟩ = some (.bool n) ∧ w'.cell? ⟨w.heap.size + 1, 1, none⟩ = some (.int .u64 yh) ∧ w'.cell? ⟨w.heap.size + 1, 2, none⟩ = some (.int .u64 yl))
    (first | go_keep)
    (first | (go_at_call 39; refine (wplus_any xh xl yh yl h1 h2 h3 h4 l2 l4 hs _).mono ?_; rintro e w1 ⟨rfl, hb1⟩; obtain ⟨hc1, hf1⟩ := bcell hb1; have hz1 : w.heap.size + 3 ≤ w1.heap.size := by have := hb1.size; simp at this; omega))
  go_wp2_with fail
  refine bodyPost_ret (v := .agg #[.bool n, .int .u64 (((xh * 18446744073709551616 + xl) + (yh * 18446744073709551616 + yl)) / 18446744073709551616), .int .u64 (((xh * 18446744073709551616 + xl) + (yh * 18446744073709551616 + yl)) % 18446744073709551616)]) (by simp [results, Tryd.results26, go_sem, hc1]) rfl ⟨rfl, ?_⟩
  clear hc1 hf1
  have hb1 := hb1.mono (B' := w.heap.size) (by simp; omega)
  repeat (first | exact Below.refl _ _ | (refine Below.alloc ?_ (by simp <;> omega) _) | (refine Below.setCell ?_ (by simp <;> omega) _) | (refine Below.drew ?_) | (refine Below.trans ?_ hb1) | (refine Below.trans ?_ hb0))

set_option maxHeartbeats 1000000 in
theorem splus_gt (n m : Bool) (hn : (n == m) = false) (xh xl yh yl : Int) (h1 : 0 ≤ xh) (h2 : 0 ≤ xl) (h3 : 0 ≤ yh) (h4 : 0 ≤ yl) (l1 : xh ≤ 18446744073709551615) (l2 : xl ≤ 18446744073709551615) (l4 : yl ≤ 18446744073709551615) (hlt : yh * 18446744073709551616 + yl < xh * 18446744073709551616 + xl) (w : World) :
    Calls Tryd.prog 26 #[.agg #[.bool n, .int .u64 xh, .int .u64 xl], .agg #[.bool m, .int .u64 yh, .int .u64 yl]] w fun e w' =>
      e = .returned (.agg #[.bool n, .int .u64 (((xh * 18446744073709551616 + xl) - (yh * 18446744073709551616 + yl)) / 18446744073709551616), .int .u64 (((xh * 18446744073709551616 + xl) - (yh * 18446744073709551616 + yl)) % 18446744073709551616)]) ∧ Below w.heap.size w w' := by
  have wc := wcmp_any xh xl yh yl h2 h4 l2 l4
  rw [show cmpI (xh * 18446744073709551616 + xl) (yh * 18446744073709551616 + yl) = 1 by unfold cmpI; rw [if_neg (by omega), if_pos (by omega)]] at wc
  have WC := Lib.hid wc
  have HL := Lib.hid hlt
  clear wc hlt
  go_enter Tryd.func26, Tryd.ntmps26
  go_wp2_with fail
  refine (WC.out _).mono ?_
  rintro e w0 ⟨rfl, hb0⟩
  obtain ⟨hc0, hf0⟩ := bcell hb0
  have hz0 : w.heap.size + 3 ≤ w0.heap.size := by have := hb0.size; simp at this; omega
  have n02 : w.heap.size + 1 + 1 ≠ w.heap.size := by omega
  have l03 : w.heap.size < w.heap.size + 1 + 1 + 1 := by omega
  go_wp2_with fail
  have f0 : w.heap.size < w0.heap.size := by omega
  have f1 : w.heap.size + 1 < w0.heap.size := by omega
  have f2 : w.heap.size + 1 + 1 < w0.heap.size := by omega
  go_region_held3 (fun w' => w'.cell? ⟨w.heap.size, 0, none⟩ = some (.bool n) ∧ w'.cell? ⟨w.heap.size, 1, none⟩ = some (.int .u64 xh) ∧ w'.cell? ⟨w.heap.size, 2, none⟩ = some (.int .u64 xl) ∧ w'.cell? ⟨w.heap.size + 1, 0, none⟩ = some (.bool m) ∧ w'.cell? ⟨w.heap.size + 1, 1, none⟩ = some (.int .u64 yh) ∧ w'.cell? ⟨w.heap.size + 1, 2, none⟩ = some (.int .u64 yl))
    (first | go_keep)
    (first | (go_at_call 40; refine (wminus_any xh xl yh yl h1 h2 h3 h4 l1 l2 l4 (by have := HL.out; omega) _).mono ?_; rintro e w1 ⟨rfl, hb1⟩; obtain ⟨hc1, hf1⟩ := bcellN w0.heap.size hb1 (Nat.le_refl _); have hz1 : w0.heap.size ≤ w1.heap.size := by have := hb1.size; simp at this; omega))
  go_wp2_with fail
  refine bodyPost_ret (v := .agg #[.bool n, .int .u64 (((xh * 18446744073709551616 + xl) - (yh * 18446744073709551616 + yl)) / 18446744073709551616), .int .u64 (((xh * 18446744073709551616 + xl) - (yh * 18446744073709551616 + yl)) % 18446744073709551616)]) (by simp [results, Tryd.results26, go_sem, hc1, hc0, f2]) rfl ⟨rfl, ?_⟩
  clear hc1 hf1 hc0 hf0
  have hb0 := hb0.mono (B' := w.heap.size) (by simp; omega)
  have hb1 := hb1.mono (B' := w.heap.size) (by simp; omega)
  repeat (first | exact Below.refl _ _ | (refine Below.alloc ?_ (by simp <;> omega) _) | (refine Below.setCell ?_ (by simp <;> omega) _) | (refine Below.drew ?_) | (refine Below.trans ?_ hb1) | (refine Below.trans ?_ hb0))

set_option maxHeartbeats 1000000 in
theorem splus_lt (n m : Bool) (hn : (n == m) = false) (xh xl yh yl : Int) (h1 : 0 ≤ xh) (h2 : 0 ≤ xl) (h3 : 0 ≤ yh) (h4 : 0 ≤ yl) (l2 : xl ≤ 18446744073709551615) (l3 : yh ≤ 18446744073709551615) (l4 : yl ≤ 18446744073709551615) (hlt : xh * 18446744073709551616 + xl < yh * 18446744073709551616 + yl) (w : World) :
    Calls Tryd.prog 26 #[.agg #[.bool n, .int .u64 xh, .int .u64 xl], .agg #[.bool m, .int .u64 yh, .int .u64 yl]] w fun e w' =>
      e = .returned (.agg #[.bool m, .int .u64 (((yh * 18446744073709551616 + yl) - (xh * 18446744073709551616 + xl)) / 18446744073709551616), .int .u64 (((yh * 18446744073709551616 + yl) - (xh * 18446744073709551616 + xl)) % 18446744073709551616)]) ∧ Below w.heap.size w w' := by
  have wc := wcmp_any xh xl yh yl h2 h4 l2 l4
  rw [show cmpI (xh * 18446744073709551616 + xl) (yh * 18446744073709551616 + yl) = -1 by unfold cmpI; rw [if_pos (by omega)]] at wc
  have WC := Lib.hid wc
  have HL := Lib.hid hlt
  clear wc hlt
  go_enter Tryd.func26, Tryd.ntmps26
  go_wp2_with fail
  refine (WC.out _).mono ?_
  rintro e w0 ⟨rfl, hb0⟩
  obtain ⟨hc0, hf0⟩ := bcell hb0
  have hz0 : w.heap.size + 3 ≤ w0.heap.size := by have := hb0.size; simp at this; omega
  have n02 : w.heap.size + 1 + 1 ≠ w.heap.size := by omega
  have l03 : w.heap.size < w.heap.size + 1 + 1 + 1 := by omega
  go_wp2_with fail
  have f0 : w.heap.size < w0.heap.size := by omega
  have f1 : w.heap.size + 1 < w0.heap.size := by omega
  have f2 : w.heap.size + 1 + 1 < w0.heap.size := by omega
  go_region_held3 (fun w' => w'.cell? ⟨w.heap.size, 0, none⟩ = some (.bool n) ∧ w'.cell? ⟨w.heap.size, 1, none⟩ = some (.int .u64 xh) ∧ w'.cell? ⟨w.heap.size, 2, none⟩ = some (.int .u64 xl) ∧ w'.cell? ⟨w.heap.size + 1, 0, none⟩ = some (.bool m) ∧ w'.cell? ⟨w.heap.size + 1, 1, none⟩ = some (.int .u64 yh) ∧ w'.cell? ⟨w.heap.size + 1, 2, none⟩ = some (.int .u64 yl))
    (first | go_keep)
    (first | (go_at_call 40; refine (wminus_any yh yl xh xl h3 h4 h1 h2 l3 l4 l2 (by have := HL.out; omega) _).mono ?_; rintro e w1 ⟨rfl, hb1⟩; obtain ⟨hc1, hf1⟩ := bcellN w0.heap.size hb1 (Nat.le_refl _); have hz1 : w0.heap.size ≤ w1.heap.size := by have := hb1.size; simp at this; omega))
  go_wp2_with fail
  refine bodyPost_ret (v := .agg #[.bool m, .int .u64 (((yh * 18446744073709551616 + yl) - (xh * 18446744073709551616 + xl)) / 18446744073709551616), .int .u64 (((yh * 18446744073709551616 + yl) - (xh * 18446744073709551616 + xl)) % 18446744073709551616)]) (by simp [results, Tryd.results26, go_sem, hc1, hc0, f2]) rfl ⟨rfl, ?_⟩
  clear hc1 hf1 hc0 hf0
  have hb0 := hb0.mono (B' := w.heap.size) (by simp; omega)
  have hb1 := hb1.mono (B' := w.heap.size) (by simp; omega)
  repeat (first | exact Below.refl _ _ | (refine Below.alloc ?_ (by simp <;> omega) _) | (refine Below.setCell ?_ (by simp <;> omega) _) | (refine Below.drew ?_) | (refine Below.trans ?_ hb1) | (refine Below.trans ?_ hb0))

set_option maxHeartbeats 1000000 in
theorem splus_eq (n m : Bool) (hn : (n == m) = false) (xh xl yh yl : Int) (h2 : 0 ≤ xl) (h4 : 0 ≤ yl) (l2 : xl ≤ 18446744073709551615) (l4 : yl ≤ 18446744073709551615) (hlt : xh * 18446744073709551616 + xl = yh * 18446744073709551616 + yl) (w : World) :
    Calls Tryd.prog 26 #[.agg #[.bool n, .int .u64 xh, .int .u64 xl], .agg #[.bool m, .int .u64 yh, .int .u64 yl]] w fun e w' =>
      e = .returned (.agg #[.bool false, .int .u64 0, .int .u64 0]) ∧ Below w.heap.size w w' := by
  have wc := wcmp_any xh xl yh yl h2 h4 l2 l4
  rw [show cmpI (xh * 18446744073709551616 + xl) (yh * 18446744073709551616 + yl) = 0 by unfold cmpI; rw [if_neg (by omega), if_neg (by omega)]] at wc
  have WC := Lib.hid wc
  have HL := Lib.hid hlt
  clear wc hlt
  go_enter Tryd.func26, Tryd.ntmps26
  go_wp2_with fail
  refine (WC.out _).mono ?_
  rintro e w0 ⟨rfl, hb0⟩
  obtain ⟨hc0, hf0⟩ := bcell hb0
  have hz0 : w.heap.size + 3 ≤ w0.heap.size := by have := hb0.size; simp at this; omega
  have n02 : w.heap.size + 1 + 1 ≠ w.heap.size := by omega
  have l03 : w.heap.size < w.heap.size + 1 + 1 + 1 := by omega
  go_wp2_with fail
  refine bodyPost_ret (v := .agg #[.bool false, .int .u64 0, .int .u64 0]) (by simp [results, Tryd.results26, go_sem, hc0]) rfl ⟨rfl, ?_⟩
  clear hc0 hf0
  have hb0 := hb0.mono (B' := w.heap.size) (by simp; omega)
  repeat (first | exact Below.refl _ _ | (refine Below.alloc ?_ (by simp <;> omega) _) | (refine Below.setCell ?_ (by simp <;> omega) _) | (refine Below.drew ?_) | (refine Below.trans ?_ hb1) | (refine Below.trans ?_ hb0))

theorem sgn_eq {a b : Bool} {c d e f : Int} (h : a = b) (h1 : c = d) (h2 : e = f) : Ending.returned (.agg #[.bool a, .int .u64 c, .int .u64 e]) = .returned (.agg #[.bool b, .int .u64 d, .int .u64 f]) := by rw [h, h1, h2]

theorem splus_any (x y : Int) (x0 : -85070591730234615865843651857942052864 ≤ x) (x1 : x ≤ 85070591730234615865843651857942052864) (y0 : -85070591730234615865843651857942052864 ≤ y) (y1 : y ≤ 85070591730234615865843651857942052864) (w : World) :
    Calls Tryd.prog 26 #[.agg #[.bool (decide (x < 0)), .int .u64 (mag x / 18446744073709551616), .int .u64 (mag x % 18446744073709551616)], .agg #[.bool (decide (y < 0)), .int .u64 (mag y / 18446744073709551616), .int .u64 (mag y % 18446744073709551616)]] w fun e w' =>
      e = .returned (.agg #[.bool (decide (x + y < 0)), .int .u64 (mag (x + y) / 18446744073709551616), .int .u64 (mag (x + y) % 18446744073709551616)]) ∧ Below w.heap.size w w' := by
  have ex : mag x = if x < 0 then -x else x := rfl
  have ey : mag y = if y < 0 then -y else y := rfl
  have es : mag (x + y) = if x + y < 0 then -(x + y) else x + y := rfl
  by_cases hs : decide (x < 0) = decide (y < 0)
  · rw [← hs]
    have hs' : (x < 0 ∧ y < 0) ∨ (¬ x < 0 ∧ ¬ y < 0) := by
      by_cases p : x < 0 <;> by_cases q : y < 0 <;> simp [p, q] at hs ⊢
    refine (splus_same (decide (x < 0)) _ _ _ _ ?_ ?_ ?_ ?_ ?_ ?_ ?_ w).mono fun e w' ⟨he, hw⟩ => ⟨he.trans (sgn_eq ?_ ?_ ?_), hw⟩
    · split at ex <;> omega
    · split at ex <;> omega
    · split at ey <;> omega
    · split at ey <;> omega
    · split at ex <;> omega
    · split at ey <;> omega
    · split at ex <;> split at ey <;> omega
    · rw [decide_eq_decide]; omega
    · rw [ex, ey, es]; rcases hs' with ⟨p, q⟩ | ⟨p, q⟩
      · rw [if_pos p, if_pos q, if_pos (by omega)]; omega
      · rw [if_neg p, if_neg q, if_neg (by omega)]; omega
    · rw [ex, ey, es]; rcases hs' with ⟨p, q⟩ | ⟨p, q⟩
      · rw [if_pos p, if_pos q, if_pos (by omega)]; omega
      · rw [if_neg p, if_neg q, if_neg (by omega)]; omega
  · have hs' : (x < 0 ∧ ¬ y < 0) ∨ (¬ x < 0 ∧ y < 0) := by
      by_cases p : x < 0 <;> by_cases q : y < 0 <;> simp [p, q] at hs ⊢
    have hn : (decide (x < 0) == decide (y < 0)) = false := by simpa using hs
    clear hs
    rcases Int.lt_trichotomy (mag x) (mag y) with h | h | h
    · refine (splus_lt _ _ hn _ _ _ _ ?_ ?_ ?_ ?_ ?_ ?_ ?_ ?_ w).mono fun e w' ⟨he, hw⟩ => ⟨he.trans (sgn_eq ?_ ?_ ?_), hw⟩
      · split at ex <;> omega
      · split at ex <;> omega
      · split at ey <;> omega
      · split at ey <;> omega
      · split at ex <;> omega
      · split at ey <;> omega
      · split at ey <;> omega
      · omega
      · rw [decide_eq_decide]; split at ex <;> split at ey <;> omega
      · split at ex <;> split at ey <;> split at es <;> omega
      · split at ex <;> split at ey <;> split at es <;> omega
    · refine (splus_eq _ _ hn _ _ _ _ ?_ ?_ ?_ ?_ ?_ w).mono fun e w' ⟨he, hw⟩ => ⟨he.trans (sgn_eq ?_ ?_ ?_), hw⟩
      · split at ex <;> omega
      · split at ey <;> omega
      · split at ex <;> omega
      · split at ey <;> omega
      · omega
      · symm; rw [decide_eq_false_iff_not]; split at ex <;> split at ey <;> omega
      · split at ex <;> split at ey <;> split at es <;> omega
      · split at ex <;> split at ey <;> split at es <;> omega
    · refine (splus_gt _ _ hn _ _ _ _ ?_ ?_ ?_ ?_ ?_ ?_ ?_ ?_ w).mono fun e w' ⟨he, hw⟩ => ⟨he.trans (sgn_eq ?_ ?_ ?_), hw⟩
      · split at ex <;> omega
      · split at ex <;> omega
      · split at ey <;> omega
      · split at ey <;> omega
      · split at ex <;> omega
      · split at ex <;> omega
      · split at ey <;> omega
      · omega
      · rw [decide_eq_decide]; split at ex <;> split at ey <;> omega
      · split at ex <;> split at ey <;> split at es <;> omega
      · split at ex <;> split at ey <;> split at es <;> omega

theorem scmp_nn (xh xl yh yl : Int) (h2 : 0 ≤ xl) (h4 : 0 ≤ yl) (l2 : xl ≤ 18446744073709551615) (l4 : yl ≤ 18446744073709551615) (w : World) :
    Calls Tryd.prog 24 #[.agg #[.bool true, .int .u64 xh, .int .u64 xl], .agg #[.bool true, .int .u64 yh, .int .u64 yl]] w fun e w' =>
      e = .returned (.int .i64 (cmpI (yh * 18446744073709551616 + yl) (xh * 18446744073709551616 + xl))) ∧ Below w.heap.size w w' := by
  go_enter Tryd.func24, Tryd.ntmps24
  go_wp2_with fail
  refine (wcmp_any yh yl xh xl h4 h2 l4 l2 _).mono ?_
  rintro e w0 ⟨rfl, hb0⟩
  have hb0 := hb0.mono (B' := w.heap.size) (by simp <;> omega)
  go_wp2_with fail
  go_ret
  exact ⟨rfl, by repeat (first | exact Below.refl _ _ | (refine Below.alloc ?_ (by simp <;> omega) _) | (refine Below.trans ?_ hb0))⟩

theorem scmp_pp (xh xl yh yl : Int) (h2 : 0 ≤ xl) (h4 : 0 ≤ yl) (l2 : xl ≤ 18446744073709551615) (l4 : yl ≤ 18446744073709551615) (w : World) :
    Calls Tryd.prog 24 #[.agg #[.bool false, .int .u64 xh, .int .u64 xl], .agg #[.bool false, .int .u64 yh, .int .u64 yl]] w fun e w' =>
      e = .returned (.int .i64 (cmpI (xh * 18446744073709551616 + xl) (yh * 18446744073709551616 + yl))) ∧ Below w.heap.size w w' := by
  go_enter Tryd.func24, Tryd.ntmps24
  go_wp2_with fail
  refine (wcmp_any xh xl yh yl h2 h4 l2 l4 _).mono ?_
  rintro e w0 ⟨rfl, hb0⟩
  have hb0 := hb0.mono (B' := w.heap.size) (by simp <;> omega)
  go_wp2_with fail
  go_ret
  exact ⟨rfl, by repeat (first | exact Below.refl _ _ | (refine Below.alloc ?_ (by simp <;> omega) _) | (refine Below.trans ?_ hb0))⟩

theorem scmp_np (xh xl yh yl : Int) (w : World) :
    Calls Tryd.prog 24 #[.agg #[.bool true, .int .u64 xh, .int .u64 xl], .agg #[.bool false, .int .u64 yh, .int .u64 yl]] w fun e w' =>
      e = .returned (.int .i64 (-1)) ∧ Below w.heap.size w w' := by
  go_enter Tryd.func24, Tryd.ntmps24
  go_wp2_with fail
  go_ret
  exact ⟨rfl, by repeat (first | exact Below.refl _ _ | (refine Below.alloc ?_ (by simp <;> omega) _))⟩

theorem scmp_pn (xh xl yh yl : Int) (w : World) :
    Calls Tryd.prog 24 #[.agg #[.bool false, .int .u64 xh, .int .u64 xl], .agg #[.bool true, .int .u64 yh, .int .u64 yl]] w fun e w' =>
      e = .returned (.int .i64 1) ∧ Below w.heap.size w w' := by
  go_enter Tryd.func24, Tryd.ntmps24
  go_wp2_with fail
  go_ret
  exact ⟨rfl, by repeat (first | exact Below.refl _ _ | (refine Below.alloc ?_ (by simp <;> omega) _))⟩

theorem scmp_any (x y : Int) (w : World) :
    Calls Tryd.prog 24 #[.agg #[.bool (decide (x < 0)), .int .u64 (mag x / 18446744073709551616), .int .u64 (mag x % 18446744073709551616)], .agg #[.bool (decide (y < 0)), .int .u64 (mag y / 18446744073709551616), .int .u64 (mag y % 18446744073709551616)]] w fun e w' =>
      e = .returned (.int .i64 (cmpI x y)) ∧ Below w.heap.size w w' := by
  have ex : mag x = if x < 0 then -x else x := rfl
  have ey : mag y = if y < 0 then -y else y := rfl
  have jx : mag x / 18446744073709551616 * 18446744073709551616 + mag x % 18446744073709551616 = mag x := by omega
  have jy : mag y / 18446744073709551616 * 18446744073709551616 + mag y % 18446744073709551616 = mag y := by omega
  by_cases p : x < 0 <;> by_cases q : y < 0
  · rw [decide_eq_true p, decide_eq_true q]
    refine (scmp_nn _ _ _ _ (by omega) (by omega) (by omega) (by omega) w).mono fun e w' ⟨he, hw⟩ => ⟨he.trans (ret_int ?_), hw⟩
    rw [jx, jy, ex, ey, if_pos p, if_pos q]; unfold cmpI; (repeat' split) <;> omega
  · rw [decide_eq_true p, decide_eq_false q]
    refine (scmp_np _ _ _ _ w).mono fun e w' ⟨he, hw⟩ => ⟨he.trans (ret_int ?_), hw⟩
    unfold cmpI; (repeat' split) <;> omega
  · rw [decide_eq_false p, decide_eq_true q]
    refine (scmp_pn _ _ _ _ w).mono fun e w' ⟨he, hw⟩ => ⟨he.trans (ret_int ?_), hw⟩
    unfold cmpI; (repeat' split) <;> omega
  · rw [decide_eq_false p, decide_eq_false q]
    refine (scmp_pp _ _ _ _ (by omega) (by omega) (by omega) (by omega) w).mono fun e w' ⟨he, hw⟩ => ⟨he.trans (ret_int ?_), hw⟩
    rw [jx, jy, ex, ey, if_neg p, if_neg q]
end Go.Proofs.YtlglagihekadhaaDoor
