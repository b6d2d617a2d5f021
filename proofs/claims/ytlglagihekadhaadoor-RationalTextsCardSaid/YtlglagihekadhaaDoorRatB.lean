/- The contract of bounded. -/
import Derived.Test.YtlglagihekadhaaDoorRatV
namespace Go.Proofs.YtlglagihekadhaaDoor
open Go.RowKit Go.Shelf

theorem pair_eq {a b c d e f : Int} (h : a = d) (h1 : b = e) (h2 : c = f) : Ending.returned (.tuple #[.agg #[.int .i64 a, .int .i64 b], .int .i64 c]) = .returned (.tuple #[.agg #[.int .i64 d, .int .i64 e], .int .i64 f]) := by rw [h, h1, h2]

theorem wcmp_max (T : Int) (_t0 : 0 ≤ T) (w : World) :
    Calls Tryd.prog 36 #[.agg #[.int .u64 (T / 18446744073709551616), .int .u64 (T % 18446744073709551616)], .agg #[.int .u64 0, .int .u64 1152921504606846976]] w fun e w' =>
      e = .returned (.int .i64 (cmpI T 1152921504606846976)) ∧ Below w.heap.size w w' := by
  have := wcmp_any (T / 18446744073709551616) (T % 18446744073709551616) 0 1152921504606846976 (by omega) (by omega) (by omega) (by omega) w
  rw [show T / 18446744073709551616 * 18446744073709551616 + T % 18446744073709551616 = T by omega, show (0 : Int) * 18446744073709551616 + 1152921504606846976 = 1152921504606846976 by omega] at this
  exact this

set_option maxHeartbeats 1000000 in
theorem bounded_top (neg : Bool) (T B : Int) (t0 : 0 ≤ T) (hT : 1152921504606846976 < T) (w : World) :
    Calls Tryd.prog 29 #[.bool neg, .agg #[.int .u64 (T / 18446744073709551616), .int .u64 (T % 18446744073709551616)], .agg #[.int .u64 (B / 18446744073709551616), .int .u64 (B % 18446744073709551616)]] w fun e w' =>
      e = .returned (.tuple #[.agg #[.int .i64 (boundS neg T B).1, .int .i64 (boundS neg T B).2.1], .int .i64 (boundS neg T B).2.2]) ∧ Below w.heap.size w w' := by
  have E : boundS neg T B = (0, 0, 10) := if_pos (.inl hT)
  rw [E]
  have wc := wcmp_max T t0
  rw [show cmpI T 1152921504606846976 = 1 by unfold cmpI; rw [if_neg (by omega), if_pos hT]] at wc
  have WC := Lib.hid wc
  clear wc E
  go_enter Tryd.func29, Tryd.ntmps29
  go_wp2_with fail
  refine (WC.out _).mono ?_
  rintro e w0 ⟨rfl, hb0⟩
  obtain ⟨hc0, hf0⟩ := bcell hb0
  have l04 : w.heap.size < w.heap.size + 1 + 1 + 1 + 1 := by omega
  have l14 : w.heap.size + 1 < w.heap.size + 1 + 1 + 1 + 1 := by omega
  have l24 : w.heap.size + 1 + 1 < w.heap.size + 1 + 1 + 1 + 1 := by omega
  go_wp2_with fail
  refine bodyPost_ret (v := .tuple #[.agg #[.int .i64 0, .int .i64 0], .int .i64 10]) (by simp [results, Tryd.results29, go_sem, *]) rfl ⟨rfl, ?_⟩
  clear hc0 hf0
  have hb0 := hb0.mono (B' := w.heap.size) (by simp; omega)
  repeat (first | exact Below.refl _ _ | (refine Below.alloc ?_ (by simp <;> omega) _) | (refine Below.setCell ?_ (by simp <;> omega) _) | (refine Below.trans ?_ hb0))

set_option maxHeartbeats 1000000 in
theorem bounded_bot (neg : Bool) (T B : Int) (t0 : 0 ≤ T) (b0 : 0 ≤ B) (hT : T ≤ 1152921504606846976) (hB : 1152921504606846976 < B) (w : World) :
    Calls Tryd.prog 29 #[.bool neg, .agg #[.int .u64 (T / 18446744073709551616), .int .u64 (T % 18446744073709551616)], .agg #[.int .u64 (B / 18446744073709551616), .int .u64 (B % 18446744073709551616)]] w fun e w' =>
      e = .returned (.tuple #[.agg #[.int .i64 (boundS neg T B).1, .int .i64 (boundS neg T B).2.1], .int .i64 (boundS neg T B).2.2]) ∧ Below w.heap.size w w' := by
  have E : boundS neg T B = (0, 0, 10) := if_pos (.inr hB)
  rw [E]
  have wd := wcmp_max B b0
  rw [show cmpI B 1152921504606846976 = 1 by unfold cmpI; rw [if_neg (by omega), if_pos hB]] at wd
  have WD := Lib.hid wd
  obtain ⟨c, hc, wc⟩ : ∃ c : Int, c ≤ 0 ∧ Hid (∀ w, Calls Tryd.prog 36 #[.agg #[.int .u64 (T / 18446744073709551616), .int .u64 (T % 18446744073709551616)], .agg #[.int .u64 0, .int .u64 1152921504606846976]] w fun e w' =>
      e = .returned (.int .i64 c) ∧ Below w.heap.size w w') := ⟨cmpI T 1152921504606846976, by unfold cmpI; split <;> (try split) <;> omega, Lib.hid (wcmp_max T t0)⟩
  clear wd E
  have hc' : decide (0 < c) = false := by simpa using hc
  go_enter Tryd.func29, Tryd.ntmps29
  go_wp2_with fail
  refine (wc.out _).mono ?_
  rintro e w0 ⟨rfl, hb0⟩
  obtain ⟨hc0, hf0⟩ := bcell hb0
  have l04 : w.heap.size < w.heap.size + 1 + 1 + 1 + 1 := by omega
  have l14 : w.heap.size + 1 < w.heap.size + 1 + 1 + 1 + 1 := by omega
  have l24 : w.heap.size + 1 + 1 < w.heap.size + 1 + 1 + 1 + 1 := by omega
  have l34 : w.heap.size + 1 + 1 + 1 < w.heap.size + 1 + 1 + 1 + 1 := by omega
  go_wp2_with fail
  refine (WD.out _).mono ?_
  rintro e w1 ⟨rfl, hb1⟩
  have hz0 : w.heap.size + 4 ≤ w0.heap.size := by have := hb0.size; simp at this; omega
  have f0 : w.heap.size < w0.heap.size := by omega
  have f1 : w.heap.size + 1 < w0.heap.size := by omega
  have f2 : w.heap.size + 1 + 1 < w0.heap.size := by omega
  obtain ⟨hc1, hf1⟩ := bcellN w0.heap.size hb1 (Nat.le_refl _)
  go_wp2_with fail
  refine bodyPost_ret (v := .tuple #[.agg #[.int .i64 0, .int .i64 0], .int .i64 10]) (by simp [results, Tryd.results29, go_sem, *]) rfl ⟨rfl, ?_⟩
  clear hc0 hf0 hc1 hf1
  have hb0 := hb0.mono (B' := w.heap.size) (by simp; omega)
  have hb1 := hb1.mono (B' := w.heap.size) (by (try simp) <;> omega)
  repeat (first | exact Below.refl _ _ | (refine Below.alloc ?_ (by simp <;> omega) _) | (refine Below.setCell ?_ (by simp <;> omega) _) | (refine Below.trans ?_ hb1) | (refine Below.trans ?_ hb0))

set_option maxHeartbeats 1000000 in
theorem bounded_in (neg : Bool) (T B : Int) (t0 : 0 ≤ T) (b0 : 0 ≤ B) (hT : T ≤ 1152921504606846976) (hB : B ≤ 1152921504606846976) (w : World) :
    Calls Tryd.prog 29 #[.bool neg, .agg #[.int .u64 (T / 18446744073709551616), .int .u64 (T % 18446744073709551616)], .agg #[.int .u64 (B / 18446744073709551616), .int .u64 (B % 18446744073709551616)]] w fun e w' =>
      e = .returned (.tuple #[.agg #[.int .i64 (boundS neg T B).1, .int .i64 (boundS neg T B).2.1], .int .i64 (boundS neg T B).2.2]) ∧ Below w.heap.size w w' := by
  have E : boundS neg T B = (if neg then -T else T, B, 0) := if_neg (by omega)
  rw [E]
  clear E
  obtain ⟨d, hd, wd⟩ : ∃ c : Int, c ≤ 0 ∧ Hid (∀ w, Calls Tryd.prog 36 #[.agg #[.int .u64 (B / 18446744073709551616), .int .u64 (B % 18446744073709551616)], .agg #[.int .u64 0, .int .u64 1152921504606846976]] w fun e w' =>
      e = .returned (.int .i64 c) ∧ Below w.heap.size w w') := ⟨cmpI B 1152921504606846976, by unfold cmpI; split <;> (try split) <;> omega, Lib.hid (wcmp_max B b0)⟩
  obtain ⟨c, hc, wc⟩ : ∃ c : Int, c ≤ 0 ∧ Hid (∀ w, Calls Tryd.prog 36 #[.agg #[.int .u64 (T / 18446744073709551616), .int .u64 (T % 18446744073709551616)], .agg #[.int .u64 0, .int .u64 1152921504606846976]] w fun e w' =>
      e = .returned (.int .i64 c) ∧ Below w.heap.size w w') := ⟨cmpI T 1152921504606846976, by unfold cmpI; split <;> (try split) <;> omega, Lib.hid (wcmp_max T t0)⟩
  have hc' : decide (0 < c) = false := by simpa using hc
  have hd' : decide (0 < d) = false := by simpa using hd
  have eT : Hid (T % 18446744073709551616 = T) := Lib.hid (by omega)
  have eB : Hid (B % 18446744073709551616 = B) := Lib.hid (by omega)
  have t1 : 0 ≤ T % 18446744073709551616 := by omega
  have t2 : T % 18446744073709551616 ≤ 1152921504606846976 := by omega
  have b1 : 0 ≤ B % 18446744073709551616 := by omega
  have b2 : B % 18446744073709551616 ≤ 1152921504606846976 := by omega
  cases neg
  all_goals
    go_enter Tryd.func29, Tryd.ntmps29
    go_wp2_with fail
    refine (wc.out _).mono ?_
    rintro e w0 ⟨rfl, hb0⟩
    obtain ⟨hc0, hf0⟩ := bcell hb0
    have l04 : w.heap.size < w.heap.size + 1 + 1 + 1 + 1 := by omega
    have l14 : w.heap.size + 1 < w.heap.size + 1 + 1 + 1 + 1 := by omega
    have l24 : w.heap.size + 1 + 1 < w.heap.size + 1 + 1 + 1 + 1 := by omega
    have l34 : w.heap.size + 1 + 1 + 1 < w.heap.size + 1 + 1 + 1 + 1 := by omega
    go_wp2_with fail
    refine (wd.out _).mono ?_
    rintro e w1 ⟨rfl, hb1⟩
    have hz0 : w.heap.size + 4 ≤ w0.heap.size := by have := hb0.size; simp at this; omega
    have f0 : w.heap.size < w0.heap.size := by omega
    have f1 : w.heap.size + 1 < w0.heap.size := by omega
    have f2 : w.heap.size + 1 + 1 < w0.heap.size := by omega
    obtain ⟨hc1, hf1⟩ := bcellN w0.heap.size hb1 (Nat.le_refl _)
    go_wp2_with fail
  · refine bodyPost_ret (v := .tuple #[.agg #[.int .i64 (T % 18446744073709551616), .int .i64 (B % 18446744073709551616)], .int .i64 0]) (by simp [results, Tryd.results29, go_sem, *]) rfl ⟨pair_eq eT.out eB.out rfl, ?_⟩
    clear hc0 hf0 hc1 hf1
    have hb0 := hb0.mono (B' := w.heap.size) (by simp; omega)
    have hb1 := hb1.mono (B' := w.heap.size) (by (try simp) <;> omega)
    repeat (first | exact Below.refl _ _ | (refine Below.alloc ?_ (by simp <;> omega) _) | (refine Below.setCell ?_ (by simp <;> omega) _) | (refine Below.trans ?_ hb1) | (refine Below.trans ?_ hb0))
  · refine bodyPost_ret (v := .tuple #[.agg #[.int .i64 (-(T % 18446744073709551616)), .int .i64 (B % 18446744073709551616)], .int .i64 0]) (by simp [results, Tryd.results29, go_sem, *]) rfl ⟨pair_eq (by rw [eT.out]) eB.out rfl, ?_⟩
    clear hc0 hf0 hc1 hf1
    have hb0 := hb0.mono (B' := w.heap.size) (by simp; omega)
    have hb1 := hb1.mono (B' := w.heap.size) (by (try simp) <;> omega)
    repeat (first | exact Below.refl _ _ | (refine Below.alloc ?_ (by simp <;> omega) _) | (refine Below.setCell ?_ (by simp <;> omega) _) | (refine Below.trans ?_ hb1) | (refine Below.trans ?_ hb0))
theorem bounded_any (neg : Bool) (T B : Int) (t0 : 0 ≤ T) (b0 : 0 ≤ B) (w : World) :
    Calls Tryd.prog 29 #[.bool neg, .agg #[.int .u64 (T / 18446744073709551616), .int .u64 (T % 18446744073709551616)], .agg #[.int .u64 (B / 18446744073709551616), .int .u64 (B % 18446744073709551616)]] w fun e w' =>
      e = .returned (.tuple #[.agg #[.int .i64 (boundS neg T B).1, .int .i64 (boundS neg T B).2.1], .int .i64 (boundS neg T B).2.2]) ∧ Below w.heap.size w w' := by
  by_cases h : 1152921504606846976 < T
  · exact bounded_top neg T B t0 h w
  by_cases h' : 1152921504606846976 < B
  · exact bounded_bot neg T B t0 b0 (by omega) h' w
  · exact bounded_in neg T B t0 b0 (by omega) (by omega) w
end Go.Proofs.YtlglagihekadhaaDoor
