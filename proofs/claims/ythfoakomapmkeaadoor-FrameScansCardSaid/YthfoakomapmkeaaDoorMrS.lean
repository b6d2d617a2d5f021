/- The reference's Push: its contracts at a symbol that has no place inside. -/
import Derived.Test.YthfoakomapmkeaaDoorMrP
namespace Go.Proofs.YthfoakomapmkeaaDoor
open Go.RowKit

set_option maxRecDepth 100000 in
set_option maxHeartbeats 8000000 in
/-- Inside, no valid symbol. -/
theorem rpush_bad (a : Option Addr) (l cap bad s : Nat) (hbad : bad < 100000) (hs : s < 256) (h49 : s ≠ 49) (h50 : s ≠ 50) (hi : ¬ idx s < 20) (w : World) :
    Calls Tryd.prog 27 #[scV true a l cap bad, nU8 s] w fun e w' => e = .returned (.tuple #[scV false none 0 0 (bad + 1), pk0, .bool false]) ∧ Below w.heap.size w w' := by
  have d1 : ((s : Int) == 49) = false := by simp; omega
  have d5 : ((s : Int) == 50) = false := by simp; omega
  have hI := index_any s hs
  unfold idxI at hI
  rw [if_neg hi] at hI
  clear hi
  have HI := fun w => box (hI w)
  clear hI
  go_enter Tryd.func27, Tryd.ntmps27
  go_wp2_with fail
  have PA := pat_start w true a l cap bad
  refine (HI _).out.mono ?_
  rintro e w2 ⟨rfl, hb2⟩
  obtain ⟨s0, s1, s2, r0, r1, r2, q0, q1, q2, q3, q4, kb, zs, zr, zq, kz⟩ := PA.keep hb2
  clear PA hb2
  go_wp2_with fail
  have E := put8_res (w := w) (w2 := w2) (r := w.heap.size + 1) (q := w.heap.size + 1 + 1) (by omega) (by omega) (by omega) (.bool false) (.slice none 0 0) (.int .i64 ((bad : Int) + 1)) (nU8 0) (.int .i64 0) (.int .i64 0) (.int .i64 0) (.slice none 0 0) r0 r1 r2 q0 q1 q2 q3 q4 kb
  clear r0 r1 r2 q0 q1 q2 q3 q4 kb s0 s1 s2 zs zr zq kz
  change bodyPost _ _ _ _ _ (put8 w2 (w.heap.size + 1) (w.heap.size + 1 + 1) (.bool false) (.slice none 0 0) (.int .i64 ((bad : Int) + 1)) (nU8 0) (.int .i64 0) (.int .i64 0) (.int .i64 0) (.slice none 0 0))
  generalize put8 w2 (w.heap.size + 1) (w.heap.size + 1 + 1) (.bool false) (.slice none 0 0) (.int .i64 ((bad : Int) + 1)) (nU8 0) (.int .i64 0) (.int .i64 0) (.int .i64 0) (.slice none 0 0) = w4 at E ⊢
  obtain ⟨r0, r1, r2, q0, q1, q2, q3, q4, kb⟩ := E
  refine bodyPost_ret (v := .tuple #[scV false none 0 0 (bad + 1), pk0, .bool false]) (by simp [results, Tryd.results27, go_sem, r0, r1, r2, q0, q1, q2, q3, q4]) rfl ⟨rfl, kb⟩

set_option maxRecDepth 100000 in
set_option maxHeartbeats 8000000 in
/-- Inside, a control symbol that is neither start nor stop. -/
theorem rpush_ctl (a : Option Addr) (l cap bad s : Nat) (hbad : bad < 100000) (hs : s < 256) (h49 : s ≠ 49) (h50 : s ≠ 50) (hi : idx s < 20) (hi2 : 16 ≤ idx s) (w : World) :
    Calls Tryd.prog 27 #[scV true a l cap bad, nU8 s] w fun e w' => e = .returned (.tuple #[scV false none 0 0 (bad + 1), pk0, .bool false]) ∧ Below w.heap.size w w' := by
  have d1 : ((s : Int) == 49) = false := by simp; omega
  have d5 : ((s : Int) == 50) = false := by simp; omega
  have hI := index_any s hs
  unfold idxI at hI
  obtain ⟨k, hk⟩ : ∃ k, idx s = k := ⟨_, rfl⟩
  rw [if_pos (by omega), hk] at hI
  rw [hk] at hi hi2
  clear hk
  have d2 : decide ((k : Int) ≥ 0) = true := by simp
  have d2' : decide ((0 : Int) ≤ (k : Int)) = true := by simp
  have d3 : decide ((k : Int) ≤ 15) = false := by simp; omega
  have HI := fun w => box (hI w)
  clear hI
  go_enter Tryd.func27, Tryd.ntmps27
  go_wp2_with fail
  have PA := pat_start w true a l cap bad
  refine (HI _).out.mono ?_
  rintro e w2 ⟨rfl, hb2⟩
  obtain ⟨s0, s1, s2, r0, r1, r2, q0, q1, q2, q3, q4, kb, zs, zr, zq, kz⟩ := PA.keep hb2
  clear PA hb2
  go_wp2_with fail
  have E := put8_res (w := w) (w2 := w2) (r := w.heap.size + 1) (q := w.heap.size + 1 + 1) (by omega) (by omega) (by omega) (.bool false) (.slice none 0 0) (.int .i64 ((bad : Int) + 1)) (nU8 0) (.int .i64 0) (.int .i64 0) (.int .i64 0) (.slice none 0 0) r0 r1 r2 q0 q1 q2 q3 q4 kb
  clear r0 r1 r2 q0 q1 q2 q3 q4 kb s0 s1 s2 zs zr zq kz
  change bodyPost _ _ _ _ _ (put8 w2 (w.heap.size + 1) (w.heap.size + 1 + 1) (.bool false) (.slice none 0 0) (.int .i64 ((bad : Int) + 1)) (nU8 0) (.int .i64 0) (.int .i64 0) (.int .i64 0) (.slice none 0 0))
  generalize put8 w2 (w.heap.size + 1) (w.heap.size + 1 + 1) (.bool false) (.slice none 0 0) (.int .i64 ((bad : Int) + 1)) (nU8 0) (.int .i64 0) (.int .i64 0) (.int .i64 0) (.slice none 0 0) = w4 at E ⊢
  obtain ⟨r0, r1, r2, q0, q1, q2, q3, q4, kb⟩ := E
  refine bodyPost_ret (v := .tuple #[scV false none 0 0 (bad + 1), pk0, .bool false]) (by simp [results, Tryd.results27, go_sem, r0, r1, r2, q0, q1, q2, q3, q4]) rfl ⟨rfl, kb⟩

set_option maxRecDepth 100000 in
set_option maxHeartbeats 8000000 in
/-- Inside, a data symbol that has no room. -/
theorem rpush_full (a : Option Addr) (l cap bad s : Nat) (hbad : bad < 100000) (hs : s < 256) (h49 : s ≠ 49) (h50 : s ≠ 50) (hi : idx s < 16) (hfull : 162 ≤ l) (w : World) :
    Calls Tryd.prog 27 #[scV true a l cap bad, nU8 s] w fun e w' => e = .returned (.tuple #[scV false none 0 0 (bad + 1), pk0, .bool false]) ∧ Below w.heap.size w w' := by
  have d1 : ((s : Int) == 49) = false := by simp; omega
  have d5 : ((s : Int) == 50) = false := by simp; omega
  have hI := index_any s hs
  unfold idxI at hI
  obtain ⟨k, hk⟩ : ∃ k, idx s = k := ⟨_, rfl⟩
  rw [if_pos (by omega), hk] at hI
  rw [hk] at hi
  clear hk
  have d2 : decide ((k : Int) ≥ 0) = true := by simp
  have d2' : decide ((0 : Int) ≤ (k : Int)) = true := by simp
  have d3 : decide ((k : Int) ≤ 15) = true := by simp; omega
  have d4 : decide ((l : Int) < 162) = false := by simp; omega
  have HI := fun w => box (hI w)
  clear hI
  go_enter Tryd.func27, Tryd.ntmps27
  go_wp2_with fail
  have PA := pat_start w true a l cap bad
  refine (HI _).out.mono ?_
  rintro e w2 ⟨rfl, hb2⟩
  obtain ⟨s0, s1, s2, r0, r1, r2, q0, q1, q2, q3, q4, kb, zs, zr, zq, kz⟩ := PA.keep hb2
  clear PA hb2
  go_wp2_with fail
  have E := put8_res (w := w) (w2 := w2) (r := w.heap.size + 1) (q := w.heap.size + 1 + 1) (by omega) (by omega) (by omega) (.bool false) (.slice none 0 0) (.int .i64 ((bad : Int) + 1)) (nU8 0) (.int .i64 0) (.int .i64 0) (.int .i64 0) (.slice none 0 0) r0 r1 r2 q0 q1 q2 q3 q4 kb
  clear r0 r1 r2 q0 q1 q2 q3 q4 kb s0 s1 s2 zs zr zq kz
  change bodyPost _ _ _ _ _ (put8 w2 (w.heap.size + 1) (w.heap.size + 1 + 1) (.bool false) (.slice none 0 0) (.int .i64 ((bad : Int) + 1)) (nU8 0) (.int .i64 0) (.int .i64 0) (.int .i64 0) (.slice none 0 0))
  generalize put8 w2 (w.heap.size + 1) (w.heap.size + 1 + 1) (.bool false) (.slice none 0 0) (.int .i64 ((bad : Int) + 1)) (nU8 0) (.int .i64 0) (.int .i64 0) (.int .i64 0) (.slice none 0 0) = w4 at E ⊢
  obtain ⟨r0, r1, r2, q0, q1, q2, q3, q4, kb⟩ := E
  refine bodyPost_ret (v := .tuple #[scV false none 0 0 (bad + 1), pk0, .bool false]) (by simp [results, Tryd.results27, go_sem, r0, r1, r2, q0, q1, q2, q3, q4]) rfl ⟨rfl, kb⟩

end Go.Proofs.YthfoakomapmkeaaDoor
