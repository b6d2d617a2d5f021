/- slices.BinarySearchFunc over faults with the cable's comparison. -/
import Derived.Test.YtoeedbimhihbhaaCabD
namespace Go.Proofs.Ytoeedbimhihbhaa
open Go.RowKit

/-- What cmp.Compare answers. -/
def cmpI (x y : Int) : Int := if x < y then -1 else if y < x then 1 else 0

set_option maxHeartbeats 2000000 in
theorem isNaN_any (x : Int) (w : World) :
    Calls Try.prog 38 #[.int .i64 x] w fun e w' => e = .returned (.bool false) ∧ w = w' := by
  go_enter Try.func38, Try.ntmps38
  go_wp2_with fail
  go_ret
  exact ⟨by simp, rfl⟩

set_option maxHeartbeats 4000000 in
theorem compare_any (x y r : Int) (hr : cmpI x y = r) (w : World) :
    Calls Try.prog 35 #[.int .i64 x, .int .i64 y] w fun e w' => e = .returned (.int .i64 r) ∧ w = w' := by
  have NA := fun x w => box (isNaN_any x w)
  have HR := box hr
  clear hr
  by_cases h1 : x < y
  · have d1 : decide (x < y) = true := decide_eq_true h1
    have HV := box (show r = -1 by rw [← HR.out]; unfold cmpI; rw [if_pos h1])
    clear h1
    go_enter Try.func35, Try.ntmps35
    go_wp2_with fail
    refine (NA x _).out.mono ?_
    rintro e w1 ⟨rfl, rfl⟩
    go_wp2_with fail
    refine (NA y _).out.mono ?_
    rintro e w1 ⟨rfl, rfl⟩
    go_wp2_with fail
    go_ret
    exact ⟨by rw [HV.out]; rfl, rfl⟩
  · have d1 : decide (x < y) = false := decide_eq_false h1
    by_cases h2 : y < x
    · have d2 : decide (y < x) = true := decide_eq_true h2
      have HV := box (show r = 1 by rw [← HR.out]; unfold cmpI; rw [if_neg h1, if_pos h2])
      clear h1 h2
      go_enter Try.func35, Try.ntmps35
      go_wp2_with fail
      refine (NA x _).out.mono ?_
      rintro e w1 ⟨rfl, rfl⟩
      go_wp2_with fail
      refine (NA y _).out.mono ?_
      rintro e w1 ⟨rfl, rfl⟩
      go_wp2_with fail
      go_ret
      exact ⟨by rw [HV.out]; rfl, rfl⟩
    · have d2 : decide (y < x) = false := decide_eq_false h2
      have HV := box (show r = 0 by rw [← HR.out]; unfold cmpI; rw [if_neg h1, if_neg h2])
      clear h1 h2
      go_enter Try.func35, Try.ntmps35
      go_wp2_with fail
      refine (NA x _).out.mono ?_
      rintro e w1 ⟨rfl, rfl⟩
      go_wp2_with fail
      refine (NA y _).out.mono ?_
      rintro e w1 ⟨rfl, rfl⟩
      go_wp2_with fail
      go_ret
      exact ⟨by rw [HV.out]; rfl, rfl⟩

set_option maxHeartbeats 4000000 in
theorem closure_any (f : Ft) (y r : Int) (hr : cmpI f.at_ y = r) (w : World) :
    Calls Try.prog 34 #[ftV f, .int .i64 y] w fun e w' => e = .returned (.int .i64 r) ∧ Below w.heap.size w w' := by
  have CM := fun w => box (compare_any f.at_ y r hr w)
  have kA := (Below.refl w.heap.size w).alloc (Nat.le_refl _) (.cells #[.int .i64 f.at_, .int .i64 f.kind, .int .i64 f.arg] 53)
  clear hr
  go_enter Try.func34, Try.ntmps34
  go_wp2_with fail
  refine (CM _).out.mono ?_
  rintro e w1 ⟨rfl, rfl⟩
  go_wp2_with fail
  go_ret
  exact ⟨rfl, kA⟩

/-- Faults ascend. -/
def Asc (fs : List Ft) : Prop := ∀ i j (hi : i < fs.length) (hj : j < fs.length), i < j → fs[i].at_ < fs[j].at_
theorem asc_of_ok : ∀ {fs : List Ft} {la : Int}, okFrom la fs = true → (∀ f ∈ fs, la < f.at_) ∧ Asc fs
  | [], _, _ => ⟨(fun f h => by cases h), (fun i _ hi => absurd hi (by simp))⟩
  | f :: r, la, h => by
    have h : (okOne la f && okFrom f.at_ r) = true := h
    rw [Bool.and_eq_true] at h
    obtain ⟨h1, h2⟩ := h
    unfold okOne at h1
    rw [Bool.and_eq_true, decide_eq_true_eq] at h1
    obtain ⟨i1, i2⟩ := asc_of_ok h2
    refine ⟨fun g hg => ?_, fun i j hi hj hij => ?_⟩
    · rcases List.mem_cons.1 hg with rfl | hg
      · exact h1.1
      · exact Int.lt_trans h1.1 (i1 g hg)
    · cases j with
      | zero => omega
      | succ j =>
        cases i with
        | zero => exact i1 _ (List.getElem_mem _)
        | succ i => exact i2 i j (by simpa using hi) (by simpa using hj) (by omega)

theorem args_of_ok : ∀ {fs : List Ft} {la : Int}, okFrom la fs = true → ∀ f ∈ fs, 0 ≤ f.arg
  | [], _, _ => (fun f h => by cases h)
  | f :: r, la, h => by
    have h : (okOne la f && okFrom f.at_ r) = true := h
    rw [Bool.and_eq_true] at h
    obtain ⟨h1, h2⟩ := h
    unfold okOne at h1
    rw [Bool.and_eq_true, Bool.and_eq_true, decide_eq_true_eq] at h1
    intro g hg
    rcases List.mem_cons.1 hg with rfl | hg
    · exact of_decide_eq_true h1.2.2
    · exact args_of_ok h2 g hg

set_option maxRecDepth 100000 in
set_option maxHeartbeats 8000000 in
theorem bsearch_any (a : Option Addr) (n c : Nat) (fs : List Ft) (hn : fs.length = n) (hbig : n ≤ 1000) (hasc : Asc fs) (x : Int) (w : World) (hc : FtsIn w a fs) :
    Calls Try.prog 33 #[.slice a n c, .int .i64 x, .func (.func 34) #[] #[]] w fun e w' => ∃ (p : Nat) (b : Bool), e = .returned (.tuple #[.int .i64 p, .bool b]) ∧ Below w.heap.size w w' ∧ (b = true → ∃ h : p < fs.length, fs[p].at_ = x) ∧ (b = false → ∀ f ∈ fs, f.at_ ≠ x) := by
  have HC := box hc
  have HASC := box hasc
  clear hc hasc
  go_enter Try.func33, Try.ntmps33
  go_wp2_with fail
  go_loopw [9, 10] (fun t9 t10 wr => ∃ lo hi : Nat, t9 = .int .i64 lo ∧ t10 = .int .i64 hi ∧ lo ≤ hi ∧ hi ≤ n ∧ Box (∀ i (h : i < fs.length), i < lo → fs[i].at_ < x) ∧ Box (∀ i (h : i < fs.length), hi ≤ i → x ≤ fs[i].at_) ∧ Below w.heap.size w wr) (fun t9 t10 _ => (intOf t10).toNat - (intOf t9).toNat)
  case atStart => exact ⟨0, n, rfl, rfl, by omega, by omega, box (fun i _ h => by omega), box (fun i h h2 => by omega), Below.refl _ _⟩
  case round =>
    obtain ⟨lo, hi, rfl, rfl, hlh, hin, hl, hh, kb⟩ := hrel
    by_cases hlt : lo < hi
    · have hm : ((lo : Int) + (hi : Int)) / 2 = (((lo + hi) / 2 : Nat) : Int) := by omega
      have hm1 : (lo + hi) / 2 < hi := by omega
      have hm2 : lo ≤ (lo + hi) / 2 := by omega
      generalize (lo + hi) / 2 = m at hm hm1 hm2
      obtain ⟨b, o, rfl, x0, x1, x2⟩ := (HC.out.below kb).at (show m < fs.length by omega)
      have HF := box (show ∃ f, fs[m]'(by omega) = f from ⟨_, rfl⟩)
      obtain ⟨f, hf⟩ := HF.out
      rw [hf] at x0 x1 x2
      have HFM := box hf
      clear hf HF
      have lx := World.block_lt_of_cell? wr ⟨b, o + m * 3, none⟩ x0
      obtain ⟨r, hr⟩ : ∃ r, cmpI f.at_ x = r := ⟨_, rfl⟩
      have CL := fun w => box (closure_any f x r hr w)
      have HRR := box hr
      clear hr
      by_cases hr0 : r < 0
      · have d0 : decide (r < 0) = true := decide_eq_true hr0
        have HX := box (show f.at_ < x by
          have h := HRR.out; unfold cmpI at h
          by_cases h1 : f.at_ < x
          · exact h1
          · rw [if_neg h1] at h; split at h <;> omega)
        clear hr0
        go_wp2_with fail
        refine (CL _).out.mono ?_
        rintro e w3 ⟨rfl, hb⟩
        have kb3 := kb.trans (hb.mono kb.size)
        go_wp2_with fail
        go_roundw
        case rel =>
          refine ⟨m + 1, hi, by go_num, rfl, by omega, hin, box (fun i h hi => ?_), hh, kb3⟩
          rcases Nat.lt_or_ge i m with h1 | h1
          · have := HASC.out i m h (by omega) h1
            rw [HFM.out] at this
            exact Int.lt_trans this HX.out
          · obtain rfl : i = m := by omega
            rw [HFM.out]; exact HX.out
        case measure => simp [intOf]; omega
      · have d0 : decide (r < 0) = false := decide_eq_false hr0
        have HX := box (show x ≤ f.at_ by
          have h := HRR.out; unfold cmpI at h
          by_cases h1 : f.at_ < x
          · rw [if_pos h1] at h; omega
          · omega)
        clear hr0
        go_wp2_with fail
        refine (CL _).out.mono ?_
        rintro e w3 ⟨rfl, hb⟩
        have kb3 := kb.trans (hb.mono kb.size)
        go_wp2_with fail
        go_roundw
        case rel =>
          refine ⟨lo, m, rfl, rfl, by omega, by omega, hl, box (fun i h hi => ?_), kb3⟩
          rcases Nat.lt_or_ge m i with h1 | h1
          · have := HASC.out m i (by omega) h h1
            rw [HFM.out] at this
            exact Int.le_of_lt (Int.lt_of_le_of_lt HX.out this)
          · obtain rfl : i = m := by omega
            rw [HFM.out]; exact HX.out
        case measure => simp [intOf]; omega
    · obtain rfl : lo = hi := by omega
      by_cases hn2 : lo < n
      · obtain ⟨b, o, rfl, x0, x1, x2⟩ := (HC.out.below kb).at (show lo < fs.length by omega)
        have HF := box (show ∃ f, fs[lo]'(by omega) = f from ⟨_, rfl⟩)
        obtain ⟨f, hf⟩ := HF.out
        rw [hf] at x0 x1 x2
        have HFM := box hf
        clear hf HF
        have lx := World.block_lt_of_cell? wr ⟨b, o + lo * 3, none⟩ x0
        obtain ⟨r, hr⟩ : ∃ r, cmpI f.at_ x = r := ⟨_, rfl⟩
        have CL := fun w => box (closure_any f x r hr w)
        have HRR := box hr
        clear hr
        have HGE := box (show x ≤ f.at_ by rw [← HFM.out]; exact hh.out lo (by omega) (Nat.le_refl _))
        obtain ⟨res, hres⟩ : ∃ res, (r == 0) = res := ⟨_, rfl⟩
        have HRES := box hres
        go_wp2_with fail
        refine (CL _).out.mono ?_
        rintro e w3 ⟨rfl, hb⟩
        have kb3 := kb.trans (hb.mono kb.size)
        go_wp2_with fail
        refine bodyPost_ret (v := .tuple #[.int .i64 lo, .bool res]) (by simp [results, Try.results33, go_sem]) rfl ⟨lo, res, rfl, kb3, fun hb => ⟨by omega, ?_⟩, fun hb g hg => ?_⟩
        · rw [HFM.out]
          have h1 : r = 0 := by have h := HRES.out; rw [hb] at h; simpa using h
          have h := HRR.out
          unfold cmpI at h
          have := HGE.out
          by_cases h2 : f.at_ < x
          · omega
          · rw [if_neg h2] at h
            by_cases h3 : x < f.at_
            · rw [if_pos h3] at h; omega
            · omega
        · have h1 : r ≠ 0 := by have h := HRES.out; rw [hb] at h; simpa using h
          have h := HRR.out
          unfold cmpI at h
          have hge := HGE.out
          rw [if_neg (by omega)] at h
          have h3 : x < f.at_ := by
            by_cases h3 : x < f.at_
            · exact h3
            · rw [if_neg h3] at h; omega
          obtain ⟨i, hi, rfl⟩ := List.getElem_of_mem hg
          rcases Nat.lt_trichotomy i lo with h4 | h4 | h4
          · have := hl.out i hi h4; omega
          · subst h4; rw [HFM.out]; omega
          · have := HASC.out lo i (by omega) hi h4
            rw [HFM.out] at this; omega
      · obtain rfl : lo = n := by omega
        go_wp2_with fail
        refine bodyPost_ret (v := .tuple #[.int .i64 lo, .bool false]) (by simp [results, Try.results33, go_sem]) rfl ⟨lo, false, rfl, kb, fun hb => (by cases hb), fun hb g hg => ?_⟩
        obtain ⟨i, hi, rfl⟩ := List.getElem_of_mem hg
        have := hl.out i hi (by omega)
        omega
end Go.Proofs.Ytoeedbimhihbhaa
