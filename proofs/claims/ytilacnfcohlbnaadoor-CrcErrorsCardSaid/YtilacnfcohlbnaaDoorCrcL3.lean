/- The walk of CrcErrors. -/
import Derived.Test.YtilacnfcohlbnaaDoorCrcW
import Derived.Test.YtilacnfcohlbnaaDoorCrcF
namespace Go.Proofs.YtilacnfcohlbnaaDoor
open Go.RowKit

theorem rerrors_none (a b : Option Addr) (ca cb : Nat) (w : World) :
    Calls Tryd.prog 21 #[.slice a 0 ca, .slice b 0 cb] w fun e w' => e = .returned (.tuple #[.int .i64 0, .int .i64 0]) ∧ Below w.heap.size w w' := by
  go_enter Tryd.func21, Tryd.ntmps21
  go_wp2_with fail
  go_loopw [6, 7, 8, 9] (fun t6 t7 t8 t9 wr => t9 = .int .i64 0 ∧ t6 = .int .i64 0 ∧ t7 = .int .i64 (-1) ∧ t8 = .int .i64 (-1) ∧ Below w.heap.size w wr) (fun _ _ _ _ _ => 0)
  case atStart => exact ⟨rfl, rfl, rfl, rfl, Below.refl _ _⟩
  case round =>
    obtain ⟨rfl, rfl, rfl, rfl, kb⟩ := hrel
    go_wp2_with fail
    refine bodyPost_ret (v := .tuple #[.int .i64 0, .int .i64 0]) (by simp [results, Tryd.results21, go_sem]) rfl ⟨rfl, kb⟩

theorem rerrors_any (a b : Option Addr) (n ca cb : Nat) (xs ys : List Nat) (hn : xs.length = n) (hm : ys.length = n) (hx : ∀ x ∈ xs, x < 256) (hy : ∀ x ∈ ys, x < 256) (hbig : n ≤ 1000) (w : World) (hc : In w a xs) (hd : In w b ys) :
    Calls Tryd.prog 21 #[.slice a n ca, .slice b n cb] w fun e w' =>
      e = .returned (.tuple #[.int .i64 ((errs (List.zipWith (· ^^^ ·) xs ys)).1 : Int), .int .i64 ((errs (List.zipWith (· ^^^ ·) xs ys)).2.2 - (errs (List.zipWith (· ^^^ ·) xs ys)).2.1 : Int)]) ∧ Below w.heap.size w w' := by
  by_cases h0 : n = 0
  · subst h0
    obtain rfl := List.length_eq_zero_iff.1 hn
    obtain rfl := List.length_eq_zero_iff.1 hm
    exact rerrors_none a b ca cb w
  · rcases hc with rfl | ⟨a', rfl, hc⟩
    · simp at hn; omega
    · rcases hd with rfl | ⟨b', rfl, hd⟩
      · simp at hm; omega
      · exact rerrors_at a' b' n ca cb xs ys hn hm hx hy hbig w hc hd

theorem zip_comm (xs ys : List Nat) : List.zipWith (· ^^^ ·) ys xs = List.zipWith (· ^^^ ·) xs ys := by
  rw [List.zipWith_comm]
  congr 1
  funext a b
  exact Nat.xor_comm b a

set_option maxHeartbeats 4000000 in
theorem errors_walk (a b : Option Addr) (n m ca cb : Nat) (xs ys : List Nat) (hn : xs.length = n) (hm : ys.length = m) (hx : ∀ x ∈ xs, x < 256) (hy : ∀ x ∈ ys, x < 256) (w : World) (hc : In w a xs) (hd : In w b ys) (hT : HasTab w) :
    Calls Tryd.prog 11 #[.slice a n ca, .slice b m cb] w fun e w' => e = .returned (.bool true) ∧ Below w.heap.size w w' := by
  have HT := box hT
  have HX := box hx
  have HY := box hy
  have HC := box hc
  have HD := box hd
  clear hT hx hc hy hd
  by_cases hl : 300 < n
  · have hd : decide ((300 : Int) < (n : Int)) = true := decide_eq_true (by omega)
    have hlz : (300 : Int) < (n : Int) := by omega
    go_enter Tryd.func11, Tryd.ntmps11
    go_wp2_with fail
    refine (awake_any _ HT.out).mono ?_
    rintro e w1 ⟨rfl, hb1⟩
    go_wp2_with fail
    go_ret
    exact ⟨rfl, hb1⟩
  have hdn : decide ((300 : Int) < (n : Int)) = false := decide_eq_false (by omega)
  by_cases hl2 : 300 < m
  · have hd : decide ((300 : Int) < (m : Int)) = true := decide_eq_true (by omega)
    have hlz : (300 : Int) < (m : Int) := by omega
    go_enter Tryd.func11, Tryd.ntmps11
    go_wp2_with fail
    refine (awake_any _ HT.out).mono ?_
    rintro e w1 ⟨rfl, hb1⟩
    go_wp2_with fail
    go_ret
    exact ⟨rfl, hb1⟩
  have hdm : decide ((300 : Int) < (m : Int)) = false := decide_eq_false (by omega)
  by_cases hnm : n = m
  · subst hnm
    obtain ⟨rc, rf, rl, hres⟩ : ∃ rc rf rl, errs (List.zipWith (· ^^^ ·) xs ys) = (rc, rf, rl) := ⟨_, _, _, rfl⟩
    have E1 := fun w h1 h2 => box (errors_any a b n ca cb xs ys hn hm HX.out HY.out (by omega) w h1 h2)
    have E2 := fun w h1 h2 => box (errors_any b a n cb ca ys xs hm hn HY.out HX.out (by omega) w h1 h2)
    have E3 := fun w h1 h2 => box (rerrors_any a b n ca cb xs ys hn hm HX.out HY.out (by omega) w h1 h2)
    rw [zip_comm] at E2
    rw [hres] at E1 E2 E3
    clear hres
    go_enter Tryd.func11, Tryd.ntmps11
    go_wp2_with fail
    refine (awake_any _ HT.out).mono ?_
    rintro e w1 ⟨rfl, hb1⟩
    go_wp2_with fail
    refine (E1 w1 (HC.out.below hb1) (HD.out.below hb1)).out.mono ?_
    rintro e w2 ⟨rfl, hb2⟩
    have kb2 : Below w.heap.size w w2 := hb1.trans (hb2.mono hb1.size)
    go_wp2_with fail
    refine (E2 w2 (HD.out.below kb2) (HC.out.below kb2)).out.mono ?_
    rintro e w3 ⟨rfl, hb3⟩
    have kb3 : Below w.heap.size w w3 := kb2.trans (hb3.mono kb2.size)
    go_wp2_with fail
    refine (E3 w3 (HC.out.below kb3) (HD.out.below kb3)).out.mono ?_
    rintro e w4 ⟨rfl, hb4⟩
    have kb4 : Below w.heap.size w w4 := kb3.trans (hb4.mono kb3.size)
    go_wp2_with fail
    go_ret
    exact ⟨rfl, kb4⟩
  · have hz : ((n : Int) != (m : Int)) = true := by simp; omega
    have E1 := fun w => box (errors_ne a b n m ca cb hnm w)
    have E2 := fun w => box (errors_ne b a m n cb ca (Ne.symm hnm) w)
    go_enter Tryd.func11, Tryd.ntmps11
    go_wp2_with fail
    refine (awake_any _ HT.out).mono ?_
    rintro e w1 ⟨rfl, hb1⟩
    go_wp2_with fail
    refine (E1 w1).out.mono ?_
    rintro e w2 ⟨rfl, hb2⟩
    have kb2 : Below w.heap.size w w2 := hb1.trans (hb2.mono hb1.size)
    go_wp2_with fail
    refine (E2 w2).out.mono ?_
    rintro e w3 ⟨rfl, hb3⟩
    have kb3 : Below w.heap.size w w3 := kb2.trans (hb3.mono kb2.size)
    go_wp2_with fail
    go_ret
    exact ⟨rfl, kb3⟩
end Go.Proofs.YtilacnfcohlbnaaDoor
