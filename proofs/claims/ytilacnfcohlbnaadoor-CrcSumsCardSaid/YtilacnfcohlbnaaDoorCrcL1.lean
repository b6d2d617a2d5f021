/- The walk of CrcSums. -/
import Derived.Test.YtilacnfcohlbnaaDoorCrcW
import Derived.Test.YtilacnfcohlbnaaDoorCrcR
namespace Go.Proofs.YtilacnfcohlbnaaDoor
open Go.RowKit

set_option maxHeartbeats 4000000 in
theorem sums_walk (a : Option Addr) (n c : Nat) (xs : List Nat) (hn : xs.length = n) (hx : ∀ x ∈ xs, x < 256) (w : World) (hc : n ≤ 300 → In w a xs) (hT : HasTab w) :
    Calls Tryd.prog 3 #[.slice a n c] w fun e w' => e = .returned (.bool true) ∧ Below w.heap.size w w' := by
  have HT := Lib.hid hT
  have HX := Lib.hid hx
  have HC := Lib.hid hc
  clear hT hx hc
  by_cases hl : 300 < n
  · have hlz : (300 : Int) < (n : Int) := by omega
    have hd : decide ((300 : Int) < (n : Int)) = true := decide_eq_true hlz
    go_enter Tryd.func3, Tryd.ntmps3
    go_wp2_with fail
    refine (awake_any _ HT.out).mono ?_
    rintro e w1 ⟨rfl, hb1⟩
    go_wp2_with fail
    go_ret
    exact ⟨rfl, hb1⟩
  · have hd : decide ((300 : Int) < (n : Int)) = false := decide_eq_false (by omega)
    go_enter Tryd.func3, Tryd.ntmps3
    go_wp2_with fail
    refine (awake_any _ HT.out).mono ?_
    rintro e w1 ⟨rfl, hb1⟩
    have hI : In w1 a xs := (HC.out (by omega)).below hb1
    have HI := Lib.hid hI
    have HT1 := Lib.hid (HT.out.below hb1)
    clear hI
    go_wp2_with fail
    refine (sum_any a n c xs hn HX.out (by omega) _ HI.out HT1.out).mono ?_
    rintro e w2 ⟨rfl, hw2⟩
    have hw2' := hw2.symm
    subst hw2'
    go_wp2_with fail
    refine (rsum_any a n c xs hn HX.out (by omega) _ HI.out).mono ?_
    rintro e w2 ⟨rfl, hw2⟩
    have hw2' := hw2.symm
    subst hw2'
    go_wp2_with fail
    go_ret
    exact ⟨rfl, hb1⟩
end Go.Proofs.YtilacnfcohlbnaaDoor
