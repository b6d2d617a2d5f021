/- The walk of LinecodeMeasures. -/
import Derived.Test.YthjhgmcikfekmaaDoorLinZ
namespace Go.Proofs.YthjhgmcikfekmaaDoor
open Go.RowKit

set_option maxHeartbeats 8000000 in
theorem measures_walk (a : Option Addr) (n c : Nat) (xs : List Nat) (hn : xs.length = n) (hx : ∀ x ∈ xs, x < 256) (w : World) (hc : In w a xs) (hT : HasTab w) :
    Calls Tryd.prog 10 #[.slice a n c] w fun e w' => e = .returned (.bool true) ∧ Below w.heap.size w w' := by
  have HT := box hT
  have HX := box hx
  have HC := box hc
  clear hT hx hc
  by_cases hl : 200 < n
  · have hd : decide ((200 : Int) < (n : Int)) = true := decide_eq_true (by omega)
    go_enter Tryd.func10, Tryd.ntmps10
    go_wp2_with fail
    refine (awake_any _ HT.out).mono ?_
    rintro e w1 ⟨rfl, hb1⟩
    go_wp2_with fail
    go_ret
    exact ⟨rfl, hb1⟩
  have hd : decide ((200 : Int) < (n : Int)) = false := decide_eq_false (by omega)
  obtain ⟨r, hr⟩ : ∃ r, balB xs = r := ⟨_, rfl⟩
  obtain ⟨l, hlr⟩ : ∃ l, runN xs = l := ⟨_, rfl⟩
  have hbig : n ≤ 1000 := by omega
  have B1 := fun w' h => box (balanced_any a n c xs hn HX.out hbig w' h r hr)
  have B2 := fun w' h => box (rbalanced_any a n c xs hn HX.out hbig w' h r hr)
  have R1 := fun w' h => box (run_any a n c xs hn HX.out hbig w' h l hlr)
  have R2 := fun w' h => box (rrun_any a n c xs hn HX.out hbig w' h l hlr)
  clear hr hlr
  go_enter Tryd.func10, Tryd.ntmps10
  go_wp2_with fail
  refine (awake_any _ HT.out).mono ?_
  rintro e w1 ⟨rfl, kb⟩
  go_wp2_with fail
  refine (B1 _ (HC.out.below kb)).out.mono ?_
  rintro e w2 ⟨rfl, t, rfl⟩
  have kb2 := below_drewN t kb
  go_wp2_with fail
  refine (B2 _ (HC.out.below kb2)).out.mono ?_
  rintro e w3 ⟨rfl, hb3⟩
  have kb3 : Below w.heap.size w w3 := kb2.trans (hb3.mono kb2.size)
  go_wp2_with fail
  refine (R1 _ (HC.out.below kb3)).out.mono ?_
  rintro e w4 ⟨rfl, t4, rfl⟩
  have kb4 := below_drewN t4 kb3
  go_wp2_with fail
  refine (R2 _ (HC.out.below kb4)).out.mono ?_
  rintro e w5 ⟨rfl, hb5⟩
  have kb5 : Below w.heap.size w w5 := kb4.trans (hb5.mono kb4.size)
  go_wp2_with fail
  go_ret
  exact ⟨rfl, kb5⟩
end Go.Proofs.YthjhgmcikfekmaaDoor
