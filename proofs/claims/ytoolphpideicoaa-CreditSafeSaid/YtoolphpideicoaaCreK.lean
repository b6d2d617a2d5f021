/- CreditSafe: its walk. -/
import Derived.Test.YtoolphpideicoaaCreJ
namespace Go.Proofs.Ytoolphpideicoaa
open Go.RowKit

set_option maxRecDepth 100000 in
set_option maxHeartbeats 4000000 in
theorem safe_any (y0 : Nat) (h0 : y0 < 256) (a : Option Addr) (m cp : Nat) (xs : List Nat) (hm : xs.length = m) (hx : ∀ x ∈ xs, x < 256) (w : World) (hin : In w a xs) :
    Calls Try.prog 6 #[nU8 y0, .slice a m cp] w fun e w' => e = .returned (.bool true) ∧ Below w.heap.size w w' := by
  obtain ⟨n, hn⟩ : ∃ n, 1 + y0 % 8 = n := ⟨_, rfl⟩
  have hn2 : 1 + (y0 : Int) % 8 = (n : Int) := by omega
  have hn3 : 1 ≤ n ∧ n ≤ 8 := by omega
  clear hn
  have AW := box (awake_any w)
  have HI := box hin
  go_enter Try.func6, Try.ntmps6
  go_wp2_with fail
  refine AW.out.mono ?_
  rintro e w1 ⟨rfl, b1⟩
  have B1 := box b1
  have I1 := box (HI.out.below b1)
  clear AW b1 HI hin
  by_cases h60 : 60 < m
  · go_wp2_with fail
    go_ret
    exact ⟨rfl, B1.out⟩
  · have ST := box (story_any n hn3.1 hn3.2 a m cp xs hm hx (by omega) w1 I1.out)
    go_wp2_with fail
    refine ST.out.mono ?_
    rintro e w2 ⟨D, g, h, c, gt, ht, t, fly, vl, L, rfl, -, hS⟩
    have FB := box (B1.out.trans (hS.bel.mono B1.out.size))
    clear ST hS
    go_wp2_with fail
    go_ret
    exact ⟨rfl, FB.out⟩
end Go.Proofs.Ytoolphpideicoaa
