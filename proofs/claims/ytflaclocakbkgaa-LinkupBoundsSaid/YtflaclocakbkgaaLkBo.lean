/- LinkupBounds: its walk. -/
import Derived.Test.YtflaclocakbkgaaLkV
namespace Go.Proofs.Ytflaclocakbkgaa
open Go.RowKit

set_option maxHeartbeats 2000000 in
theorem bounds_any (i d : Int) (w : World) : Calls Try.prog 10 #[.int .i64 i, .int .i64 d] w fun e w' => e = .returned (.bool true) ∧ Below w.heap.size w w' := by
  have AW := box (awake_any w)
  have ES := eq_gr
  go_enter Try.func10, Try.ntmps10
  go_wp2_with fail
  refine AW.out.mono ?_
  rintro e w1 ⟨rfl, b1⟩
  have B1 := box b1
  clear AW b1
  by_cases h1 : i < 1
  · have hb : okNew i d = false := by unfold okNew okInc; simp; omega
    have CC := box (new_bad i d hb w1)
    go_wp2_with fail
    refine CC.out.mono ?_
    rintro e w2 ⟨rfl, rfl⟩
    clear CC
    go_wp2_with fail
    go_ret
    exact ⟨rfl, B1.out⟩
  by_cases h2 : 1099511627776 ≤ i
  · have hb : okNew i d = false := by unfold okNew okInc; simp; omega
    have CC := box (new_bad i d hb w1)
    go_wp2_with fail
    refine CC.out.mono ?_
    rintro e w2 ⟨rfl, rfl⟩
    clear CC
    go_wp2_with fail
    go_ret
    exact ⟨rfl, B1.out⟩
  by_cases h3 : d < 1
  · have hb : okNew i d = false := by unfold okNew okInc; simp; omega
    have CC := box (new_bad i d hb w1)
    go_wp2_with fail
    refine CC.out.mono ?_
    rintro e w2 ⟨rfl, rfl⟩
    clear CC
    go_wp2_with fail
    go_ret
    exact ⟨rfl, B1.out⟩
  by_cases h4 : 1000 < d
  · have hb : okNew i d = false := by unfold okNew okInc; simp; omega
    have CC := box (new_bad i d hb w1)
    go_wp2_with fail
    refine CC.out.mono ?_
    rintro e w2 ⟨rfl, rfl⟩
    clear CC
    go_wp2_with fail
    go_ret
    exact ⟨rfl, B1.out⟩
  obtain ⟨g, hg⟩ : ∃ g, w1.heap.size = g := ⟨_, rfl⟩
  have CN := box (new_s i.toNat d.toNat i d (by omega) (by omega) (by unfold MAXN; omega) B1.out B1.out.size hg)
  have TI := box (show ((i.toNat : Nat) : Int) = i from by omega)
  clear hg
  go_wp2_with fail
  refine CN.out.mono ?_
  rintro e w2 ⟨rfl, x, -⟩
  have X := box x
  clear x CN
  have CC := box (tick_l X.out (by show 0 ≤ 1000; omega) (by show 0 ≤ 1000000; omega) ⟨i.toNat, d.toNat, 0, 0, 0, 0, 0⟩ i 0 rfl TI.out rfl)
  go_wp2_with fail
  refine CC.out.mono ?_
  rintro e w3 ⟨rfl, x, -⟩
  replace X := box x
  clear x
  clear CC
  go_wp2_with fail
  go_ret
  exact ⟨rfl, X.out.bel⟩
end Go.Proofs.Ytflaclocakbkgaa
