/- CableNew: its walk. -/
import Derived.Test.YtoeedbimhihbhaaCabM
import Derived.Test.YtoeedbimhihbhaaCabC
namespace Go.Proofs.Ytoeedbimhihbhaa
open Go.RowKit

set_option maxRecDepth 100000 in
set_option maxHeartbeats 8000000 in
theorem new_walk (d : Int) (a : Option Addr) (n c : Nat) (fs : List Ft) (hn : fs.length = n) (hnil : a = none → c = 0) (w : World) (hc : FtsIn w a fs) :
    Calls Try.prog 3 #[.int .i64 d, .slice a n c] w fun e w' => e = .returned (.bool true) ∧ Below w.heap.size w w' := by
  have HC := box hc
  have HNIL := box hnil
  clear hc hnil
  go_enter Try.func3, Try.ntmps3
  go_wp2_with fail
  refine (awake_any w).mono ?_
  rintro e w1 ⟨rfl, hb⟩
  have HB := box hb
  by_cases hbig : 150 < n
  · have d1 : decide ((150 : Int) < (n : Int)) = true := decide_eq_true (by omega)
    go_wp2_with fail
    refine (awake_any w1).mono ?_
    rintro e w2 ⟨rfl, hb2⟩
    go_wp2_with fail
    go_ret
    exact ⟨rfl, HB.out.trans (hb2.mono HB.out.size)⟩
  have d1 : decide ((150 : Int) < (n : Int)) = false := decide_eq_false (by omega)
  clear hb
  by_cases hr : d < 1 ∨ 100 < d
  · have NW := box (new_range d hr a n c w1)
    by_cases h1 : d < 1
    · have d2 : decide (d < 1) = true := decide_eq_true h1
      clear hr h1
      go_wp2_with fail
      refine NW.out.mono ?_
      rintro e w2 ⟨rfl, hb2⟩
      go_wp2_with fail
      go_ret
      exact ⟨rfl, HB.out.trans (hb2.mono HB.out.size)⟩
    · have d2 : decide (d < 1) = false := decide_eq_false h1
      have d3 : decide (100 < d) = true := decide_eq_true (by omega)
      clear hr h1
      go_wp2_with fail
      refine NW.out.mono ?_
      rintro e w2 ⟨rfl, hb2⟩
      go_wp2_with fail
      go_ret
      exact ⟨rfl, HB.out.trans (hb2.mono HB.out.size)⟩
  have h0 : 1 ≤ d := by omega
  have h1 : d ≤ 100 := by omega
  obtain ⟨D, rfl⟩ := Int.eq_ofNat_of_zero_le (show 0 ≤ d by omega)
  have d2 : decide ((D : Int) < 1) = false := decide_eq_false (by omega)
  have d3 : decide (100 < (D : Int)) = false := decide_eq_false (by omega)
  clear hr
  have HV := fun w' (hb : Below w1.heap.size w1 w') => box (rvalid_any a n c fs hn (by omega) w' ((HC.out.below HB.out).below hb))
  cases hok : okF fs
  · have NW := box (new_arg D h0 h1 a n c fs hn (by omega) hok w1 (HC.out.below HB.out))
    rw [hok] at HV
    clear hok
    go_wp2_with fail
    refine NW.out.mono ?_
    rintro e w2 ⟨rfl, hb2⟩
    go_wp2_with fail
    refine (HV w2 hb2).out.mono ?_
    rintro e w3 ⟨rfl, hb3⟩
    go_wp2_with fail
    go_ret
    exact ⟨rfl, (HB.out.trans (hb2.mono HB.out.size)).trans (hb3.mono (Nat.le_trans HB.out.size hb2.size))⟩
  · have NW := box (new_ok D (by omega) (by omega) a n c fs hn (by omega) HNIL.out hok w1 (HC.out.below HB.out))
    rw [hok] at HV
    clear hok
    go_wp2_with fail
    refine NW.out.mono ?_
    rintro e w2 ⟨g, fa, fc, rfl, hb2, x2⟩
    have X2 := box x2
    clear x2
    go_wp2_with fail
    refine (HV w2 hb2).out.mono ?_
    rintro e w3 ⟨rfl, hb3⟩
    have X3 := box (X2.out.keep hb3)
    have K3 := box ((HB.out.trans (hb2.mono HB.out.size)).trans (hb3.mono (Nat.le_trans HB.out.size hb2.size)))
    go_wp2_with fail
    refine (up_any _ _ _ _ _ _ X3.out).mono ?_
    rintro e w4 ⟨rfl, rfl⟩
    go_wp2_with fail
    refine (flying_any _ _ _ _ _ _ X3.out).mono ?_
    rintro e w4 ⟨rfl, rfl⟩
    go_wp2_with fail
    refine (lost_any _ _ _ _ _ _ X3.out).mono ?_
    rintro e w4 ⟨rfl, rfl⟩
    go_wp2_with fail
    go_ret
    exact ⟨by simp, K3.out⟩
end Go.Proofs.Ytoeedbimhihbhaa
