/- The contract of awake: the chapter's examples hold. -/
import Derived.Test.YtlglagihekadhaaDoorRatG
namespace Go.Proofs.YtlglagihekadhaaDoor
open Go.RowKit Go.Shelf

set_option maxHeartbeats 1000000 in
theorem awake_any (w : World) : Calls Tryd.prog 4 #[] w fun e w' => e = .returned (.bool true) ∧ Below w.heap.size w w' := by
  have AD := add_any 3 4 5 6 (by decide) (by decide) (by decide) (by decide) (by decide) (by decide) (by decide) (by decide)
  rw [show addS 3 4 5 6 = (19, 12, 0) by decide +kernel] at AD
  have DI := div_any 3 4 (-3) 2 (by decide) (by decide) (by decide) (by decide) (by decide) (by decide) (by decide) (by decide)
  rw [show divS 3 4 (-3) 2 = (-1, 2, 0) by decide +kernel] at DI
  have FL := floor_any (-7) 2 (by decide) (by decide) (by decide) (by decide)
  rw [show floorS (-7) 2 = -4 by decide +kernel] at FL
  have HA := Lib.hid AD
  have HD := Lib.hid DI
  have HF := Lib.hid FL
  clear AD DI FL
  go_enter Tryd.func4, Tryd.ntmps4
  go_wp2_with fail
  refine (HA.out _).mono ?_
  rintro e w1 ⟨rfl, hb1⟩
  have y1 : w.heap.size ≤ w1.heap.size := hb1.size
  go_wp2_with fail
  refine (HD.out _).mono ?_
  rintro e w2 ⟨rfl, hb2⟩
  obtain ⟨hc2, hf2⟩ := bcell hb2
  have y2 : w1.heap.size + 1 ≤ w2.heap.size := by have := hb2.size; simp at this; omega
  have f0 : w1.heap.size < w2.heap.size := by omega
  go_wp2_with fail
  refine (HF.out _).mono ?_
  rintro e w3 ⟨rfl, hb3⟩
  obtain ⟨hc3, hf3⟩ := bcell hb3
  go_wp2_with fail
  go_ret
  replace hb2 := hb2.mono (B' := w.heap.size) (by (try simp) <;> omega)
  replace hb3 := hb3.mono (B' := w.heap.size) (by (try simp) <;> omega)
  clear hc2 hf2 hc3 hf3
  refine ⟨rfl, ?_⟩
  repeat (first | exact Below.refl _ _ | assumption | (refine Below.alloc ?_ (by (try simp) <;> omega) _) | (refine Below.setCell ?_ (by (try simp) <;> omega) _) | (refine Below.drew ?_) | (refine below_drewN _ ?_) | (refine Below.trans ?_ hb3) | (refine Below.trans ?_ hb2) | (refine Below.trans ?_ hb1))
end Go.Proofs.YtlglagihekadhaaDoor
