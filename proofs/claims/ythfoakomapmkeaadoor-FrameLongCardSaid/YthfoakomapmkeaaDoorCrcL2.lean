/- The walk of CrcResidue. -/
import Derived.Test.YthfoakomapmkeaaDoorCrcP
import Derived.Test.YthfoakomapmkeaaDoorCrcN
namespace Go.Proofs.YthfoakomapmkeaaDoor.Crc
open Go.RowKit

/-- What an owned row is good for: its form, and its bytes. -/
theorem Own.form {B : Nat} {w : World} {v : Value} {xs : List Nat} (h : Own B w v xs) : ∃ (a : Option Addr) (c : Nat), v = .slice a xs.length c ∧ In w a xs := by
  have h' : w.ownsRow B 5 1 v xs.length (xs.map nU8) := h
  have hc := h'
  obtain ⟨_, hcase⟩ := h'
  rcases hcase with ⟨rfl, h0⟩ | ⟨g, cap, cur, rfl, hg, hh, hn, hcap, hsz, htake⟩
  · exact ⟨none, 0, by rw [h0], .inl (List.length_eq_zero_iff.1 h0)⟩
  · refine ⟨some ⟨g, 0, none⟩, cap, rfl, .inr ⟨_, rfl, fun i hi => ?_⟩⟩
    rw [add_off, hc.cellAt i (by omega)]
    simp [List.getD_eq_getElem?_getD, List.getElem?_eq_getElem hi]

end Go.Proofs.YthfoakomapmkeaaDoor.Crc
