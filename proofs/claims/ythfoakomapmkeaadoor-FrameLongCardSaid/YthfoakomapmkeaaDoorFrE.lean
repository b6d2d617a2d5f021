/- Equal packets: the contract of the reference's Same. -/
import Derived.Test.YthfoakomapmkeaaDoorFrD
import Derived.Laws.BytesArg
namespace Go.Proofs.YthfoakomapmkeaaDoor
open Go.RowKit

/-- The string of some bytes. -/
def strOf (xs : List Nat) : ByteArray := strOfNums (xs.map fun x : Nat => (x : Int))
theorem conv_any {w : World} {a : Option Addr} {n c : Nat} {xs : List Nat} (hn : xs.length = n) (h : In w a xs) :
    (convert 22 9 (.slice a n c)).run Tryd.prog w = .ok (.string (strOf xs)) w := by
  by_cases h0 : n = 0
  · subst h0
    obtain rfl := List.length_eq_zero_iff.1 hn
    rw [run_convert_bytes_string w 22 9 _ a 0 c Tryd.underlying22 Tryd.underlying5 Tryd.underlying9]
    cases a <;> simp [Conv.bytesToString, loadCells] <;> rfl
  · rcases h with rfl | ⟨⟨b, off, spot⟩, rfl, hat⟩
    · exact absurd hn.symm h0
    have hspot : spot = none := by simpa [Addr.add] using World.cell?_spot (hat 0 (by omega))
    subst hspot
    have hplain : ∀ j, (⟨b, off, none⟩ : Addr).add j = ⟨b, off + j, none⟩ := fun j => by unfold Addr.add; split <;> simp_all
    refine run_convert_bytes_arg w 22 5 Tryd.underlying22 Tryd.underlying5 b off n c _ (by simpa using hn) (fun i hi => ?_) 9 Tryd.underlying9
    have := hat i (by omega)
    rw [hplain] at this
    rw [this]
    simp [List.getD_eq_getElem?_getD, List.getElem?_eq_getElem (show i < xs.length by omega)]

set_option maxRecDepth 100000 in
set_option maxHeartbeats 8000000 in
theorem psame_any (k : Nat) (c n v : Int) (a b : Option Addr) (l ca cb : Nat) (pay : List Nat) (hl : pay.length = l) (w : World) (ha : In w a pay) (hb : In w b pay) :
    Calls Tryd.prog 24 #[pkV k c n v a l ca, pkV k c n v b l cb] w fun e w' => e = .returned (.bool true) ∧ Below w.heap.size w w' := by
  have kb : Below w.heap.size w ((w.alloc (.cells (pkC k c n v a l ca) 24)).alloc (.cells (pkC k c n v b l cb) 24)) := ((Below.refl _ _).alloc (Nat.le_refl _) _).alloc (size_alloc _ _ (Nat.le_refl _)) _
  have c1 := conv_any (c := ca) hl (ha.below kb)
  have c2 := conv_any (c := cb) hl (hb.below kb)
  clear ha hb
  have b1 : ((k : Int) == (k : Int)) = true := by simp
  have b2 : (c == c) = true := by simp
  have b3 : (n == n) = true := by simp
  have b4 : (v == v) = true := by simp
  go_enter Tryd.func24, Tryd.ntmps24
  go_wp2_with fail
  go_ret
  exact ⟨by simp, kb⟩
end Go.Proofs.YthfoakomapmkeaaDoor
