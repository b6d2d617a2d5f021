/- Opening and shutting the arguments of layer 2's laws; the table, out of the row's condition. -/
import Derived.Test.YtilacnfcohlbnaaDoorCrcE
import Derived.Test.YtilacnfcohlbnaaDoorRows
import Derived.Test.YtilacnfcohlbnaaDoorCards
import Derived.Test.YtilacnfcohlbnaaDoorTie
import Derived.ProofKit
import Derived.OpenShut
import Derived.ChangeSame
import Derived.Lib.SmallJoins
import Derived.Lib.LaidTab
import Derived.LaidMore
import Derived.Stop.Joined
import Derived.SevenTiedAt
namespace Go.Proofs.YtilacnfcohlbnaaDoor
open Go.ChangeShapes Go.WideShapes Go.ChangeAt Go.RowKit Go.Joins

theorem Tryd.own : ownKnob Tryd.prog.godebug = none := by kernel_rfl
theorem Tryd.laidOut : laidOutB Tryd.prog = true := by kernel_rfl
theorem Tryd.cellsU8 : Tryd.prog.cellsOf 5 = 1 := by kernel_rfl
theorem gTab : Tryd.prog.globalNamed "fairlink/crc.remainders" = some 0 := by kernel_rfl

abbrev laids : List (String × DataW Unit) := [("fairlink/crc.remainders", Rows.laid_fairlink_crc_remainders)]
def tabZ : List Int := List.map (fun x : Nat => (x : Int)) tab
theorem laid_eq : laids = [("fairlink/crc.remainders", Lib.tabData .u32 tabZ)] := rfl
theorem tabZ_getD : ∀ i < 16, tabZ.getD i 0 = ((shn 4 i : Nat) : Int) := by decide

/-- The row's condition gives the table. -/
theorem hasTab_of {W : World} (h : laidMetH Tryd.prog laids W) : HasTab W := by
  rw [MakeChecks.laidMetH_plain _ _ _ (by kernel_rfl)] at h
  have hT := Lib.tabIs_of_head (k := .u32) (zs := tabZ) (t := 42) (e := 24) (n := 16) gTab (by kernel_rfl) Tryd.underlying42 Tryd.underlying24 (by kernel_rfl) (by kernel_rfl) h
  intro i hi
  rw [hT.cell gTab i hi, tabZ_getD i hi]

/-- The door's own heap meets the condition. -/
theorem door_met (os : Os) (args : Array Value) : laidMetH Tryd.prog laids ((World.doorLaid Tryd.prog 14 os).forCall (fun _ _ => 0) ⟨#[], args, []⟩).memory :=
  laidMetH_of_parts3 (fuel := 8) (laidMet_of_run' 8 (by kernel_rfl) (by kernel_rfl)) (by kernel_rfl) (by kernel_rfl)

/-- A slice of bytes that came in. -/
theorem bytes_of {H : Type} {enc : TypeId × Value → H} {w : World} {base : Nat} {spare : Nat → Bool} {held : Bool} {fuel : Nat} {a : Option Addr} {len cap : Nat} {x : DataW H × List MemPlace}
    (h : DataW.trod enc Tryd.prog w base spare held fuel 22 [.slice a len cap] = some x) : ∃ xs : List Nat, xs.length = len ∧ (∀ x ∈ xs, x < 256) ∧ In w a xs ∧ len ≤ cap ∧ (a = none → cap = 0) := by
  rcases open_ints Tryd.underlying22 Tryd.underlying5 Tryd.cellsU8 h with ⟨hcs, _⟩ | ⟨b, len', cap', zs, hcs, _, hl, hm, hz, _, hcell, hwz⟩
  · simp at hcs
    obtain ⟨rfl, rfl, rfl⟩ := hcs
    exact ⟨[], rfl, by simp, .inl rfl, Nat.le_refl _, fun _ => rfl⟩
  · simp at hcs
    obtain ⟨rfl, rfl, rfl⟩ := hcs
    have hlz : len ≤ zs.length := by rw [hz]; split <;> omega
    have wz : ∀ z ∈ zs, 0 ≤ z ∧ z < 256 := fun z hz' => by
      have := hwz z hz'
      simp [Lit.wf, IntKind.min, IntKind.max, IntKind.signed, IntKind.bits] at this
      omega
    refine ⟨(zs.take len).map Int.toNat, by simp; omega, ?_, .inr ⟨b, rfl, ?_⟩, hl, fun h => by cases h⟩
    · intro x hx
      obtain ⟨z, hz', rfl⟩ := List.mem_map.1 hx
      have := wz z (List.mem_of_mem_take hz')
      omega
    · intro i hi
      simp at hi
      have hi' : i < zs.length := by omega
      rw [hcell i hi']
      have h1 := wz _ (List.getElem_mem hi')
      simp [List.getD_eq_getElem?_getD, hi', show i < len by omega]
      omega
end Go.Proofs.YtilacnfcohlbnaaDoor
