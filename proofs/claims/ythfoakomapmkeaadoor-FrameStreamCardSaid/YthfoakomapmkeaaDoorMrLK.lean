/- Layer 4's laws: the two tables, out of the row's condition. -/
import Derived.Test.YthfoakomapmkeaaDoorMrK
import Derived.Test.YthfoakomapmkeaaDoorMrD
import Derived.Test.YthfoakomapmkeaaDoorRows
import Derived.Test.YthfoakomapmkeaaDoorCards
import Derived.Test.YthfoakomapmkeaaDoorTie
import Derived.Lib.LaidTab
import Derived.LaidMore
import Derived.Stop.Joined
import Derived.SevenTiedAt
namespace Go.Proofs.YthfoakomapmkeaaDoor
open Go.ChangeShapes Go.WideShapes Go.ChangeAt Go.RowKit Go.Joins

theorem Tryd.own : ownKnob Tryd.prog.godebug = none := by kernel_rfl
theorem Tryd.laidOut : laidOutB Tryd.prog = true := by kernel_rfl
theorem gTab : Tryd.prog.globalNamed "fairlink/linecode.valid" = some 0 := by kernel_rfl
theorem gTabC : Tryd.prog.globalNamed "fairlink/crc.remainders" = some 1 := by kernel_rfl

abbrev laids : List (String × DataW Unit) := [("fairlink/linecode.valid", Rows.laid_fairlink_linecode_valid), ("fairlink/crc.remainders", Rows.laid_fairlink_crc_remainders)]
def tabZ : List Int := List.map (fun x : Nat => (x : Int)) syms
def tabC : List Int := List.map (fun x : Nat => (x : Int)) Crc.tab
theorem laid_eq : laids.filter (fun x => x.1 == "fairlink/linecode.valid") = [("fairlink/linecode.valid", Lib.tabData .u8 tabZ)] := by rfl
theorem laid_eqC : laids.filter (fun x => x.1 == "fairlink/crc.remainders") = [("fairlink/crc.remainders", Lib.tabData .u32 tabC)] := by rfl
theorem tabZ_map : (tabZ.map fun z => Value.int .u8 z).toArray = (syms.map nU8).toArray := rfl
theorem tabC_getD : ∀ i < 16, tabC.getD i 0 = ((Crc.shn 4 i : Nat) : Int) := by decide

/-- The row's condition gives the tables. -/
theorem hasTab_of {W : World} (h : laidMetH Tryd.prog laids W) : HasTab W := by
  rw [MakeChecks.laidMetH_plain _ _ _ (by kernel_rfl)] at h
  have h := h.filter (fun x => x.1 == "fairlink/linecode.valid")
  rw [laid_eq] at h
  have hT := Lib.tabIs_of_head (k := .u8) (zs := tabZ) (t := 82) (e := 5) (n := 20) gTab (by kernel_rfl) Tryd.underlying82 Tryd.underlying5 (by kernel_rfl) (by kernel_rfl) h
  unfold Lib.TabIs World.var? at hT
  rw [gTab] at hT
  simp only [Option.bind_some] at hT
  split at hT
  · rename_i cs t fr hc
    exact ⟨fr, t, by rw [hc, Option.some.inj hT, tabZ_map]⟩
  · cases hT
theorem hasTabC_of {W : World} (h : laidMetH Tryd.prog laids W) : Crc.HasTab W := by
  rw [MakeChecks.laidMetH_plain _ _ _ (by kernel_rfl)] at h
  have h := h.filter (fun x => x.1 == "fairlink/crc.remainders")
  rw [laid_eqC] at h
  have hT := Lib.tabIs_of_head (k := .u32) (zs := tabC) (t := 91) (e := 69) (n := 16) gTabC (by kernel_rfl) Tryd.underlying91 Tryd.underlying69 (by kernel_rfl) (by kernel_rfl) h
  intro i hi
  rw [hT.cell gTabC i hi, tabC_getD i hi]

/-- The door's own heap meets the condition. -/
theorem door_met (os : Os) (args : Array Value) : laidMetH Tryd.prog laids ((World.doorLaid Tryd.prog 28 os).forCall (fun _ _ => 0) ⟨#[], args, []⟩).memory :=
  laidMetH_of_parts3 (fuel := 8) (laidMet_of_run' 8 (by kernel_rfl) (by kernel_rfl)) (by kernel_rfl) (by kernel_rfl)
end Go.Proofs.YthfoakomapmkeaaDoor
