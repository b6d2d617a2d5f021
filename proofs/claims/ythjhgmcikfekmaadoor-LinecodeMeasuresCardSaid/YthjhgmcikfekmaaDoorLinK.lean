/- Opening and shutting the arguments of layer 3's laws; the table, out of the row's condition. -/
import Derived.Test.YthjhgmcikfekmaaDoorLinD
import Derived.Test.YthjhgmcikfekmaaDoorRows
import Derived.Test.YthjhgmcikfekmaaDoorCards
import Derived.Test.YthjhgmcikfekmaaDoorTie
import Derived.ProofKit
import Derived.OpenShut
import Derived.ChangeSame
import Derived.Lib.SmallJoins
import Derived.Lib.LaidTab
import Derived.LaidMore
import Derived.Stop.Joined
import Derived.SevenTiedAt
namespace Go.Proofs.YthjhgmcikfekmaaDoor
open Go.ChangeShapes Go.WideShapes Go.ChangeAt Go.RowKit Go.Joins

theorem Tryd.own : ownKnob Tryd.prog.godebug = none := by kernel_rfl
theorem Tryd.laidOut : laidOutB Tryd.prog = true := by kernel_rfl
theorem Tryd.cellsU8 : Tryd.prog.cellsOf 5 = 1 := by kernel_rfl
theorem gTab : Tryd.prog.globalNamed "fairlink/linecode.valid" = some 0 := by kernel_rfl

abbrev laids : List (String × DataW Unit) := [("fairlink/linecode.valid", Rows.laid_fairlink_linecode_valid)]
def tabZ : List Int := List.map (fun x : Nat => (x : Int)) syms
theorem laid_eq : laids = [("fairlink/linecode.valid", Lib.tabData .u8 tabZ)] := rfl
theorem tabZ_map : (tabZ.map fun z => Value.int .u8 z).toArray = (syms.map nU8).toArray := rfl

/-- The row's condition gives the table. -/
theorem hasTab_of {W : World} (h : laidMetH Tryd.prog laids W) : HasTab W := by
  rw [MakeChecks.laidMetH_plain _ _ _ (by kernel_rfl)] at h
  have hT := Lib.tabIs_of_head (k := .u8) (zs := tabZ) (t := 47) (e := 5) (n := 20) gTab (by kernel_rfl) Tryd.underlying47 Tryd.underlying5 (by kernel_rfl) (by kernel_rfl) h
  unfold Lib.TabIs World.var? at hT
  rw [gTab] at hT
  simp only [Option.bind_some] at hT
  split at hT
  · rename_i cs t fr hc
    exact ⟨fr, t, by rw [hc, Option.some.inj hT, tabZ_map]⟩
  · cases hT

/-- The door's own heap meets the condition. -/
theorem door_met (os : Os) (args : Array Value) : laidMetH Tryd.prog laids ((World.doorLaid Tryd.prog 14 os).forCall (fun _ _ => 0) ⟨#[], args, []⟩).memory :=
  laidMetH_of_parts3 (fuel := 8) (laidMet_of_run' 8 (by kernel_rfl) (by kernel_rfl)) (by kernel_rfl) (by kernel_rfl)

/-- A slice of bytes that came in. -/
theorem bytes_of {H : Type} {enc : TypeId × Value → H} {w : World} {base : Nat} {spare : Nat → Bool} {held : Bool} {fuel : Nat} {a : Option Addr} {len cap : Nat} {x : DataW H × List MemPlace}
    (h : DataW.trod enc Tryd.prog w base spare held fuel 23 [.slice a len cap] = some x) : ∃ xs : List Nat, xs.length = len ∧ (∀ x ∈ xs, x < 256) ∧ In w a xs ∧ len ≤ cap ∧ (a = none → cap = 0) := by
  rcases open_ints Tryd.underlying23 Tryd.underlying5 Tryd.cellsU8 h with ⟨hcs, _⟩ | ⟨b, len', cap', zs, hcs, _, hl, hm, hz, _, hcell, hwz⟩
  · simp at hcs
    obtain ⟨rfl, rfl, rfl⟩ := hcs
    exact ⟨[], rfl, by simp, .inl rfl, Nat.le_refl _, fun _ => rfl⟩
  · simp at hcs
    obtain ⟨rfl, rfl, rfl⟩ := hcs
    have hlz : len ≤ zs.length := by rw [hz]; split <;> omega
    have wz : ∀ z ∈ zs, 0 ≤ z ∧ z < 256 := fun z hz' => by
      have := hwz z hz'
      simp [Lit.wf, IntKind.min, IntKind.max, IntKind.signed, IntKind.bits] at this
      omega
    refine ⟨(zs.take len).map Int.toNat, by simp; omega, ?_, .inr ⟨b, rfl, ?_⟩, hl, fun h => by cases h⟩
    · intro x hx
      obtain ⟨z, hz', rfl⟩ := List.mem_map.1 hx
      have := wz z (List.mem_of_mem_take hz')
      omega
    · intro i hi
      simp at hi
      have hi' : i < zs.length := by omega
      rw [hcell i hi']
      have h1 := wz _ (List.getElem_mem hi')
      simp [List.getD_eq_getElem?_getD, hi', show i < len by omega]
      omega
end Go.Proofs.YthjhgmcikfekmaaDoor
