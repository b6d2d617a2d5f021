/- The laws' first call: the chapter's examples hold. -/
import Derived.Test.YtilacnfcohlbnaaDoorCrcE
import Derived.Deep.RegionHeld3
import Derived.Lib.SlBytesConst
namespace Go.Proofs.YtilacnfcohlbnaaDoor
open Go.RowKit

theorem keepa {w : World} {a : Addr} {v : Value} (o : Obj) (h : w.cell? a = some v) : (w.alloc o).cell? a = some v := (World.cell?_alloc_lt _ _ _ (World.block_lt_of_cell? w a h)).trans h
theorem crc_nine : crc [49, 50, 51, 52, 53, 54, 55, 56, 57] = 3421780262 := by decide +kernel
theorem errs_ex : errs (List.zipWith (· ^^^ ·) [15] [30]) = (2, 0, 5) := by decide +kernel

theorem add_off (b i : Nat) : (⟨b, 0, none⟩ : Addr).add i = ⟨b, i, none⟩ := by
  unfold Addr.add
  by_cases h : i = 0
  · subst h; simp
  · simp [h]
theorem at_mark (w : World) (xs : List Nat) (t : TypeId) (fr : Nat × Nat) (n : Nat) (hn : n = w.heap.size) : At (w.alloc (.cells (xs.map nU8).toArray t fr)) ⟨n, 0, none⟩ xs := by
  subst hn
  intro i hi
  rw [add_off, World.cell?_alloc_mark]
  simp [hi, List.getD_eq_getElem?_getD]

set_option maxHeartbeats 4000000 in
theorem awake_any (w : World) (hT : HasTab w) : Calls Tryd.prog 12 #[] w fun e w' => e = .returned (.bool true) ∧ Below w.heap.size w w' := by
  have HT := Lib.hid hT
  clear hT
  have hka := @World.cell?_alloc_some
  go_enter Tryd.func12, Tryd.ntmps12
  go_wp2_with fail
  refine (errors_any _ _ 1 1 1 [15] [30] rfl rfl (by simp) (by simp) (by decide) _ ?_ ?_).mono ?_
  · refine .inr ⟨_, rfl, fun i hi => ?_⟩
    exact keepa _ (at_mark w [15] 5 (0, 0) _ rfl i hi)
  · exact .inr ⟨_, rfl, at_mark _ [30] 5 (0, 0) _ (by simp)⟩
  rw [errs_ex]
  rintro e w1 ⟨rfl, hb1⟩
  have kb : Below w.heap.size w w1 := by
    refine Below.trans ?_ (hb1.mono (by simp; omega))
    exact ((Below.refl _ _).alloc (Nat.le_refl _) _).alloc (by simp) _
  have hcv := Lib.run_convert_bytes_const w1 22 5 #[.int .u8 49, .int .u8 50, .int .u8 51, .int .u8 52, .int .u8 53, .int .u8 54, .int .u8 55, .int .u8 56, .int .u8 57] 9 9 Tryd.underlying22 Tryd.underlying5
  go_wp2_with fail
  refine (sum_any _ 9 9 [49, 50, 51, 52, 53, 54, 55, 56, 57] rfl (by simp) (by decide) _ (.inr ⟨_, rfl, at_mark _ _ _ _ _ rfl⟩) ?_).mono ?_
  · exact (HT.out.below kb).below ((Below.refl _ _).alloc (Nat.le_refl _) _)
  rw [crc_nine]
  rintro e w2 ⟨rfl, rfl⟩
  go_wp2_with fail
  refine (sum_any none 0 0 [] rfl (by simp) (by decide) _ (.inl rfl) ?_).mono ?_
  · exact (HT.out.below kb).below ((Below.refl _ _).alloc (Nat.le_refl _) _)
  rw [show crc [] = 0 by decide]
  rintro e w3 ⟨rfl, rfl⟩
  go_wp2_with fail
  go_ret
  exact ⟨rfl, kb.alloc kb.size _⟩
end Go.Proofs.YtilacnfcohlbnaaDoor
