/- The reference's decimal and Text: their contracts. -/
import Derived.Test.YtlglagihekadhaaDoorTexM
import Derived.Test.YtlglagihekadhaaDoorProg
import Derived.WalkKit
import Derived.Below
import Derived.Lib.Hide
import Derived.IntWalk
import Derived.Lib.ItoaLen
namespace Go.Proofs.YtlglagihekadhaaDoor
open Go.RowKit Go.Lib

/-- A fact that no tactic looks into. -/
structure Box (p : Prop) : Prop where
  out : p
theorem box {p : Prop} (h : p) : Box p := ⟨h⟩
/-- A string from its bytes. -/
abbrev st (l : List UInt8) : Value := .string ⟨l.toArray⟩

theorem digit_piece : ∀ u < 10, ByteArray.extract ⟨#[48, 49, 50, 51, 52, 53, 54, 55, 56, 57]⟩ u (u + 1) = ⟨[UInt8.ofNat (48 + u)].toArray⟩ := by decide +kernel
theorem digit_run (u : Nat) (h : u < 10) (w : World) : (Instr.slice 9 (.string ⟨#[48, 49, 50, 51, 52, 53, 54, 55, 56, 57]⟩) (some (.int .i64 (u : Int))) (some (.int .i64 ((u : Int) + 1))) none).run Tryd.prog w = .ok (st [UInt8.ofNat (48 + u)]) w := by
  rw [run_slice_string w 9 _ .i64 .i64 (u : Int) ((u : Int) + 1) Tryd.underlying9 (by omega) (by omega) (by show (u : Int) + 1 ≤ ((10 : Nat) : Int); omega)]
  rw [show ((u : Int)).toNat = u by omega, show ((u : Int) + 1).toNat = u + 1 by omega, digit_piece u h]

set_option maxHeartbeats 4000000 in
theorem decimal_small (u : Nat) (h : u < 10) (w : World) :
    Calls Tryd.prog 22 #[.int .i64 (u : Int)] w fun e w' => e = .returned (st (decDigits u)) ∧ w' = w := by
  have hs := digit_run u h
  rw [decDigits_one h]
  generalize [UInt8.ofNat (48 + u)] = sd at hs
  have e1 : (u : Int).tmod 10 = (u : Int) := by rw [Int.tmod_eq_emod_of_nonneg (by omega)]; omega
  have hd1 : decide ((u : Int) < 0) = false := decide_eq_false (by omega)
  have hz1 : (u : Int) < 10 := by omega
  have hz0 : (0 : Int) ≤ (u : Int) := by omega
  generalize hz : (u : Int) = z at e1 hd1 hz1 hz0 hs
  clear hz h
  go_enter Tryd.func22, Tryd.ntmps22
  go_wp2_with fail
  go_ret
  exact ⟨rfl, rfl⟩

theorem bytes_add (a b : List UInt8) : (⟨a.toArray⟩ ++ ⟨b.toArray⟩ : ByteArray) = ⟨(a ++ b).toArray⟩ := by
  apply ByteArray.ext
  simp

set_option maxHeartbeats 400000 in
theorem decimal_big (u v : Nat) (hv : v = u / 10) (h : ¬ u < 10) (hu : u ≤ 1152921504606846976) (ih : ∀ w, Calls Tryd.prog 22 #[.int .i64 (v : Int)] w fun e w' => e = .returned (st (decDigits v)) ∧ w' = w) (w : World) :
    Calls Tryd.prog 22 #[.int .i64 (u : Int)] w fun e w' => e = .returned (st (decDigits u)) ∧ w' = w := by
  have hs := digit_run (u % 10) (by omega)
  have hE : decDigits u = decDigits v ++ [UInt8.ofNat (48 + u % 10)] := by rw [decDigits, dif_neg h, hv]
  rw [hE]
  have hl1 : (decDigits v).length ≤ 20 := by rw [decDigits_length]; exact nDigits_le20 v (by omega)
  have IH := fun w => box (ih w)
  clear ih hE
  generalize decDigits v = sv at IH hl1
  have e1 : (u : Int).tmod 10 = ((u % 10 : Nat) : Int) := by rw [Int.tmod_eq_emod_of_nonneg (by omega)]; push_cast; rfl
  have e2 : (u : Int).tdiv 10 = (v : Int) := by rw [Int.tdiv_eq_ediv_of_nonneg (by omega), hv]; push_cast; rfl
  have hl2 : [UInt8.ofNat (48 + u % 10)].length = 1 := rfl
  generalize [UInt8.ofNat (48 + u % 10)] = sd at hs hl2
  have hr0 : (0 : Int) ≤ ((u % 10 : Nat) : Int) := by omega
  have hr1 : ((u % 10 : Nat) : Int) < 10 := by omega
  generalize hr : ((u % 10 : Nat) : Int) = r at e1 hs hr0 hr1
  have hd1 : decide ((u : Int) < 0) = false := decide_eq_false (by omega)
  have hd2 : decide ((u : Int) < 10) = false := decide_eq_false (by omega)
  have hz0 : (0 : Int) ≤ (u : Int) := by omega
  have hz1 : (u : Int) ≤ 1152921504606846976 := by omega
  generalize hz : (u : Int) = z at e1 e2 hd1 hd2 hz0 hz1
  have hwy : wrap64 (v : Int) = (v : Int) := by unfold wrap64; omega
  have hy0 : (0 : Int) ≤ (v : Int) := by omega
  have hy1 : (v : Int) ≤ 1152921504606846976 := by omega
  generalize hy : (v : Int) = y at e2 IH hwy hy0 hy1
  have hadd := bytes_add sv sd
  have hsz : (⟨sv.toArray⟩ : ByteArray).size ≤ 20 := by simpa [ByteArray.size] using hl1
  have hsd : (⟨sd.toArray⟩ : ByteArray).size = 1 := by simpa [ByteArray.size] using hl2
  clear hz h hr hy hv hu hl1 hl2
  go_enter Tryd.func22, Tryd.ntmps22
  go_wp2_with fail
  refine (IH w).out.mono ?_
  rintro e w2 ⟨rfl, hw2⟩
  have hw2' := hw2.symm
  subst hw2'
  go_wp2_with fail
  go_ret
  exact ⟨rfl, rfl⟩

theorem decimal_nat (u : Nat) : u ≤ 1152921504606846976 → ∀ w, Calls Tryd.prog 22 #[.int .i64 (u : Int)] w fun e w' => e = .returned (st (decDigits u)) ∧ w' = w := by
  induction u using Nat.strongRecOn with
  | _ u ih =>
    intro hu w
    by_cases h : u < 10
    · exact decimal_small u h w
    · exact decimal_big u (u / 10) rfl h hu (ih (u / 10) (by omega) (by omega)) w

set_option maxHeartbeats 400000 in
theorem decimal_neg (u : Nat) (h1 : 1 ≤ u) (hu : u ≤ 1152921504606846976) (w : World) :
    Calls Tryd.prog 22 #[.int .i64 (-(u : Int))] w fun e w' => e = .returned (st (45 :: decDigits u)) ∧ w' = w := by
  have IH := fun w => box (decimal_nat u hu w)
  have hl1 : (decDigits u).length ≤ 20 := by rw [decDigits_length]; exact nDigits_le20 u (by omega)
  generalize decDigits u = sv at IH hl1
  have hd1 : decide (-(u : Int) < 0) = true := decide_eq_true (by omega)
  have hz0 : -(u : Int) < 0 := by omega
  have hz1 : -1152921504606846976 ≤ -(u : Int) := by omega
  have hsub : (0 : Int) - -(u : Int) = (u : Int) := by omega
  have hy1 : (u : Int) ≤ 1152921504606846976 := by omega
  have hy0 : (0 : Int) ≤ (u : Int) := by omega
  have hneg : - -(u : Int) = (u : Int) := by omega
  have hwy : wrap64 (u : Int) = (u : Int) := by unfold wrap64; omega
  generalize hz : -(u : Int) = z at hd1 hz0 hz1 hsub hneg
  generalize hy : (u : Int) = y at hsub IH hy1 hy0 hneg hwy
  have hadd := bytes_add [45] sv
  have hsz : (⟨sv.toArray⟩ : ByteArray).size ≤ 20 := by simpa [ByteArray.size] using hl1
  have hnot : ¬ (9223372036854775807 < 1 + sv.length) := by omega
  clear hz hy h1 hu hl1
  go_enter Tryd.func22, Tryd.ntmps22
  go_wp2_with fail
  refine (IH w).out.mono ?_
  rintro e w2 ⟨rfl, hw2⟩
  have hw2' := hw2.symm
  subst hw2'
  go_wp2_with fail
  go_ret
  exact ⟨rfl, rfl⟩

theorem decimal_any (n : Int) (h1 : -1152921504606846976 ≤ n) (h2 : n ≤ 1152921504606846976) (w : World) :
    Calls Tryd.prog 22 #[.int .i64 n] w fun e w' => e = .returned (st (itoa n)) ∧ w' = w := by
  by_cases hn : n < 0
  · obtain ⟨u, rfl⟩ : ∃ u : Nat, n = -(u : Int) := ⟨n.natAbs, by omega⟩
    rw [itoa_neg u (by omega)]
    exact decimal_neg u (by omega) (by omega) w
  · obtain ⟨u, rfl⟩ : ∃ u : Nat, n = (u : Int) := ⟨n.toNat, by omega⟩
    rw [itoa_nonneg]
    exact decimal_nat u (by omega) w
end Go.Proofs.YtlglagihekadhaaDoor
