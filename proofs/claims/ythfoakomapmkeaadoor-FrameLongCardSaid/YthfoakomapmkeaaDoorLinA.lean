/- Data, Control and Value of layer 3: their contracts. -/
import Derived.Test.YthfoakomapmkeaaDoorProg
import Derived.Test.YthfoakomapmkeaaDoorLinM
import Derived.WalkKit
import Derived.Below
import Derived.LoopTactic
import Derived.RegionTactic
import Derived.Laws.Rows
import Derived.Laws.BitsAllLaws
import Derived.Laws.ShiftsVarLaws
import Derived.Lib.Hide
namespace Go.Proofs.YthfoakomapmkeaaDoor
open Go.RowKit

/-- A value of kind u8 from a natural number. -/
abbrev nU8 (x : Nat) : Value := .int .u8 (x : Int)
/-- The table lies in the world. -/
def HasTab (w : World) : Prop := ∃ fr t, w.heap[0]? = some (.cells (syms.map nU8).toArray t fr)
theorem HasTab.cell {w : World} (h : HasTab w) (i : Nat) (hi : i < 20) : w.cell? ⟨0, i, none⟩ = some (nU8 (syms.getD i 0)) := by
  obtain ⟨fr, t, h⟩ := h
  rw [cell_of_row w 0 i _ t fr h]
  have : i < syms.length := hi
  simp [List.getD_eq_getElem?_getD, List.getElem?_eq_getElem this]
/-- A fact that the walk's simplification does not look into. -/
structure Box (p : Prop) : Prop where
  out : p
theorem box {p : Prop} (h : p) : Box p := ⟨h⟩


set_option maxHeartbeats 1000000 in
theorem data_ok (i : Nat) (hi : i < 16) (w : World) (hT : HasTab w) :
    Calls Tryd.prog 36 #[.int .i64 i] w fun e w' => e = .returned (.tuple #[nU8 (syms.getD i 0), .int .i64 0]) ∧ w = w' := by
  have hc := hT.cell i (by omega)
  clear hT
  have lt := syms_lt i (by omega)
  generalize syms.getD i 0 = s at hc lt
  have d1 : decide ((i : Int) < 0) = false := decide_eq_false (by omega)
  have d2 : decide ((16 : Int) ≤ (i : Int)) = false := decide_eq_false (by omega)
  go_enter Tryd.func36, Tryd.ntmps36
  go_wp2_with fail
  go_ret2
  exact ⟨rfl, rfl⟩
set_option maxHeartbeats 1000000 in
theorem data_bad (n : Int) (h : n < 0 ∨ 16 ≤ n) (w : World) :
    Calls Tryd.prog 36 #[.int .i64 n] w fun e w' => e = .returned (.tuple #[nU8 0, .int .i64 2]) ∧ w = w' := by
  by_cases h0 : n < 0
  · have d1 : decide (n < 0) = true := decide_eq_true h0
    clear h
    go_enter Tryd.func36, Tryd.ntmps36
    go_wp2_with fail
    go_ret2
    exact ⟨rfl, rfl⟩
  · have d1 : decide (n < 0) = false := decide_eq_false h0
    have d2 : decide (16 ≤ n) = true := decide_eq_true (by omega)
    clear h h0
    go_enter Tryd.func36, Tryd.ntmps36
    go_wp2_with fail
    go_ret2
    exact ⟨rfl, rfl⟩

set_option maxHeartbeats 1000000 in
theorem control_ok (i : Nat) (hi : i < 4) (w : World) (hT : HasTab w) :
    Calls Tryd.prog 29 #[.int .i64 i] w fun e w' => e = .returned (.tuple #[nU8 (syms.getD (16 + i) 0), .int .i64 0]) ∧ w = w' := by
  have hc := hT.cell (16 + i) (by omega)
  clear hT
  have lt := syms_lt (16 + i) (by omega)
  generalize syms.getD (16 + i) 0 = s at hc lt
  have d1 : decide ((i : Int) < 0) = false := decide_eq_false (by omega)
  have d2 : decide (3 < (i : Int)) = false := decide_eq_false (by omega)
  have d3 : (16 + (i : Int)).toNat = 16 + i := by omega
  go_enter Tryd.func29, Tryd.ntmps29
  go_wp2_with fail
  go_ret2
  exact ⟨rfl, rfl⟩

set_option maxHeartbeats 1000000 in
theorem control_bad (n : Int) (h : n < 0 ∨ 4 ≤ n) (w : World) :
    Calls Tryd.prog 29 #[.int .i64 n] w fun e w' => e = .returned (.tuple #[nU8 0, .int .i64 2]) ∧ w = w' := by
  by_cases h0 : n < 0
  · have d1 : decide (n < 0) = true := decide_eq_true h0
    clear h
    go_enter Tryd.func29, Tryd.ntmps29
    go_wp2_with fail
    go_ret2
    exact ⟨rfl, rfl⟩
  · have d1 : decide (n < 0) = false := decide_eq_false h0
    have d2 : decide (3 < n) = true := decide_eq_true (by omega)
    clear h h0
    go_enter Tryd.func29, Tryd.ntmps29
    go_wp2_with fail
    go_ret2
    exact ⟨rfl, rfl⟩

/-- What Value answers: value, kind, error. -/
def valueV (k : Nat) : Value := if k < 16 then .tuple #[.int .i64 (k : Int), .bool false, .int .i64 0] else if k < 20 then .tuple #[.int .i64 ((k : Int) - 16), .bool true, .int .i64 0] else .tuple #[.int .i64 0, .bool false, .int .i64 3]

theorem Tryd.sizeTab : (Tryd.prog.info? 82).map (·.size) = some 20 := by kernel_rfl
theorem Tryd.lenTab : Tryd.prog.arrayLen 82 = 20 := by kernel_rfl

theorem index_tab (w : World) (cs : Array Value) (k : Nat) (hk : k < 20) (v : Value) (hv : cs[k]? = some v) : (Instr.index 82 (.agg cs) (.int .i64 k)).run Tryd.prog w = .ok v w := by
  have h1 : (0 : Int) ≤ (k : Int) ∧ (k : Int) < 20 := by omega
  simp [Instr.index, run_underlying Tryd.underlying82, asIntOf, h1, part, go_sem, hv]
  intro h
  omega

set_option maxHeartbeats 4000000 in
theorem value_any (s : Nat) (hs : s < 256) (w : World) (hT : HasTab w) :
    Calls Tryd.prog 46 #[nU8 s] w fun e w' => e = .returned (valueV (idx s)) ∧ w = w' := by
  obtain ⟨fr, t, hg⟩ := hT
  obtain ⟨res, hres⟩ : ∃ res, valueV (idx s) = res := ⟨_, rfl⟩
  have HR := box hres
  rw [hres]
  clear hres
  obtain ⟨cs, hcs⟩ : ∃ cs, (syms.map nU8).toArray = cs := ⟨_, rfl⟩
  have HCS := box hcs
  rw [hcs] at hg
  have hsz : (Tryd.prog.info? 82).map (·.size) = some cs.size := by rw [← hcs]; exact Tryd.sizeTab
  clear hcs
  have HG := box hg
  have HSZ := box hsz
  clear hg hsz
  go_enter Tryd.func46, Tryd.ntmps46
  go_wp2_with (refine wpList_load_row (o := ⟨some 7, _, _, _, _, _⟩) rfl 82 (.global 0) rfl 0 rfl t cs fr _ HG.out Tryd.underlying82 rfl HSZ.out ?_)
  go_loop [8] (fun t8 => ∃ k : Nat, k ≤ 20 ∧ t8 = .int .i64 k ∧ Hid (∀ j < k, syms.getD j 0 ≠ s)) (fun t8 => 20 - (intOf t8).toNat)
  case atStart => exact ⟨0, by omega, rfl, Lib.hid (fun j hj => by omega)⟩
  case round =>
    obtain ⟨k, hk, rfl, hne⟩ := hrel
    by_cases hlt : k < 20
    · have hcs : cs[k]? = some (nU8 (syms.getD k 0)) := by
        rw [← HCS.out]
        simp [List.getD_eq_getElem?_getD, List.getElem?_eq_getElem (show k < syms.length from hlt)]
      have hix := index_tab w cs k hlt _ hcs
      clear hcs
      obtain ⟨y, hy⟩ : ∃ y, syms.getD k 0 = y := ⟨_, rfl⟩
      have HY := box hy
      rw [hy] at hix
      clear hy
      by_cases hys : y = s
      · have hb : ((y : Int) != (s : Int)) = false := by simp [hys]
        have hi := idx_first hne.out hlt (HY.out.trans hys)
        by_cases h16 : k < 16
        · have hd : decide ((k : Int) < 16) = true := decide_eq_true (by omega)
          have HV := box (show res = .tuple #[.int .i64 (k : Int), .bool false, .int .i64 0] by rw [← HR.out, hi]; unfold valueV; rw [if_pos h16])
          clear hi hys
          go_wp2_with fail
          refine bodyPost_ret (v := .tuple #[.int .i64 (k : Int), .bool false, .int .i64 0]) (by simp [results, Tryd.results46, go_sem]) rfl ⟨by rw [HV.out], rfl⟩
        · have hd : decide ((k : Int) < 16) = false := decide_eq_false (by omega)
          have HV := box (show res = .tuple #[.int .i64 ((k : Int) - 16), .bool true, .int .i64 0] by rw [← HR.out, hi]; unfold valueV; rw [if_neg h16, if_pos hlt])
          clear hi hys
          go_wp2_with fail
          refine bodyPost_ret (v := .tuple #[.int .i64 ((k : Int) - 16), .bool true, .int .i64 0]) (by simp [results, Tryd.results46, go_sem]) rfl ⟨by rw [HV.out], rfl⟩
      · have hb : ((y : Int) != (s : Int)) = true := by simp; omega
        go_wp2_with fail
        go_round
        case rel =>
          refine ⟨k + 1, by omega, by go_num, Lib.hid (fun j hj => ?_)⟩
          rcases Nat.lt_or_ge j k with h | h
          · exact hne.out j h
          · obtain rfl : j = k := by omega
            rw [HY.out]; exact hys
        case measure => simp [intOf]; omega
    · have hk20 : k = 20 := by omega
      have hi := idx_none hs (fun j hj => hne.out j (by omega))
      have HV := box (show res = .tuple #[.int .i64 0, .bool false, .int .i64 3] by rw [← HR.out, hi]; rfl)
      clear hi
      subst hk20
      go_wp2_with fail
      refine bodyPost_ret (v := .tuple #[.int .i64 0, .bool false, .int .i64 3]) (by simp [results, Tryd.results46, go_sem]) rfl ⟨by rw [HV.out], rfl⟩
end Go.Proofs.YthfoakomapmkeaaDoor
