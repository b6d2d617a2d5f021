/- The walk of LinecodeTable. -/
import Derived.Test.YthjhgmcikfekmaaDoorLinE
namespace Go.Proofs.YthjhgmcikfekmaaDoor
open Go.RowKit

theorem on_syms : ∀ i < 20, on (syms.getD i 0) 8 = 3 := by decide
theorem syms_up : ∀ i < 19, syms.getD i 0 < syms.getD (i + 1) 0 := by decide
theorem idx_high : ∀ s < 256, 64 ≤ s → idx s = 20 := by decide +kernel

set_option maxRecDepth 100000 in
set_option maxHeartbeats 8000000 in
theorem table_walk (q : Nat) (hq : q < 256) (w : World) (hT : HasTab w) :
    Calls Tryd.prog 4 #[nU8 q] w fun e w' => e = .returned (.bool true) ∧ Below w.heap.size w w' := by
  have HT := box hT
  clear hT
  go_enter Tryd.func4, Tryd.ntmps4
  go_wp2_with fail
  refine (awake_any _ HT.out).mono ?_
  rintro e w1 ⟨rfl, kb⟩
  have kT := HT.out.below kb
  go_wp2_with fail
  go_loop [3, 17] (fun t3 t17 => ∃ (i : Nat) (l : Int), i ≤ 20 ∧ t17 = .int .i64 i ∧ t3 = .int .i64 l ∧ -1 ≤ l ∧ l ≤ 63 ∧ Box (i < 20 → l < (syms.getD i 0 : Nat))) (fun _ t17 => 20 - (intOf t17).toNat)
  case atStart => exact ⟨0, -1, by omega, rfl, rfl, by omega, by omega, box (fun _ => by omega)⟩
  case round =>
    obtain ⟨i, l, hi, rfl, rfl, l0, l1, hl⟩ := hrel
    by_cases hlt : i < 20
    · have h1 := hl.out hlt
      have lt := syms_lt i hlt
      have V := value_any (syms.getD i 0) (by omega) w1 kT
      rw [idx_syms i hlt] at V
      have HV := box V
      clear V
      have HN : Box (i + 1 < 20 → ((syms.getD i 0 : Nat) : Int) < (syms.getD (i + 1) 0 : Nat)) := box (fun h => by have := syms_up i (by omega); omega)
      have HON := box (on_syms i hlt)
      by_cases h16 : i < 16
      · have D := box (data_ok i h16 w1 kT)
        have vv : valueV i = .tuple #[.int .i64 (i : Int), .bool false, .int .i64 0] := by unfold valueV; rw [if_pos h16]
        rw [vv] at HV
        clear vv
        generalize syms.getD i 0 = s at h1 lt HV HN HON D
        have d1 : decide ((i : Int) < 16) = true := decide_eq_true (by omega)
        have d2 : decide ((16 : Int) ≤ (i : Int)) = false := decide_eq_false (by omega)
        have d3 : decide ((63 : Int) < (s : Int)) = false := decide_eq_false (by omega)
        have d4 : decide ((s : Int) ≤ l) = false := decide_eq_false (by omega)
        have d5 : (i : Int) % 16 = (i : Int) := by omega
        go_wp2_with fail
        refine D.out.mono ?_
        rintro e w2 ⟨rfl, rfl⟩
        go_wp2_with fail
        go_loop [7, 33] (fun t7 t33 => ∃ b : Nat, b ≤ 8 ∧ t33 = .int .i64 b ∧ t7 = .int .i64 (on s b : Nat)) (fun _ t33 => 8 - (intOf t33).toNat)
        case atStart => exact ⟨0, by omega, rfl, rfl⟩
        case round =>
          obtain ⟨b, hb, rfl, rfl⟩ := hrel
          by_cases hb8 : b < 8
          · obtain ⟨y, hy⟩ : ∃ y, s / 2 ^ b = y := ⟨_, rfl⟩
            have ey : (s : Int) / 2 ^ b = (y : Int) := by rw [← hy]; push_cast; rfl
            have ho : on s (b + 1) = on s b + y % 2 := by rw [← hy]; rfl
            have l1 := on_le s b
            have HO := box ho
            clear hy ho
            generalize on s b = c at HO l1
            have ly := Nat.mod_lt y (show 0 < 2 by decide)
            have e2 : (y : Int) % 2 = ((y % 2 : Nat) : Int) := by omega
            generalize y % 2 = z at e2 HO ly
            go_wp2_with fail
            go_round
            case rel => exact ⟨b + 1, by omega, by go_num, by rw [HO.out]; push_cast; rfl⟩
            case measure => simp [intOf]; omega
          · have hb' : b = 8 := by omega
            subst hb'
            rw [HON.out]
            go_wp2_with fail
            refine HV.out.mono ?_
            rintro e w2 ⟨rfl, rfl⟩
            go_wp2_with fail
            go_round
            case rel => exact ⟨i + 1, s, by omega, by go_num, rfl, by omega, by omega, HN⟩
            case measure => simp [intOf]; omega
      · have C := control_ok (i - 16) (by omega) w1 kT
        rw [show 16 + (i - 16) = i by omega, show ((i - 16 : Nat) : Int) = (i : Int) - 16 by omega] at C
        have D := box C
        clear C
        have vv : valueV i = .tuple #[.int .i64 ((i : Int) - 16), .bool true, .int .i64 0] := by unfold valueV; rw [if_neg h16, if_pos hlt]
        rw [vv] at HV
        clear vv
        generalize syms.getD i 0 = s at h1 lt HV HN HON D
        have d1 : decide ((i : Int) < 16) = false := decide_eq_false (by omega)
        have d2 : decide ((16 : Int) ≤ (i : Int)) = true := decide_eq_true (by omega)
        have d3 : decide ((63 : Int) < (s : Int)) = false := decide_eq_false (by omega)
        have d4 : decide ((s : Int) ≤ l) = false := decide_eq_false (by omega)
        have d5 : (i : Int) % 16 = (i : Int) - 16 := by omega
        go_wp2_with fail
        refine D.out.mono ?_
        rintro e w2 ⟨rfl, rfl⟩
        go_wp2_with fail
        go_loop [7, 33] (fun t7 t33 => ∃ b : Nat, b ≤ 8 ∧ t33 = .int .i64 b ∧ t7 = .int .i64 (on s b : Nat)) (fun _ t33 => 8 - (intOf t33).toNat)
        case atStart => exact ⟨0, by omega, rfl, rfl⟩
        case round =>
          obtain ⟨b, hb, rfl, rfl⟩ := hrel
          by_cases hb8 : b < 8
          · obtain ⟨y, hy⟩ : ∃ y, s / 2 ^ b = y := ⟨_, rfl⟩
            have ey : (s : Int) / 2 ^ b = (y : Int) := by rw [← hy]; push_cast; rfl
            have ho : on s (b + 1) = on s b + y % 2 := by rw [← hy]; rfl
            have l1 := on_le s b
            have HO := box ho
            clear hy ho
            generalize on s b = c at HO l1
            have ly := Nat.mod_lt y (show 0 < 2 by decide)
            have e2 : (y : Int) % 2 = ((y % 2 : Nat) : Int) := by omega
            generalize y % 2 = z at e2 HO ly
            go_wp2_with fail
            go_round
            case rel => exact ⟨b + 1, by omega, by go_num, by rw [HO.out]; push_cast; rfl⟩
            case measure => simp [intOf]; omega
          · have hb' : b = 8 := by omega
            subst hb'
            rw [HON.out]
            go_wp2_with fail
            refine HV.out.mono ?_
            rintro e w2 ⟨rfl, rfl⟩
            go_wp2_with fail
            go_round
            case rel => exact ⟨i + 1, s, by omega, by go_num, rfl, by omega, by omega, HN⟩
            case measure => simp [intOf]; omega
    · have hi' : i = 20 := by omega
      subst hi'
      by_cases h192 : q < 192
      · have d1 : decide ((192 : Int) ≤ (q : Int)) = false := decide_eq_false (by omega)
        have V := value_any (64 + q) (by omega) w1 kT
        rw [idx_high (64 + q) (by omega) (by omega), show valueV 20 = .tuple #[.int .i64 0, .bool false, .int .i64 3] from rfl, show nU8 (64 + q) = .int .u8 (64 + (q : Int)) by show Value.int .u8 ((64 + q : Nat) : Int) = _; rw [Int.natCast_add]; rfl] at V
        have HV := box V
        clear V
        go_wp2_with fail
        refine HV.out.mono ?_
        rintro e w2 ⟨rfl, rfl⟩
        go_wp2_with fail
        go_ret
        exact ⟨rfl, kb⟩
      · obtain ⟨s, rfl⟩ : ∃ s, q = 192 + s := ⟨q - 192, by omega⟩
        have d1 : decide ((192 : Int) ≤ 192 + (s : Int)) = true := decide_eq_true (by omega)
        have es : (64 + (192 + (s : Int))) % 256 = (s : Int) := by omega
        have V := value_any s (by omega) w1 kT
        have hVC := value_cases s
        generalize valueV (idx s) = vv at V hVC
        rcases hVC with ⟨k, hk, rfl, _⟩ | ⟨k, hk0, hk, rfl, _⟩ | ⟨rfl, _⟩
        all_goals
          have HV := box V
          clear V
          go_wp2_with fail
          refine HV.out.mono ?_
          rintro e w2 ⟨rfl, rfl⟩
          go_wp2_with fail
          go_ret
          exact ⟨rfl, kb⟩
end Go.Proofs.YthjhgmcikfekmaaDoor
