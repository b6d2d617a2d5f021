/- The reference's Symbols and Index: their contracts. -/
import Derived.Test.YthfoakomapmkeaaDoorLinMem
namespace Go.Proofs.YthfoakomapmkeaaDoor
open Go.RowKit

set_option maxHeartbeats 8000000 in
theorem symbols_any (w : World) :
    Calls Tryd.prog 61 #[] w fun e w' => ∃ v, e = .returned v ∧ Own w.heap.size w' v 20 syms ∧ Below w.heap.size w w' := by
  go_enter Tryd.func61, Tryd.ntmps61
  go_wp2_with fail
  go_loopw [1, 2] (fun t1 t2 wr => ∃ n : Nat, n ≤ 64 ∧ t2 = .int .i64 n ∧ Box (Own w.heap.size wr t1 (symsTo n).length (symsTo n)) ∧ Below w.heap.size w wr) (fun _ t2 _ => 64 - (intOf t2).toNat)
  case atStart => exact ⟨0, by omega, rfl, box (World.ownsRow_nil _ _ _ _), Below.refl _ _⟩
  case round =>
    obtain ⟨n, hn, rfl, hown, kb⟩ := hrel
    by_cases hlt : n < 64
    · go_wp2_with fail
      go_loop [3, 4] (fun t3 t4 => ∃ k : Nat, k ≤ 6 ∧ t4 = .int .i64 k ∧ t3 = .int .i64 (on n k : Nat)) (fun _ t4 => 6 - (intOf t4).toNat)
      case atStart => exact ⟨0, by omega, rfl, rfl⟩
      case round =>
        obtain ⟨k, hk, rfl, rfl⟩ := hrel
        by_cases hk6 : k < 6
        · obtain ⟨y, hy⟩ : ∃ y, n / 2 ^ k = y := ⟨_, rfl⟩
          have ey : (n : Int) / 2 ^ k = (y : Int) := by rw [← hy]; push_cast; rfl
          have ho : on n (k + 1) = on n k + y % 2 := by rw [← hy]; rfl
          have l1 := on_le n k
          have HO := box ho
          clear hy ho
          generalize on n k = c at HO l1
          have ly := Nat.mod_lt y (show 0 < 2 by decide)
          have e2 : (y : Int) % 2 = ((y % 2 : Nat) : Int) := by omega
          generalize y % 2 = z at e2 HO ly
          go_wp2_with fail
          go_round
          case rel => exact ⟨k + 1, by omega, by go_num, by rw [HO.out]; push_cast; rfl⟩
          case measure => simp [intOf]; omega
        · have hk' : k = 6 := by omega
          subst hk'
          have ho := symsTo_succ n
          have hl := symsTo_length n
          by_cases h3 : on n 6 = 3
          · rw [if_pos h3] at ho
            rw [h3]
            have HS := box ho
            clear ho h3
            go_wp2_with (at_builtin; refine wpList_append_new (o := ⟨some 26, _, _, _, _, _⟩) rfl (.tmp 22) (.tmp 25) rfl w.heap.size _ _ _ rfl hown.out [n] 1 rfl (0, 0) rfl (by omega) w kb kb.size ?_; intro v3 w3 ho3 hb3 hs3)
            go_roundw
            case rel => exact ⟨n + 1, by omega, by go_num, box (by rw [HS.out]; have h := ho3.out; simpa using h), hb3⟩
            case measure => simp [intOf]; omega
          · rw [if_neg h3] at ho
            have HS := box ho
            have hb : decide (((on n 6 : Nat) : Int) = 3) = false := decide_eq_false (by omega)
            have hb2 : (((on n 6 : Nat) : Int) == 3) = false := by rw [beq_eq_false_iff_ne]; omega
            generalize on n 6 = c at hb hb2
            clear ho h3
            go_wp2_with fail
            go_roundw
            case rel => exact ⟨n + 1, by omega, by go_num, box (by rw [HS.out]; exact hown.out), kb⟩
            case measure => simp [intOf]; omega
    · have hn' : n = 64 := by omega
      subst hn'
      rw [symsTo_64] at hown
      go_wp2_with fail
      go_ret
      exact ⟨_, rfl, hown.out, kb⟩

/-- What the reference's Index answers. -/
def idxI (s : Nat) : Int := if idx s < 20 then (idx s : Int) else -1

set_option maxHeartbeats 8000000 in
theorem index_any (s : Nat) (hs : s < 256) (w : World) :
    Calls Tryd.prog 51 #[nU8 s] w fun e w' => e = .returned (.int .i64 (idxI s)) ∧ Below w.heap.size w w' := by
  obtain ⟨res, hres⟩ : ∃ res, idxI s = res := ⟨_, rfl⟩
  have HR := box hres
  rw [hres]
  clear hres
  go_enter Tryd.func51, Tryd.ntmps51
  go_wp2_with fail
  refine (symbols_any w).mono ?_
  rintro e w1 ⟨v, rfl, hown, kb⟩
  obtain ⟨a, c, rfl, hin, _, _⟩ := own_form (n := 20) rfl hown
  obtain ⟨b, rfl, hat⟩ : ∃ b, a = some b ∧ At w1 b syms := by
    rcases hin with h | h
    · cases h
    · exact h
  have HA := box hat
  clear hat hin hown
  go_wp2_with fail
  go_loop [4] (fun t4 => ∃ k : Nat, k ≤ 20 ∧ t4 = .int .i64 k ∧ Hid (∀ j < k, syms.getD j 0 ≠ s)) (fun t4 => 20 - (intOf t4).toNat)
  case atStart => exact ⟨0, by omega, rfl, Lib.hid (fun j hj => by omega)⟩
  case round =>
    obtain ⟨k, hk, rfl, hne⟩ := hrel
    by_cases hlt : k < 20
    · have hc := HA.out k hlt
      obtain ⟨y, hy⟩ : ∃ y, syms.getD k 0 = y := ⟨_, rfl⟩
      have HY := box hy
      rw [hy] at hc
      clear hy
      by_cases hys : y = s
      · have hb : ((y : Int) == (s : Int)) = true := by simp [hys]
        have hi := idx_first hne.out hlt (HY.out.trans hys)
        have HV := box (show res = (k : Int) by rw [← HR.out]; unfold idxI; rw [hi, if_pos hlt])
        clear hi hys
        go_wp2_with fail
        go_ret
        exact ⟨by rw [HV.out]; rfl, kb⟩
      · have hb : ((y : Int) == (s : Int)) = false := by simp; omega
        go_wp2_with fail
        go_round
        case rel =>
          refine ⟨k + 1, by omega, by go_num, Lib.hid (fun j hj => ?_)⟩
          rcases Nat.lt_or_ge j k with h | h
          · exact hne.out j h
          · obtain rfl : j = k := by omega
            rw [HY.out]; exact hys
        case measure => simp [intOf]; omega
    · have hk20 : k = 20 := by omega
      have hi := idx_none hs (fun j hj => hne.out j (by omega))
      have HV := box (show res = -1 by rw [← HR.out]; unfold idxI; rw [hi]; rfl)
      clear hi
      subst hk20
      go_wp2_with fail
      go_ret
      exact ⟨by rw [HV.out]; rfl, kb⟩
end Go.Proofs.YthfoakomapmkeaaDoor
