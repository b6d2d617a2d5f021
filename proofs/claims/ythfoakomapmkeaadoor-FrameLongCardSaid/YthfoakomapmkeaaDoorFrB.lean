/- The reference's five and number: their contracts. -/
import Derived.Test.YthfoakomapmkeaaDoorFrA
import Derived.Test.YthfoakomapmkeaaDoorFrM
namespace Go.Proofs.YthfoakomapmkeaaDoor
open Go.RowKit

set_option maxHeartbeats 8000000 in
theorem five_any (n : Nat) (w : World) :
    Calls Tryd.prog 40 #[.int .i64 n] w fun e w' => ∃ v, e = .returned v ∧ Own w.heap.size w' v 5 (five n) ∧ Below w.heap.size w w' := by
  go_enter Tryd.func40, Tryd.ntmps40
  go_wp2_with fail
  go_loopw [3, 4] (fun t3 t4 wr => ∃ r : Nat, r ≤ 5 ∧ t4 = .int .i64 ((r : Int) - 1) ∧ Box (Own w.heap.size wr t3 (5 - r) (fiveTo n (5 - r))) ∧ Below w.heap.size w wr) (fun _ t4 _ => (intOf t4 + 1).toNat)
  case atStart => exact ⟨5, by omega, rfl, box (World.ownsRow_nil _ _ _ _), Below.refl _ _⟩
  case round =>
    obtain ⟨r, hr, rfl, hown, kb⟩ := hrel
    cases r with
    | zero =>
      have e : ((0 : Nat) : Int) - 1 = -1 := rfl
      rw [e]
      go_wp2_with fail
      go_ret
      exact ⟨_, rfl, hown.out, kb⟩
    | succ s =>
      have e : ((s + 1 : Nat) : Int) - 1 = (s : Int) := by omega
      rw [e]
      clear e
      have HE := box (show fiveTo n (5 - s) = fiveTo n (5 - (s + 1)) ++ [n / 2 ^ (8 * s) % 256] by
        rw [show 5 - s = 5 - (s + 1) + 1 by omega, fiveTo_succ, show 4 - (5 - (s + 1)) = s by omega])
      obtain ⟨y, hy⟩ : ∃ y, n / 2 ^ (8 * s) = y := ⟨_, rfl⟩
      have ey : (n : Int) / 2 ^ (8 * s) = (y : Int) := by rw [← hy]; push_cast; rfl
      have e8 : (8 * (s : Int)).toNat = 8 * s := by omega
      rw [hy] at HE
      clear hy
      have e2 : (y : Int) % 256 = ((y % 256 : Nat) : Int) := by omega
      generalize y % 256 = z at e2 HE
      go_wp2_with (at_builtin; refine wpList_append_new (o := ⟨some 16, _, _, _, _, _⟩) rfl (.tmp 9) (.tmp 15) rfl w.heap.size _ _ _ rfl hown.out [z] 1 rfl (0, 0) rfl (by omega) w kb kb.size ?_; intro v3 w3 ho3 hb3 hs3)
      go_roundw
      case rel => exact ⟨s, by omega, by go_num, box (by rw [HE.out]; have h := ho3.out; rwa [show 5 - s = 5 - (s + 1) + 1 by omega]), hb3⟩
      case measure => simp [intOf]

set_option maxHeartbeats 4000000 in
theorem number_any (b : Addr) (m c : Nat) (xs : List Nat) (hm : xs.length = m) (h5 : 5 ≤ m) (hx : ∀ x ∈ xs, x < 256) (w : World) (hc : At w b xs) :
    Calls Tryd.prog 45 #[.slice (some b) m c] w fun e w' => e = .returned (.int .i64 (numTo xs 5 : Nat)) ∧ w = w' := by
  have HX := box hx
  have HC := box hc
  obtain ⟨r, hr⟩ : ∃ r, numTo xs 5 = r := ⟨_, rfl⟩
  have HR := box hr
  rw [hr]
  clear hx hc hr
  go_enter Tryd.func45, Tryd.ntmps45
  go_wp2_with fail
  go_loop [3, 4] (fun t3 t4 => ∃ j q : Nat, j ≤ 5 ∧ t4 = .int .i64 j ∧ t3 = .int .i64 q ∧ q < 1099511627776 ∧ Box (numTo xs j = q)) (fun _ t4 => 5 - (intOf t4).toNat)
  case atStart => exact ⟨0, 0, by omega, rfl, rfl, by omega, box rfl⟩
  case round =>
    obtain ⟨j, q, hj, rfl, rfl, hq, hnum⟩ := hrel
    by_cases hlt : j < 5
    · have c1 := HC.out j (by omega)
      have HN := box (show numTo xs (j + 1) = 256 * q + xs.getD j 0 by simp only [numTo]; rw [hnum.out])
      have lx : xs.getD j 0 < 256 := by rw [List.getD_eq_getElem?_getD, List.getElem?_eq_getElem (by omega)]; exact HX.out _ (List.getElem_mem _)
      have lq : numTo xs (j + 1) < 1099511627776 := by
        have h1 := numTo_lt HX.out (j + 1) (by omega)
        have h2 : 256 ^ (j + 1) ≤ 256 ^ 5 := Nat.pow_le_pow_right (by decide) (by omega)
        have h3 : (256 : Nat) ^ 5 = 1099511627776 := by decide
        omega
      have hz : (j : Int) < (m : Int) := by omega
      generalize xs.getD j 0 = x at c1 HN lx
      go_wp2_with fail
      go_round
      case rel => exact ⟨j + 1, 256 * q + x, by omega, by go_num, by go_num, by rw [← HN.out]; exact lq, HN⟩
      case measure => simp [intOf]; omega
    · obtain rfl : j = 5 := by omega
      have HV := box (show r = q from HR.out.symm.trans hnum.out)
      go_wp2_with fail
      go_ret
      exact ⟨by rw [HV.out]; rfl, rfl⟩
end Go.Proofs.YthfoakomapmkeaaDoor
