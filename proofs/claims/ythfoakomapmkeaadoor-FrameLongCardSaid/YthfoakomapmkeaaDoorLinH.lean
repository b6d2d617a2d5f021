/- The reference's Encode: its contract. -/
import Derived.Test.YthfoakomapmkeaaDoorLinG
namespace Go.Proofs.YthfoakomapmkeaaDoor
open Go.RowKit

theorem own_mono {B C : Nat} {w : World} {v : Value} {n : Nat} {xs : List Nat} (h : Own C w v n xs) (hBC : B ≤ C) : Own B w v n xs := by
  obtain ⟨hl, h⟩ := h
  rcases h with h | ⟨g, cap, cur, hv, hg, hh, hr⟩
  · exact ⟨hl, .inl h⟩
  · exact ⟨hl, .inr ⟨g, cap, cur, hv, Nat.le_trans hBC hg, hh, hr⟩⟩

set_option maxHeartbeats 8000000 in
theorem rencode_any (a : Option Addr) (n c : Nat) (xs : List Nat) (hn : xs.length = n) (hx : ∀ x ∈ xs, x < 256) (hbig : n ≤ 1000) (w : World) (hc : In w a xs) :
    Calls Tryd.prog 42 #[.slice a n c] w fun e w' => ∃ v, e = .returned v ∧ Own w.heap.size w' v (2 * n) (enc xs) ∧ Below w.heap.size w w' := by
  have HX := box hx
  have HC := box hc
  clear hx hc
  go_enter Tryd.func42, Tryd.ntmps42
  go_wp2_with fail
  refine (symbols_any w).mono ?_
  rintro e w1 ⟨v, rfl, hown, kb1⟩
  obtain ⟨la, lc, rfl, hin, _, _⟩ := own_form (n := 20) rfl hown
  obtain ⟨lb, rfl, hat⟩ : ∃ b, la = some b ∧ At w1 b syms := by
    rcases hin with h | h
    · cases h
    · exact h
  have HA := box hat
  clear hat hin hown
  go_wp2_with fail
  go_loopw [4, 5] (fun t4 t5 wr => ∃ k : Nat, k ≤ n ∧ t5 = .int .i64 k ∧ Box (Own w1.heap.size wr t4 (2 * k) (enc (xs.take k))) ∧ Below w1.heap.size w1 wr) (fun _ t5 _ => n - (intOf t5).toNat)
  case atStart => exact ⟨0, by omega, rfl, box (World.ownsRow_nil _ _ _ _), Below.refl _ _⟩
  case round =>
    obtain ⟨k, hk, rfl, hown, kb⟩ := hrel
    have kw : Below w.heap.size w wr := kb1.trans (kb.mono kb1.size)
    by_cases hlt : k < n
    · obtain ⟨b, rfl, h1⟩ := in_some (HC.out.below kw) (show k < xs.length by omega)
      have HE := box (enc_take (xs := xs) (k := k) (by omega))
      have lx := getD_lt HX.out (show k < xs.length by omega)
      generalize xs.getD k 0 = x at h1 HE lx
      have e1 : (x : Int).tmod 16 = ((x % 16 : Nat) : Int) := by rw [Int.tmod_eq_emod_of_nonneg (by omega)]; omega
      have e2 : (x : Int) / 16 = ((x / 16 : Nat) : Int) := by omega
      have c1 := keepc kb (HA.out (x / 16) (show x / 16 < 20 by omega))
      have c2 := keepc kb (HA.out (x % 16) (show x % 16 < 20 by omega))
      have l1 : x / 16 < 16 := by omega
      have l2 : x % 16 < 16 := by omega
      generalize syms.getD (x / 16) 0 = s1 at c1 HE
      generalize syms.getD (x % 16) 0 = s2 at c2 HE
      generalize x / 16 = q1 at e2 c1 l1
      generalize x % 16 = q2 at e1 c2 l2
      have l3 : (q1 : Int) < 20 := by omega
      have l4 : (q2 : Int) < 20 := by omega
      have w1' : IntKind.u8.wrap (q1 : Int) = (q1 : Int) := by rw [IntKind.wrap_u8]; omega
      have w2' : IntKind.u8.wrap (q2 : Int) = (q2 : Int) := by rw [IntKind.wrap_u8]; omega
      go_wp2_with fail
      have HOD := box hown.out.drew
      have kbd := kb.drew
      go_region_law (refine step_append_new (o := ⟨some 31, _, _, _, _, _⟩) rfl (.tmp 13) (.tmp 30) rfl w1.heap.size _ _ _ rfl HOD.out [s1, s2] 2 rfl (0, 0) rfl (by omega) w1 kbd kbd.size ?_; intro v3 w3 ho3 hb3 hs3)
      all_goals
        go_wp2_with fail
        go_roundw
        case rel => exact ⟨k + 1, by omega, by go_num, box (by rw [HE.out]; have h := ho3.out; rwa [show 2 * (k + 1) = 2 * k + 2 by omega]), hb3⟩
        case measure => simp [intOf]; omega
    · have hk' : k = n := by omega
      subst hk'
      rw [← hn, List.take_length, hn] at hown
      go_wp2_with fail
      go_ret
      exact ⟨_, rfl, own_mono hown.out kb1.size, kw⟩
end Go.Proofs.YthfoakomapmkeaaDoor
