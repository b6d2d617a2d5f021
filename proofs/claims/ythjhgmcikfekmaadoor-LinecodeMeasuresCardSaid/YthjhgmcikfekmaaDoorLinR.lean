/- The laws' valid symbols: their contract; the walk of LinecodeInvalid. -/
import Derived.Test.YthjhgmcikfekmaaDoorLinQ
namespace Go.Proofs.YthjhgmcikfekmaaDoor
open Go.RowKit

/-- The valid symbols with these numbers. -/
def vals (xs : List Nat) : List Nat := xs.map fun x => syms.getD (x % 20) 0
theorem vals_length (xs : List Nat) : (vals xs).length = xs.length := by simp [vals]
theorem vals_take {xs : List Nat} {k : Nat} (hk : k < xs.length) : vals (xs.take (k + 1)) = vals (xs.take k) ++ [syms.getD (xs.getD k 0 % 20) 0] := by
  rw [take_snoc' hk]; simp [vals]
theorem vals_lt (xs : List Nat) : ∀ y ∈ vals xs, y < 256 := by
  intro y hy
  obtain ⟨x, _, rfl⟩ := List.mem_map.1 hy
  have := syms_lt (x % 20) (Nat.mod_lt _ (by decide)); omega
theorem vals_getD (xs : List Nat) (j : Nat) (hj : j < xs.length) : (vals xs).getD j 0 = syms.getD (xs.getD j 0 % 20) 0 := by
  simp [vals, List.getD_eq_getElem?_getD, List.getElem?_eq_getElem hj]

set_option maxHeartbeats 8000000 in
theorem valid_any (a : Option Addr) (n c : Nat) (xs : List Nat) (hn : xs.length = n) (hx : ∀ x ∈ xs, x < 256) (hbig : n ≤ 1000) (w : World) (hc : In w a xs) (hT : HasTab w) :
    Calls Tryd.prog 24 #[.slice a n c] w fun e w' => ∃ v, e = .returned v ∧ Own w.heap.size w' v n (vals xs) ∧ Below w.heap.size w w' := by
  have HT := box hT
  have HX := box hx
  have HC := box hc
  clear hT hx hc
  go_enter Tryd.func24, Tryd.ntmps24
  go_wp2_with fail
  go_loopw [3, 11] (fun t3 t11 wr => ∃ k : Nat, k ≤ n ∧ t11 = .int .i64 k ∧ Box (Own w.heap.size wr t3 k (vals (xs.take k))) ∧ Below w.heap.size w wr) (fun _ t11 _ => n - (intOf t11).toNat)
  case atStart => exact ⟨0, by omega, rfl, box (World.ownsRow_nil _ _ _ _), Below.refl _ _⟩
  case round =>
    obtain ⟨k, hk, rfl, hown, kb⟩ := hrel
    by_cases hlt : k < n
    · obtain ⟨b, rfl, h1⟩ := in_some (HC.out.below kb) (show k < xs.length by omega)
      have HE := box (vals_take (xs := xs) (k := k) (by omega))
      have lx := getD_lt HX.out (show k < xs.length by omega)
      have kT := HT.out.below kb
      generalize xs.getD k 0 = x at h1 HE lx
      have e1 : (x : Int) % 20 = ((x % 20 : Nat) : Int) := by omega
      have lq : x % 20 < 20 := Nat.mod_lt _ (by decide)
      generalize x % 20 = q at e1 lq HE
      by_cases h16 : q < 16
      · have d1 : decide ((16 : Int) ≤ (q : Int)) = false := decide_eq_false (by omega)
        have D := box (data_ok q h16 wr kT)
        generalize syms.getD q 0 = s at D HE
        go_wp2_with fail
        refine D.out.mono ?_
        rintro e w2 ⟨rfl, rfl⟩
        go_wp2_with (at_builtin; refine wpList_append_new (o := ⟨some 34, _, _, _, _, _⟩) rfl (.tmp 31) (.tmp 33) rfl w.heap.size _ _ _ rfl hown.out [s] 1 rfl (0, 0) rfl (by omega) w kb kb.size ?_; intro v3 w3 ho3 hb3 hs3)
        go_roundw
        case rel => exact ⟨k + 1, by omega, by go_num, box (by rw [HE.out]; exact ho3.out), hb3⟩
        case measure => simp [intOf]; omega
      · have d1 : decide ((16 : Int) ≤ (q : Int)) = true := decide_eq_true (by omega)
        have D := box (data_bad (q : Int) (.inr (by omega)) wr)
        have C := control_ok (q - 16) (by omega) wr kT
        rw [show 16 + (q - 16) = q by omega, show ((q - 16 : Nat) : Int) = (q : Int) - 16 by omega] at C
        have HCC := box C
        clear C
        generalize syms.getD q 0 = s at HCC HE
        go_wp2_with fail
        refine D.out.mono ?_
        rintro e w2 ⟨rfl, rfl⟩
        go_wp2_with fail
        refine HCC.out.mono ?_
        rintro e w2 ⟨rfl, rfl⟩
        go_wp2_with (at_builtin; refine wpList_append_new (o := ⟨some 34, _, _, _, _, _⟩) rfl (.tmp 31) (.tmp 33) rfl w.heap.size _ _ _ rfl hown.out [s] 1 rfl (0, 0) rfl (by omega) w kb kb.size ?_; intro v3 w3 ho3 hb3 hs3)
        go_roundw
        case rel => exact ⟨k + 1, by omega, by go_num, box (by rw [HE.out]; exact ho3.out), hb3⟩
        case measure => simp [intOf]; omega
    · have hk' : k = n := by omega
      subst hk'
      rw [← hn, List.take_length, hn] at hown
      go_wp2_with fail
      go_ret
      exact ⟨_, rfl, hown.out, kb⟩

set_option maxHeartbeats 8000000 in
theorem invalid_walk (a : Option Addr) (n c : Nat) (xs : List Nat) (z : Nat) (hn : xs.length = n) (hx : ∀ x ∈ xs, x < 256) (hz : z < 65536) (w : World) (hc : In w a xs) (hT : HasTab w) :
    Calls Tryd.prog 8 #[.slice a n c, .int .u16 z] w fun e w' => e = .returned (.bool true) ∧ Below w.heap.size w w' := by
  have HT := box hT
  have HX := box hx
  have HC := box hc
  clear hT hx hc
  by_cases h0 : n = 0
  · have hd : decide ((n : Int) = 0) = true := decide_eq_true (by omega)
    have hd' : ((n : Int) == 0) = true := by simp; omega
    have hH := box h0
    clear h0
    go_enter Tryd.func8, Tryd.ntmps8
    go_wp2_with fail
    refine (awake_any _ HT.out).mono ?_
    rintro e w1 ⟨rfl, hb1⟩
    go_wp2_with fail
    go_ret
    exact ⟨rfl, hb1⟩
  have hd' : ((n : Int) == 0) = false := by simp; omega
  by_cases hl : 60 < n
  · have hd : decide ((60 : Int) < (n : Int)) = true := decide_eq_true (by omega)
    go_enter Tryd.func8, Tryd.ntmps8
    go_wp2_with fail
    refine (awake_any _ HT.out).mono ?_
    rintro e w1 ⟨rfl, hb1⟩
    go_wp2_with fail
    go_ret
    exact ⟨rfl, hb1⟩
  have hd : decide ((60 : Int) < (n : Int)) = false := decide_eq_false (by omega)
  have hvl : (vals xs).length = n := by rw [vals_length, hn]
  obtain ⟨k, hk⟩ : ∃ k, z % (6 * n) = k := ⟨_, rfl⟩
  have lk : k < 6 * n := by rw [← hk]; exact Nat.mod_lt _ (by omega)
  have ek : (z : Int) % (6 * (n : Int)) = (k : Int) := by rw [← hk]; push_cast; rfl
  have ek' : (z : Int).tmod (6 * (n : Int)) = (k : Int) := by rw [Int.tmod_eq_emod_of_nonneg (by omega)]; exact ek
  have hm6 : (6 * (n : Int)) ≠ 0 := by omega
  clear hk
  go_enter Tryd.func8, Tryd.ntmps8
  go_wp2_with fail
  refine (awake_any _ HT.out).mono ?_
  rintro e w1 ⟨rfl, kb⟩
  go_wp2_with fail
  refine (valid_any a n c xs hn HX.out (by omega) _ (HC.out.below kb) (HT.out.below kb)).mono ?_
  rintro e w2 ⟨v, rfl, hown, hb⟩
  obtain ⟨la, lc, rfl, hin, _, _⟩ := own_form hvl hown
  obtain ⟨lb, rfl, hat⟩ : ∃ b, la = some b ∧ At w2 b (vals xs) := by
    rcases hin with h | h
    · rw [h] at hvl; simp at hvl; omega
    · exact h
  have kb2 : Below w.heap.size w w2 := kb.trans (hb.mono kb.size)
  have F := box (flip_any lb n lc k (vals xs) hvl (vals_lt xs) (by omega) lk w2 hat)
  clear hin hown hb hat
  go_wp2_with fail
  refine F.out.mono ?_
  rintro e w3 ⟨v, rfl, hown, hb3⟩
  have hfl : (flipS (vals xs) k).length = n := by rw [flipS_length, hvl]
  obtain ⟨xa, xc, rfl, hin, _, _⟩ := own_form hfl hown
  obtain ⟨xb, rfl, hat⟩ : ∃ b, xa = some b ∧ At w3 b (flipS (vals xs) k) := by
    rcases hin with h | h
    · rw [h] at hfl; simp at hfl; omega
    · exact h
  have HXA := box hat
  have kb3 : Below w.heap.size w w3 := kb2.trans (hb3.mono kb2.size)
  have kT := HT.out.below kb3
  clear hin hown hat hb3 F ek ek' hm6
  go_wp2_with fail
  go_loop [48] (fun t48 => ∃ i : Nat, i ≤ n ∧ t48 = .int .i64 i) (fun t48 => n - (intOf t48).toNat)
  case atStart => exact ⟨0, by omega, rfl⟩
  case round =>
    obtain ⟨i, hi, rfl⟩ := hrel
    by_cases hlt : i < n
    · have c1 := HXA.out i (by omega)
      have hq : k / 6 < (vals xs).length := by omega
      have lf := getD_lt (flipS_lt (vals_lt xs) hq) (show i < (flipS (vals xs) k).length by omega)
      have V := value_any _ lf w3 kT
      rw [flipS_getD hq] at V c1 lf
      obtain ⟨q, hqq⟩ : ∃ q, k / 6 = q := ⟨_, rfl⟩
      have e2 : (k : Int) / 6 = (q : Int) := by omega
      rw [vals_getD xs i (by omega), vals_getD xs (k / 6) (by omega), hqq] at V c1
      have lm : xs.getD i 0 % 20 < 20 := Nat.mod_lt _ (by decide)
      by_cases hiq : i = q
      · rw [if_pos hiq] at V c1
        have hb := flip_bad (xs.getD q 0 % 20) (Nat.mod_lt _ (by decide)) (5 - k % 6) (by omega)
        rw [hb, show valueV 20 = .tuple #[.int .i64 0, .bool false, .int .i64 3] from rfl] at V
        have HV := box V
        have b1 : ((i : Int) != (q : Int)) = false := by simp [hiq]
        have hB := box hiq
        clear V hb hqq hq hiq lf
        generalize syms.getD (xs.getD q 0 % 20) 0 ^^^ 2 ^ (5 - k % 6) = y at HV c1
        go_wp2_with fail
        refine HV.out.mono ?_
        rintro e w4 ⟨rfl, rfl⟩
        go_wp2_with fail
        go_round
        case rel => exact ⟨i + 1, by omega, by go_num⟩
        case measure => simp [intOf]; omega
      · rw [if_neg hiq] at V c1
        rw [idx_syms _ lm] at V
        have b1 : ((i : Int) != (q : Int)) = true := by simp; omega
        have hVC : (∃ (u : Int) (b : Bool), valueV (xs.getD i 0 % 20) = .tuple #[.int .i64 u, .bool b, .int .i64 0]) := by
          unfold valueV
          by_cases h16 : xs.getD i 0 % 20 < 16
          · exact ⟨_, _, by rw [if_pos h16]⟩
          · exact ⟨_, _, by rw [if_neg h16, if_pos lm]⟩
        obtain ⟨u, b, hub⟩ := hVC
        rw [hub] at V
        have HV := box V
        clear V hub hqq hq lf lm
        generalize syms.getD (xs.getD i 0 % 20) 0 = y at HV c1
        go_wp2_with fail
        refine HV.out.mono ?_
        rintro e w4 ⟨rfl, rfl⟩
        go_wp2_with fail
        go_round
        case rel => exact ⟨i + 1, by omega, by go_num⟩
        case measure => simp [intOf]; omega
    · obtain rfl : i = n := by omega
      go_wp2_with fail
      go_ret
      exact ⟨rfl, kb3⟩
end Go.Proofs.YthjhgmcikfekmaaDoor
