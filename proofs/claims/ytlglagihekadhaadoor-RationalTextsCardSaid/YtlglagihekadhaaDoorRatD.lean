/- bits.Div64. -/
import Derived.Test.YtlglagihekadhaaDoorRatA
import Derived.Test.YtlglagihekadhaaDoorRatDM
import Derived.Deep.CutBlock
import Derived.Deep.DeepCutAuto
namespace Go.Proofs.YtlglagihekadhaaDoor
open Go.RowKit Go.Shelf
theorem ret_two {k : IntKind} {a b c d : Int} (h : a = c) (h' : b = d) : Ending.returned (.tuple #[.int k a, .int k b]) = .returned (.tuple #[.int k c, .int k d]) := by rw [h, h']
theorem lz_any (y : Int) (h1 : 1 ≤ y) (h2 : y ≤ 18446744073709551615) (w : World) :
    Calls Tryd.prog 54 #[.int .u64 y] w fun e w' => ∃ s : Nat, s ≤ 63 ∧ 9223372036854775808 ≤ y * 2 ^ s ∧ y * 2 ^ s < 18446744073709551616 ∧ e = .returned (.int .i64 s) ∧ w = w' := by
  obtain ⟨s, a, b, c, d⟩ := lz_spec y h1 h2
  refine (Tryd.bits_LeadingZeros64 y _ (by omega) (by omega)).mono ?_
  rintro e w' ⟨rfl, rfl⟩
  exact ⟨s, a, c, d, by rw [b], rfl⟩
set_option maxRecDepth 100000 in
set_option maxHeartbeats 1000000 in
theorem div64_big (hi lo y : Int) (hi0 : 1 ≤ hi) (hiy : hi < y) (y1 : y ≤ 18446744073709551615) (lo0 : 0 ≤ lo) (lo1 : lo ≤ 18446744073709551615) (w : World) :
    Calls Tryd.prog 43 #[.int .u64 hi, .int .u64 lo, .int .u64 y] w fun e w' => e = .returned (.tuple #[.int .u64 ((hi * 18446744073709551616 + lo) / y), .int .u64 ((hi * 18446744073709551616 + lo) % y)]) ∧ w = w' := by
  have hy : (y == 0) = false := by simp; omega
  have hh : (hi == 0) = false := by simp; omega
  go_enter Tryd.func43, Tryd.ntmps43
  go_wp2_with fail
  refine (lz_any y (by omega) (by omega) _).mono ?_
  rintro e w' ⟨s, hs, s0, s1, rfl, rfl⟩
  obtain ⟨u, u10, eu, eu10, u0, u1, t0, t1, huu⟩ := or_shift hi lo y s hs (by omega) hiy s1 lo0 lo1
  have hm : min s 64 = s := by omega
  have hm' : min (64 - s) 64 = 64 - s := by omega
  have HUU := Lib.hid huu
  clear huu
  obtain ⟨Y, hY⟩ : ∃ Y, y * 2 ^ s = Y := ⟨_, rfl⟩
  rw [hY] at s0 s1 u1
  have HYY := Lib.hid hY
  have ky := and_mask Y (by omega) (by omega)
  have ku := and_mask u10 (by omega) (by omega)
  obtain ⟨v1, hv1⟩ : ∃ v1, Y / 4294967296 = v1 := ⟨_, rfl⟩
  obtain ⟨v0, hv0⟩ : ∃ v0, Y % 4294967296 = v0 := ⟨_, rfl⟩
  obtain ⟨n1, hn1⟩ : ∃ n1, u10 / 4294967296 = n1 := ⟨_, rfl⟩
  obtain ⟨n0, hn0⟩ : ∃ n0, u10 % 4294967296 = n0 := ⟨_, rfl⟩
  have a1 : 2147483648 ≤ v1 := by omega
  have a2 : v1 ≤ 4294967295 := by omega
  have b1 : 0 ≤ v0 := by omega
  have b2 : v0 ≤ 4294967295 := by omega
  have c1 : 0 ≤ n1 := by omega
  have c2 : n1 ≤ 4294967295 := by omega
  have d1 : 0 ≤ n0 := by omega
  have d2 : n0 ≤ 4294967295 := by omega
  have HY : Hid (Y = v1 * 4294967296 + v0) := Lib.hid (by omega)
  have HU : Hid (u10 = n1 * 4294967296 + n0) := Lib.hid (by omega)
  have K1 : Hid (KR u v1 v0 n1) := Lib.hid ⟨a1, by omega, b1, by omega, u0, by omega, c1, by omega⟩
  obtain ⟨g0, g1, g2, g3⟩ := KD.start_rest K1.out
  have KS := KD.start K1.out
  obtain ⟨q, hq⟩ : ∃ q, u / v1 = q := ⟨_, rfl⟩
  rw [hq] at g0 g1 g2 g3 KS
  obtain ⟨P, hP⟩ : ∃ P, q * v1 = P := ⟨_, rfl⟩
  rw [hP] at g0 g1 KS
  have P0 : 0 ≤ P := by rw [← hP]; exact Int.mul_nonneg g2 (by omega)
  have HS := Lib.hid KS
  clear KS
  go_upto_block 0 with fail
  have HQ := Lib.hid hq
  clear hP hq hY hm' eu eu10 ky ku hv1 hv0 hn1 hn0
  go_cut [15] (fun t15 wx => t15 = .int .u64 ((u * 4294967296 + n1) / Y) ∧ wx = w)
  case first =>
    go_wp2_with fail
    go_loop [15, 16] (fun t15 t16 => ∃ q r : Int, 0 ≤ q ∧ q ≤ 4294967297 ∧ 0 ≤ r ∧ r ≤ 4294967295 ∧ KD u v1 v0 n1 q r ∧ t15 = .int .u64 q ∧ t16 = .int .u64 r) (fun t15 _ => (intOf t15).toNat)
    case atStart => exact ⟨q, _, g2, g3, g0, by omega, HS.out, by rw [HQ.out], rfl⟩
    case round =>
      obtain ⟨q, r, q0, q1, r0, r1, k, rfl, rfl⟩ := hrel
      by_cases hA : 4294967296 ≤ q ∨ 4294967296 * r + n1 < q * v0
      · obtain ⟨k', q2⟩ := KD.step K1.out k hA
        by_cases hB : 4294967296 ≤ q
        · by_cases hC : 4294967296 ≤ r + v1
          · go_wp2_with fail
            go_meet
            exact ⟨congrArg (Value.int .u64) ((KD.exit2 K1.out k' hC (by omega)).trans (by rw [← HY.out])), rfl⟩
          · go_wp2_with fail
            exact ⟨⟨q - 1, r + v1, by omega, by omega, by omega, by omega, k', rfl, rfl⟩, by simp [intOf]; omega⟩
        · have hqv : q * v0 ≤ 18446744073709551615 := by
            have := Int.mul_le_mul_of_nonneg_right (show q ≤ 4294967295 by omega) b1
            omega
          have hqv0 : 0 ≤ q * v0 := Int.mul_nonneg q0 b1
          have hA' : 4294967296 * r + n1 < q * v0 := by omega
          clear hA
          by_cases hC : 4294967296 ≤ r + v1
          · go_wp2_with fail
            go_meet
            exact ⟨congrArg (Value.int .u64) ((KD.exit2 K1.out k' hC (by omega)).trans (by rw [← HY.out])), rfl⟩
          · go_wp2_with fail
            exact ⟨⟨q - 1, r + v1, by omega, by omega, by omega, by omega, k', rfl, rfl⟩, by simp [intOf]; omega⟩
      · have hB : q ≤ 4294967295 := by omega
        have hA' : q * v0 ≤ 4294967296 * r + n1 := by omega
        have hqv0 : 0 ≤ q * v0 := Int.mul_nonneg q0 b1
        clear hA
        go_wp2_with fail
        go_meet
        exact ⟨congrArg (Value.int .u64) ((KD.exit1 K1.out k hA').trans (by rw [← HY.out])), rfl⟩
  case rest =>
    obtain ⟨rfl, rfl⟩ := hcut
    have F1 := KD.fits K1.out rfl
    rw [← HY.out] at F1
    obtain ⟨f1, f2, f3, f4⟩ := F1
    obtain ⟨Q1, hQ1⟩ : ∃ Q1, (u * 4294967296 + n1) / Y = Q1 := ⟨_, rfl⟩
    rw [hQ1] at f1 f2 f3 f4
    obtain ⟨U2, hU2⟩ : ∃ U2, u * 4294967296 + n1 - Q1 * Y = U2 := ⟨_, rfl⟩
    rw [hU2] at f3 f4
    have e21 : IntKind.u64.wrap (IntKind.u64.wrap (IntKind.u64.wrap (u * 4294967296) + n1) - IntKind.u64.wrap (Q1 * Y)) = U2 := by
      rw [IntKind.wrap_u64, IntKind.wrap_u64, IntKind.wrap_u64, IntKind.wrap_u64]; omega
    have K2 : Hid (KR U2 v1 v0 n0) := Lib.hid ⟨a1, by omega, b1, by omega, f3, by rw [← HY.out]; exact f4, d1, by omega⟩
    obtain ⟨g0, g1, g2, g3⟩ := KD.start_rest K2.out
    have KS := KD.start K2.out
    obtain ⟨q, hq⟩ : ∃ q, U2 / v1 = q := ⟨_, rfl⟩
    rw [hq] at g0 g1 g2 g3 KS
    obtain ⟨P, hP⟩ : ∃ P, q * v1 = P := ⟨_, rfl⟩
    rw [hP] at g0 g1 KS
    have P0 : 0 ≤ P := by rw [← hP]; exact Int.mul_nonneg g2 (by omega)
    have HS := Lib.hid KS
    clear KS
    have HU2 := Lib.hid hU2
    have HQ1 := Lib.hid hQ1
    clear hU2
    go_upto_block 2 with fail
    have HQ := Lib.hid hq
    clear hP hq hQ1 e21
    go_cut [18] (fun t18 wx => t18 = .int .u64 ((U2 * 4294967296 + n0) / Y) ∧ wx = wc)
    case first =>
      go_wp2_with fail
      go_loop [18, 16] (fun t15 t16 => ∃ q r : Int, 0 ≤ q ∧ q ≤ 4294967297 ∧ 0 ≤ r ∧ r ≤ 4294967295 ∧ KD U2 v1 v0 n0 q r ∧ t15 = .int .u64 q ∧ t16 = .int .u64 r) (fun t15 _ => (intOf t15).toNat)
      case atStart => exact ⟨q, _, g2, g3, g0, by omega, HS.out, by rw [HQ.out], rfl⟩
      case round =>
        obtain ⟨q, r, q0, q1, r0, r1, k, rfl, rfl⟩ := hrel
        by_cases hA : 4294967296 ≤ q ∨ 4294967296 * r + n0 < q * v0
        · obtain ⟨k', q2⟩ := KD.step K2.out k hA
          by_cases hB : 4294967296 ≤ q
          · by_cases hC : 4294967296 ≤ r + v1
            · go_wp2_with fail
              go_meet
              exact ⟨congrArg (Value.int .u64) ((KD.exit2 K2.out k' hC (by omega)).trans (by rw [← HY.out])), rfl⟩
            · go_wp2_with fail
              exact ⟨⟨q - 1, r + v1, by omega, by omega, by omega, by omega, k', rfl, rfl⟩, by simp [intOf]; omega⟩
          · have hqv : q * v0 ≤ 18446744073709551615 := by
              have := Int.mul_le_mul_of_nonneg_right (show q ≤ 4294967295 by omega) b1
              omega
            have hqv0 : 0 ≤ q * v0 := Int.mul_nonneg q0 b1
            have hA' : 4294967296 * r + n0 < q * v0 := by omega
            clear hA
            by_cases hC : 4294967296 ≤ r + v1
            · go_wp2_with fail
              go_meet
              exact ⟨congrArg (Value.int .u64) ((KD.exit2 K2.out k' hC (by omega)).trans (by rw [← HY.out])), rfl⟩
            · go_wp2_with fail
              exact ⟨⟨q - 1, r + v1, by omega, by omega, by omega, by omega, k', rfl, rfl⟩, by simp [intOf]; omega⟩
        · have hB : q ≤ 4294967295 := by omega
          have hA' : q * v0 ≤ 4294967296 * r + n0 := by omega
          have hqv0 : 0 ≤ q * v0 := Int.mul_nonneg q0 b1
          clear hA
          go_wp2_with fail
          go_meet
          exact ⟨congrArg (Value.int .u64) ((KD.exit1 K2.out k hA').trans (by rw [← HY.out])), rfl⟩
    case rest =>
      obtain ⟨rfl, rfl⟩ := hcut
      have F2 := KD.fits K2.out rfl
      rw [← HY.out] at F2
      obtain ⟨f1', f2', f3', f4'⟩ := F2
      obtain ⟨Q0, hQ0⟩ : ∃ Q0, (U2 * 4294967296 + n0) / Y = Q0 := ⟨_, rfl⟩
      rw [hQ0] at f1' f2' f3' f4'
      have e22 : IntKind.u64.wrap (IntKind.u64.wrap (IntKind.u64.wrap (U2 * 4294967296) + n0) - IntKind.u64.wrap (Q0 * Y)) = U2 * 4294967296 + n0 - Q0 * Y := by
        rw [IntKind.wrap_u64, IntKind.wrap_u64, IntKind.wrap_u64, IntKind.wrap_u64]; omega
      have hpp : (0 : Int) < 2 ^ s := Int.pow_pos (by omega)
      have W := KD.whole (n := hi * 18446744073709551616 + lo) (y := y) (p := 2 ^ s) (Y := Y) (u10 := u10) (u := u) (un1 := n1) (un0 := n0) (q1 := Q1) (q0 := Q0) hpp (by omega) HYY.out HUU.out HU.out (by rw [HU2.out]; exact hQ0.symm)
      rw [HU2.out] at W
      obtain ⟨W1, W2⟩ := W
      have HQ0 := Lib.hid hQ0
      have H1 := Lib.hid W1
      have H2 := Lib.hid W2
      clear hQ0 W1 W2
      go_wp2_with fail
      go_ret2
      refine ⟨ret_two ?_ ?_, rfl⟩
      · rw [HQ1.out, HQ0.out, ← H1.out, IntKind.wrap_u64, IntKind.wrap_u64]; omega
      · rw [HQ0.out, e22, H2.out]
theorem div64_small (lo y : Int) (y0 : 1 ≤ y) (y1 : y ≤ 18446744073709551615) (lo0 : 0 ≤ lo) (lo1 : lo ≤ 18446744073709551615) (w : World) :
    Calls Tryd.prog 43 #[.int .u64 0, .int .u64 lo, .int .u64 y] w fun e w' => e = .returned (.tuple #[.int .u64 (lo / y), .int .u64 (lo % y)]) ∧ ∃ n, w' = w.drewN n := by
  have hy : (y == 0) = false := by simp; omega
  have hy' : decide (y ≤ 0) = false := by simp; omega
  go_enter Tryd.func43, Tryd.ntmps43
  go_wp2_with fail
  go_quiet (fail)
  go_wp2_with fail
  go_ret2
  exact ⟨rfl, _, rfl⟩
theorem div64_any (hi lo y : Int) (hi0 : 0 ≤ hi) (hiy : hi < y) (y1 : y ≤ 18446744073709551615) (lo0 : 0 ≤ lo) (lo1 : lo ≤ 18446744073709551615) (w : World) :
    Calls Tryd.prog 43 #[.int .u64 hi, .int .u64 lo, .int .u64 y] w fun e w' => e = .returned (.tuple #[.int .u64 ((hi * 18446744073709551616 + lo) / y), .int .u64 ((hi * 18446744073709551616 + lo) % y)]) ∧ ∃ n, w' = w.drewN n := by
  by_cases h : hi = 0
  · subst h
    rw [Int.zero_mul, Int.zero_add]
    exact div64_small lo y (by omega) y1 lo0 lo1 w
  · exact (div64_big hi lo y (by omega) hiy y1 lo0 lo1 w).mono fun e w' ⟨he, hw⟩ => ⟨he, 0, hw.symm⟩
theorem rem64_any (hi lo y : Int) (hi0 : 0 ≤ hi) (hi1 : hi ≤ 18446744073709551615) (y0 : 1 ≤ y) (y1 : y ≤ 18446744073709551615) (lo0 : 0 ≤ lo) (lo1 : lo ≤ 18446744073709551615) (w : World) :
    Calls Tryd.prog 41 #[.int .u64 hi, .int .u64 lo, .int .u64 y] w fun e w' => e = .returned (.int .u64 ((hi * 18446744073709551616 + lo) % y)) ∧ ∃ n, w' = w.drewN n := by
  have hm0 : 0 ≤ hi % y := Int.emod_nonneg _ (by omega)
  have hm1 : hi % y < y := Int.emod_lt_of_pos _ (by omega)
  have e : (hi % y * 18446744073709551616 + lo) % y = (hi * 18446744073709551616 + lo) % y := by
    rw [Int.add_emod, Int.mul_emod, Int.emod_emod, ← Int.mul_emod, ← Int.add_emod]
  have E := Lib.hid e
  clear e
  go_enter Tryd.func41, Tryd.ntmps41
  go_wp2_with fail
  refine (div64_any (hi % y) lo y hm0 hm1 y1 lo0 lo1 _).mono ?_
  rintro e w' ⟨rfl, n, rfl⟩
  go_wp2_with fail
  go_ret
  exact ⟨ret_int (by rw [← E.out]), n, rfl⟩
end Go.Proofs.YtlglagihekadhaaDoor
