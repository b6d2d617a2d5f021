/- The reference's register and check sum: their contracts. -/
import Derived.Test.YthfoakomapmkeaaDoorCrcA
namespace Go.Proofs.YthfoakomapmkeaaDoor.Crc
open Go.RowKit

/-- One bit: what the reference does with it. -/
theorem bit_step (r y : Nat) : shn 1 (r ^^^ y) = (if r % 2 = y % 2 then r / 2 else r / 2 ^^^ poly) ^^^ y / 2 := by
  show sh (r ^^^ y) = _
  rw [sh_xor]
  unfold sh
  by_cases h1 : r % 2 = 1 <;> by_cases h2 : y % 2 = 1
  · rw [if_pos h1, if_pos h2, if_pos (by omega), Nat.xor_assoc, Nat.xor_comm (y / 2), ← Nat.xor_assoc poly, Nat.xor_self, Nat.zero_xor]
  · rw [if_pos h1, if_neg h2, if_neg (by omega), Nat.xor_zero]
  · rw [if_neg h1, if_pos h2, if_neg (by omega), Nat.xor_zero, Nat.xor_comm (y / 2), Nat.xor_assoc]
  · rw [if_neg h1, if_neg h2, if_pos (by omega), Nat.xor_zero, Nat.xor_zero]

theorem band1 {a : Nat} (ha : a < 2 ^ 32) : bits .and .u32 (a : Int) 1 = ((a % 2 : Nat) : Int) := by
  have := u32_and_nat a 1 (by omega) (by decide)
  rw [show a &&& 1 = a % 2 from Nat.and_two_pow_sub_one_eq_mod a 1] at this
  exact this

set_option maxHeartbeats 4000000 in
theorem register_at (s0 : Nat) (ls0 : s0 < 2 ^ 32) (a : Addr) (n c : Nat) (xs : List Nat) (hn : xs.length = n) (hx : ∀ x ∈ xs, x < 256) (hbig : n ≤ 9223372036854775807) (w : World) (hc : At w a xs) :
    Calls Tryd.prog 60 #[nU32 s0, .slice (some a) n c] w fun e w' => e = .returned (nU32 (reg s0 xs)) ∧ w' = w := by
  have HX := Lib.hid hx
  have HC := Lib.hid hc
  clear hx hc
  obtain ⟨res, hres⟩ : ∃ res, reg s0 xs = res := ⟨_, rfl⟩
  have HR := Lib.hid hres
  rw [hres]
  clear hres
  go_enter Tryd.func60, Tryd.ntmps60
  go_wp2_with fail
  go_loop [0, 5] (fun t0 t5 => ∃ (k r : Nat), k ≤ n ∧ t5 = .int .i64 k ∧ t0 = nU32 r ∧ r < 2 ^ 32 ∧ Hid (reg s0 xs = reg r (xs.drop k))) (fun _ t5 => n - (intOf t5).toNat)
  case atStart => exact ⟨0, s0, Nat.zero_le _, rfl, rfl, ls0, rfl⟩
  case round =>
    obtain ⟨k, r, hk, rfl, rfl, lr, hreg⟩ := hrel
    by_cases hlt : k < n
    · have hkl : k < xs.length := by omega
      have h1 := HC.out k hkl
      obtain ⟨x, hxk⟩ : ∃ x, xs.getD k 0 = x := ⟨_, rfl⟩
      have lx : x < 256 := by rw [← hxk, List.getD_eq_getElem?_getD, List.getElem?_eq_getElem hkl]; exact HX.out _ (List.getElem_mem hkl)
      have HD : Hid (reg r (xs.drop k) = reg (byteStep r x) (xs.drop (k + 1))) := Lib.hid (by
        rw [List.drop_eq_getElem_cons hkl, reg_cons, ← hxk, List.getD_eq_getElem?_getD, List.getElem?_eq_getElem hkl]; rfl)
      rw [hxk] at h1
      clear hxk
      have e1 : (x : Int) % 4294967296 = x := u32_self (by omega)
      go_wp2_with fail
      go_loop [0, 6] (fun t0 t6 => ∃ (j q : Nat), j ≤ 8 ∧ t6 = .int .i64 j ∧ t0 = nU32 q ∧ q < 2 ^ 32 ∧ Hid (byteStep r x = shn (8 - j) (q ^^^ (x / 2 ^ j)))) (fun _ t6 => 8 - (intOf t6).toNat)
      case atStart => exact ⟨0, r, Nat.zero_le _, rfl, rfl, lr, Lib.hid (by simp [byteStep])⟩
      case round =>
        obtain ⟨j, q, hj, rfl, rfl, lq, hq⟩ := hrel
        by_cases hj8 : j < 8
        · obtain ⟨y, hy⟩ : ∃ y, x / 2 ^ j = y := ⟨_, rfl⟩
          have ey : (x : Int) / 2 ^ j = (y : Int) := by rw [← hy]; push_cast; rfl
          have ly : y < 2 ^ 32 := by rw [← hy]; exact Nat.lt_of_le_of_lt (Nat.div_le_self _ _) (by omega)
          have HS := bit_step q y
          have hq' : Hid (byteStep r x = shn (8 - (j + 1)) (shn 1 (q ^^^ y))) := Lib.hid (by
            rw [hq.out, hy, ← shn_add]; congr 1; omega)
          have hy2 : Hid (x / 2 ^ (j + 1) = y / 2) := Lib.hid (by rw [Nat.pow_succ, ← Nat.div_div_eq_div_mul, hy])
          obtain ⟨e2, e3, e4, e5⟩ : bits .and .u32 (y : Int) 1 = ((y % 2 : Nat) : Int) ∧ bits .and .u32 (q : Int) 1 = ((q % 2 : Nat) : Int) ∧ (q : Int) / 2 = ((q / 2 : Nat) : Int) ∧ bits .xor .u32 ((q / 2 : Nat) : Int) 3988292384 = ((q / 2 ^^^ poly : Nat) : Int) :=
            ⟨band1 ly, band1 lq, by omega, bx (a := q / 2) (b := poly) (by omega) (by decide)⟩
          have l2 : q / 2 < 2 ^ 32 := by omega
          have l3 : q / 2 ^^^ poly < 2 ^ 32 := xor_lt32 l2 (by decide)
          clear hy
          generalize q / 2 ^^^ poly = q3 at e5 l3 HS
          generalize q / 2 = q2 at e4 e5 l2 HS
          generalize q % 2 = qb at e3 HS
          generalize y % 2 = yb at e2 HS
          by_cases hb : qb = yb
          · subst hb
            rw [if_pos rfl] at HS
            replace hq' : Hid (byteStep r x = shn (8 - (j + 1)) (q2 ^^^ x / 2 ^ (j + 1))) := Lib.hid (by rw [hq'.out, HS, hy2.out])
            clear HS
            go_wp2_with fail
            go_round
            case rel => exact ⟨j + 1, q2, by omega, by go_num, rfl, l2, hq'⟩
            case measure => simp [intOf]; omega
          · rw [if_neg hb] at HS
            replace hq' : Hid (byteStep r x = shn (8 - (j + 1)) (q3 ^^^ x / 2 ^ (j + 1))) := Lib.hid (by rw [hq'.out, HS, hy2.out])
            have hb' : ((qb : Int) != (yb : Int)) = true := by simp; omega
            clear HS hb
            go_wp2_with fail
            go_round
            case rel => exact ⟨j + 1, q3, by omega, by go_num, rfl, l3, hq'⟩
            case measure => simp [intOf]; omega
        · have hj' : j = 8 := by omega
          have hqr : byteStep r x = q := by rw [hq.out, hj', Nat.div_eq_of_lt (show x < 2 ^ 8 by omega), Nat.xor_zero]; rfl
          rw [hqr] at HD
          clear hqr hq
          go_wp2_with fail
          go_round
          case rel => exact ⟨k + 1, q, by omega, by go_num, rfl, lq, Lib.hid (hreg.out.trans HD.out)⟩
          case measure => simp [intOf]; omega
    · have hkn : k = xs.length := by omega
      have hrr : res = r := by rw [← HR.out, hreg.out, hkn, List.drop_length]; rfl
      subst hrr
      go_wp2_with fail
      go_ret
      exact ⟨rfl, rfl⟩

set_option maxHeartbeats 4000000 in
theorem register_none (s0 : Nat) (a : Option Addr) (c : Nat) (w : World) :
    Calls Tryd.prog 60 #[nU32 s0, .slice a 0 c] w fun e w' => e = .returned (nU32 s0) ∧ w' = w := by
  go_enter Tryd.func60, Tryd.ntmps60
  go_wp2_with fail
  go_loop [0, 5] (fun t0 t5 => t5 = .int .i64 0 ∧ t0 = nU32 s0) (fun _ _ => 0)
  case atStart => exact ⟨rfl, rfl⟩
  case round =>
    obtain ⟨rfl, rfl⟩ := hrel
    go_wp2_with fail
    go_ret
    exact ⟨rfl, rfl⟩

theorem register_any (s : Nat) (hs : s < 2 ^ 32) (a : Option Addr) (n c : Nat) (xs : List Nat) (hn : xs.length = n) (hx : ∀ x ∈ xs, x < 256) (hbig : n ≤ 9223372036854775807) (w : World) (hc : In w a xs) :
    Calls Tryd.prog 60 #[nU32 s, .slice a n c] w fun e w' => e = .returned (nU32 (reg s xs)) ∧ w' = w := by
  rcases hc with rfl | ⟨b, rfl, hc⟩
  · simp only [List.length_nil] at hn
    subst hn
    exact register_none s a c w
  · exact register_at s hs b n c xs hn hx hbig w hc

set_option maxHeartbeats 4000000 in
theorem rsum_any (a : Option Addr) (n c : Nat) (xs : List Nat) (hn : xs.length = n) (hx : ∀ x ∈ xs, x < 256) (hbig : n ≤ 9223372036854775807) (w : World) (hc : In w a xs) :
    Calls Tryd.prog 41 #[.slice a n c] w fun e w' => e = .returned (nU32 (crc xs)) ∧ w' = w := by
  have hu := register_any 4294967295 (by decide) a n c xs hn hx hbig w hc
  have hb : bits .xor .u32 ((reg 4294967295 xs : Nat) : Int) 4294967295 = ((reg 4294967295 xs ^^^ 4294967295 : Nat) : Int) := bx (a := reg 4294967295 xs) (b := 4294967295) (reg_lt xs (by decide) hx) (by decide)
  generalize hv : crc xs = v
  unfold crc at hv
  rw [hv] at hb
  generalize reg 4294967295 xs = r at hu hb
  clear hc hv
  go_enter Tryd.func41, Tryd.ntmps41
  go_wp2_with (go_at_call 60; refine hu.mono ?_; rintro e w' ⟨rfl, rfl⟩)
  go_ret
  exact ⟨rfl, rfl⟩
end Go.Proofs.YthfoakomapmkeaaDoor.Crc
