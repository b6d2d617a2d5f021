/- Layer 4: the texts CrcA CrcR CrcE CrcW CrcP CrcN CrcF CrcL2 CrcQ CrcX CrcBm CrcS in one. -/
import Derived.Test.YthfoakomapmkeaaDoorProg
import Derived.Test.YthfoakomapmkeaaDoorCrcM
import Derived.WalkKit
import Derived.Below
import Derived.LoopTactic
import Derived.RegionTactic
import Derived.Laws.BitsAllLaws
import Derived.Laws.ShiftsVarLaws
import Derived.Lib.Hide
import Derived.Test.YthfoakomapmkeaaDoorCrcB
import Derived.Deep.QuietTactic
import Derived.BigQuiet
import Derived.Deep.RegionHeld3
import Derived.Lib.SlBytesConst
import Derived.Laws.CopyOwn
import Derived.Laws.OwnMore
import Derived.OwnWalk
import Derived.Lib.SliceRun
/- Update and Sum of layer 2, and the reference's register: their contracts. -/
namespace Go.Proofs.YthfoakomapmkeaaDoor.Crc
open Go.RowKit

/-- The table of the remainders of half bytes. -/
def tab : List Nat := [0, 498536548, 997073096, 651767980, 1994146192, 1802195444, 1303535960, 1342533948, 3988292384, 4027552580, 3604390888, 3412177804, 2607071920, 2262029012, 2685067896, 3183342108]
theorem tab_eq : ∀ i < 16, tab.getD i 0 = shn 4 i := by decide
theorem tab_lt : ∀ i < 16, tab.getD i 0 < 2 ^ 32 := by decide
/-- The table lies in the world. -/
def HasTab (w : World) : Prop := ∀ i : Nat, i < 16 → w.cell? ⟨1, i, none⟩ = some (.int .u32 ((shn 4 i : Nat) : Int))
theorem HasTab.below {w w' : World} (h : HasTab w) (hb : Below w.heap.size w w') : HasTab w' := fun i hi => (hb.cell (World.block_lt_of_cell? w _ (h i hi))).trans (h i hi)

/-- A value of kind u8, u32 from a natural number. -/
abbrev nU8 (x : Nat) : Value := .int .u8 (x : Int)
abbrev nU32 (x : Nat) : Value := .int .u32 (x : Int)
/-- The bytes xs lie from an address on. -/
def At (w : World) (a : Addr) (xs : List Nat) : Prop := ∀ i : Nat, i < xs.length → w.cell? (a.add i) = some (nU8 (xs.getD i 0))

/-- One half byte. -/
theorem half (r : Nat) : r / 16 ^^^ shn 4 (r % 16) = shn 4 r := (shn_split 4 r).symm
theorem byte_eq (r x : Nat) : shn 4 (shn 4 (r ^^^ x)) = byteStep r x := (shn_add 4 4 _).symm

theorem bx {a b : Nat} (ha : a < 2 ^ 32) (hb : b < 2 ^ 32) : bits .xor .u32 (a : Int) (b : Int) = ((a ^^^ b : Nat) : Int) := u32_xor_nat a b (by omega) (by omega)
theorem band15 {a : Nat} (ha : a < 2 ^ 32) : bits .and .u32 (a : Int) 15 = ((a % 16 : Nat) : Int) := by
  have := u32_and_nat a 15 (by omega) (by decide)
  rw [show a &&& 15 = a % 16 from Nat.and_two_pow_sub_one_eq_mod a 4] at this
  exact this
theorem bnot {a : Nat} (ha : a < 2 ^ 32) : bits .xor .u32 IntKind.u32.max (a : Int) = ((a ^^^ 4294967295 : Nat) : Int) := by
  have := u32_xor_nat 4294967295 a (by decide) (by omega)
  rw [Nat.xor_comm] at this
  exact this
theorem u32_self {a : Nat} (ha : a < 2 ^ 32) : (a : Int) % 4294967296 = a := by omega

set_option maxHeartbeats 4000000 in
theorem update_at (s : Nat) (hs : s < 2 ^ 32) (a : Addr) (n c : Nat) (xs : List Nat) (hn : xs.length = n) (hx : ∀ x ∈ xs, x < 256) (hbig : n ≤ 9223372036854775807) (w : World) (hc : At w a xs) (hT : HasTab w) :
    Calls Tryd.prog 65 #[nU32 s, .slice (some a) n c] w fun e w' => e = .returned (nU32 (reg (s ^^^ 4294967295) xs ^^^ 4294967295)) ∧ w' = w := by
  have hsg : IntKind.u32.signed = false := rfl
  have HX := Lib.hid hx
  have HC := Lib.hid hc
  have HT := Lib.hid hT
  clear hx hc hT
  have hnot := bnot hs
  obtain ⟨s0, hs0⟩ : ∃ s0, s ^^^ 4294967295 = s0 := ⟨_, rfl⟩
  have ls0 : s0 < 2 ^ 32 := by rw [← hs0]; exact xor_lt32 hs (by decide)
  rw [hs0] at hnot ⊢
  clear hs0
  obtain ⟨res, hres⟩ : ∃ res, reg s0 xs = res := ⟨_, rfl⟩
  have HR := Lib.hid hres
  have lres : res < 2 ^ 32 := by rw [← hres]; exact reg_lt xs ls0 HX.out
  have hnot2 := bnot lres
  rw [hres]
  clear hres
  go_enter Tryd.func65, Tryd.ntmps65
  go_wp2_with fail
  go_loop [5, 12] (fun t5 t12 => ∃ (k r : Nat), k ≤ n ∧ t12 = .int .i64 k ∧ t5 = nU32 r ∧ r < 2 ^ 32 ∧ Hid (reg s0 xs = reg r (xs.drop k))) (fun _ t12 => n - (intOf t12).toNat)
  case atStart => exact ⟨0, s0, Nat.zero_le _, rfl, rfl, ls0, rfl⟩
  case round =>
    obtain ⟨k, r, hk, rfl, rfl, lr, hreg⟩ := hrel
    by_cases hlt : k < n
    · have hkl : k < xs.length := by omega
      have h1 := HC.out k hkl
      obtain ⟨x, hxk⟩ : ∃ x, xs.getD k 0 = x := ⟨_, rfl⟩
      have lx : x < 256 := by rw [← hxk, List.getD_eq_getElem?_getD, List.getElem?_eq_getElem hkl]; exact HX.out _ (List.getElem_mem hkl)
      have HD : Hid (reg r (xs.drop k) = reg (byteStep r x) (xs.drop (k + 1))) := Lib.hid (by
        rw [List.drop_eq_getElem_cons hkl, reg_cons, ← hxk, List.getD_eq_getElem?_getD, List.getElem?_eq_getElem hkl]; rfl)
      rw [hxk] at h1
      clear hxk
      have e1 : (x : Int) % 4294967296 = x := u32_self (by omega)
      have e2 := bx (a := r) (b := x) lr (by omega)
      obtain ⟨q, hq⟩ : ∃ q, r ^^^ x = q := ⟨_, rfl⟩
      have lq : q < 2 ^ 32 := by rw [← hq]; exact xor_lt32 lr (by omega)
      rw [hq] at e2
      have hb := byte_eq r x
      rw [hq] at hb
      obtain ⟨e3, c1, e4, e6⟩ : bits .and .u32 (q : Int) 15 = ((q % 16 : Nat) : Int) ∧ w.cell? ⟨1, q % 16, none⟩ = some (.int .u32 ((shn 4 (q % 16) : Nat) : Int)) ∧ (q : Int) / 16 = ((q / 16 : Nat) : Int) ∧ bits .xor .u32 ((q / 16 : Nat) : Int) ((shn 4 (q % 16) : Nat) : Int) = ((shn 4 q : Nat) : Int) :=
        ⟨band15 lq, HT.out (q % 16) (Nat.mod_lt _ (by decide)), by omega, by rw [bx (by omega) (shn_lt 4 (by omega)), half]⟩
      obtain ⟨p, hp⟩ : ∃ p, shn 4 q = p := ⟨_, rfl⟩
      have lp : p < 2 ^ 32 := by rw [← hp]; exact shn_lt 4 lq
      rw [hp] at e6 hb
      have l1 : q % 16 < 16 := Nat.mod_lt _ (by decide)
      generalize shn 4 (q % 16) = t1 at c1 e6
      generalize q % 16 = q1 at e3 c1 l1
      generalize q / 16 = q2 at e4 e6
      obtain ⟨f3, c2, f4, f6⟩ : bits .and .u32 (p : Int) 15 = ((p % 16 : Nat) : Int) ∧ w.cell? ⟨1, p % 16, none⟩ = some (.int .u32 ((shn 4 (p % 16) : Nat) : Int)) ∧ (p : Int) / 16 = ((p / 16 : Nat) : Int) ∧ bits .xor .u32 ((p / 16 : Nat) : Int) ((shn 4 (p % 16) : Nat) : Int) = ((shn 4 p : Nat) : Int) :=
        ⟨band15 lp, HT.out (p % 16) (Nat.mod_lt _ (by decide)), by omega, by rw [bx (by omega) (shn_lt 4 (by omega)), half]⟩
      rw [hb] at f6
      have l2 : p % 16 < 16 := Nat.mod_lt _ (by decide)
      generalize shn 4 (p % 16) = t2 at c2 f6
      generalize p % 16 = p1 at f3 c2 l2
      generalize p / 16 = p2 at f4 f6
      have ls : byteStep r x < 2 ^ 32 := byteStep_lt lr lx
      generalize byteStep r x = r' at f6 HD ls
      clear hq hp hb
      go_wp2_with fail
      go_round
      case rel => exact ⟨k + 1, r', by omega, by go_num, rfl, ls, Lib.hid (hreg.out.trans HD.out)⟩
      case measure => simp [intOf]; omega
    · have hkn : k = xs.length := by omega
      have hrr : res = r := by rw [← HR.out, hreg.out, hkn, List.drop_length]; rfl
      subst hrr
      go_wp2_with fail
      go_ret
      exact ⟨rfl, rfl⟩

set_option maxHeartbeats 4000000 in
theorem update_none (s : Nat) (hs : s < 2 ^ 32) (a : Option Addr) (c : Nat) (w : World) :
    Calls Tryd.prog 65 #[nU32 s, .slice a 0 c] w fun e w' => e = .returned (nU32 s) ∧ w' = w := by
  have hsg : IntKind.u32.signed = false := rfl
  have hnot := bnot hs
  have ls0 : s ^^^ 4294967295 < 2 ^ 32 := xor_lt32 hs (by decide)
  have hnot2 := bnot ls0
  rw [Nat.xor_assoc, Nat.xor_self, Nat.xor_zero] at hnot2
  generalize s ^^^ 4294967295 = s0 at hnot hnot2 ls0
  go_enter Tryd.func65, Tryd.ntmps65
  go_wp2_with fail
  go_loop [5, 12] (fun t5 t12 => t12 = .int .i64 0 ∧ t5 = nU32 s0) (fun _ _ => 0)
  case atStart => exact ⟨rfl, rfl⟩
  case round =>
    obtain ⟨rfl, rfl⟩ := hrel
    go_wp2_with fail
    go_ret
    exact ⟨rfl, rfl⟩

/-- The bytes xs lie at the slice's address; nothing is said where there is none. -/
def In (w : World) (a : Option Addr) (xs : List Nat) : Prop := xs = [] ∨ ∃ b, a = some b ∧ At w b xs
theorem In.below {w w' : World} {a : Option Addr} {xs : List Nat} (h : In w a xs) (hb : Below w.heap.size w w') : In w' a xs := by
  rcases h with h | ⟨b, rfl, h⟩
  · exact .inl h
  · exact .inr ⟨b, rfl, fun i hi => (hb.cell (World.block_lt_of_cell? w _ (h i hi))).trans (h i hi)⟩

theorem update_any (s : Nat) (hs : s < 2 ^ 32) (a : Option Addr) (n c : Nat) (xs : List Nat) (hn : xs.length = n) (hx : ∀ x ∈ xs, x < 256) (hbig : n ≤ 9223372036854775807) (w : World) (hc : In w a xs) (hT : HasTab w) :
    Calls Tryd.prog 65 #[nU32 s, .slice a n c] w fun e w' => e = .returned (nU32 (reg (s ^^^ 4294967295) xs ^^^ 4294967295)) ∧ w' = w := by
  rcases hc with rfl | ⟨b, rfl, hc⟩
  · simp only [List.length_nil] at hn
    subst hn
    rw [reg_nil, Nat.xor_assoc, Nat.xor_self, Nat.xor_zero]
    exact update_none s hs a c w
  · exact update_at s hs b n c xs hn hx hbig w hc hT

set_option maxHeartbeats 4000000 in
theorem sum_any (a : Option Addr) (n c : Nat) (xs : List Nat) (hn : xs.length = n) (hx : ∀ x ∈ xs, x < 256) (hbig : n ≤ 9223372036854775807) (w : World) (hc : In w a xs) (hT : HasTab w) :
    Calls Tryd.prog 59 #[.slice a n c] w fun e w' => e = .returned (nU32 (crc xs)) ∧ w' = w := by
  have hu := update_any 0 (by decide) a n c xs hn hx hbig w hc hT
  rw [Nat.zero_xor] at hu
  generalize hv : crc xs = v
  unfold crc at hv
  rw [hv] at hu
  clear hc hT hv
  go_enter Tryd.func59, Tryd.ntmps59
  go_wp2_with (go_at_call 65; refine hu.mono ?_; rintro e w' ⟨rfl, rfl⟩)
  go_ret
  exact ⟨rfl, rfl⟩
end Go.Proofs.YthfoakomapmkeaaDoor.Crc
/- The reference's register and check sum: their contracts. -/
namespace Go.Proofs.YthfoakomapmkeaaDoor.Crc
open Go.RowKit

/-- One bit: what the reference does with it. -/
theorem bit_step (r y : Nat) : shn 1 (r ^^^ y) = (if r % 2 = y % 2 then r / 2 else r / 2 ^^^ poly) ^^^ y / 2 := by
  show sh (r ^^^ y) = _
  rw [sh_xor]
  unfold sh
  by_cases h1 : r % 2 = 1 <;> by_cases h2 : y % 2 = 1
  · rw [if_pos h1, if_pos h2, if_pos (by omega), Nat.xor_assoc, Nat.xor_comm (y / 2), ← Nat.xor_assoc poly, Nat.xor_self, Nat.zero_xor]
  · rw [if_pos h1, if_neg h2, if_neg (by omega), Nat.xor_zero]
  · rw [if_neg h1, if_pos h2, if_neg (by omega), Nat.xor_zero, Nat.xor_comm (y / 2), Nat.xor_assoc]
  · rw [if_neg h1, if_neg h2, if_pos (by omega), Nat.xor_zero, Nat.xor_zero]

theorem band1 {a : Nat} (ha : a < 2 ^ 32) : bits .and .u32 (a : Int) 1 = ((a % 2 : Nat) : Int) := by
  have := u32_and_nat a 1 (by omega) (by decide)
  rw [show a &&& 1 = a % 2 from Nat.and_two_pow_sub_one_eq_mod a 1] at this
  exact this

set_option maxHeartbeats 4000000 in
theorem register_at (s0 : Nat) (ls0 : s0 < 2 ^ 32) (a : Addr) (n c : Nat) (xs : List Nat) (hn : xs.length = n) (hx : ∀ x ∈ xs, x < 256) (hbig : n ≤ 9223372036854775807) (w : World) (hc : At w a xs) :
    Calls Tryd.prog 60 #[nU32 s0, .slice (some a) n c] w fun e w' => e = .returned (nU32 (reg s0 xs)) ∧ w' = w := by
  have HX := Lib.hid hx
  have HC := Lib.hid hc
  clear hx hc
  obtain ⟨res, hres⟩ : ∃ res, reg s0 xs = res := ⟨_, rfl⟩
  have HR := Lib.hid hres
  rw [hres]
  clear hres
  go_enter Tryd.func60, Tryd.ntmps60
  go_wp2_with fail
  go_loop [0, 5] (fun t0 t5 => ∃ (k r : Nat), k ≤ n ∧ t5 = .int .i64 k ∧ t0 = nU32 r ∧ r < 2 ^ 32 ∧ Hid (reg s0 xs = reg r (xs.drop k))) (fun _ t5 => n - (intOf t5).toNat)
  case atStart => exact ⟨0, s0, Nat.zero_le _, rfl, rfl, ls0, rfl⟩
  case round =>
    obtain ⟨k, r, hk, rfl, rfl, lr, hreg⟩ := hrel
    by_cases hlt : k < n
    · have hkl : k < xs.length := by omega
      have h1 := HC.out k hkl
      obtain ⟨x, hxk⟩ : ∃ x, xs.getD k 0 = x := ⟨_, rfl⟩
      have lx : x < 256 := by rw [← hxk, List.getD_eq_getElem?_getD, List.getElem?_eq_getElem hkl]; exact HX.out _ (List.getElem_mem hkl)
      have HD : Hid (reg r (xs.drop k) = reg (byteStep r x) (xs.drop (k + 1))) := Lib.hid (by
        rw [List.drop_eq_getElem_cons hkl, reg_cons, ← hxk, List.getD_eq_getElem?_getD, List.getElem?_eq_getElem hkl]; rfl)
      rw [hxk] at h1
      clear hxk
      have e1 : (x : Int) % 4294967296 = x := u32_self (by omega)
      go_wp2_with fail
      go_loop [0, 6] (fun t0 t6 => ∃ (j q : Nat), j ≤ 8 ∧ t6 = .int .i64 j ∧ t0 = nU32 q ∧ q < 2 ^ 32 ∧ Hid (byteStep r x = shn (8 - j) (q ^^^ (x / 2 ^ j)))) (fun _ t6 => 8 - (intOf t6).toNat)
      case atStart => exact ⟨0, r, Nat.zero_le _, rfl, rfl, lr, Lib.hid (by simp [byteStep])⟩
      case round =>
        obtain ⟨j, q, hj, rfl, rfl, lq, hq⟩ := hrel
        by_cases hj8 : j < 8
        · obtain ⟨y, hy⟩ : ∃ y, x / 2 ^ j = y := ⟨_, rfl⟩
          have ey : (x : Int) / 2 ^ j = (y : Int) := by rw [← hy]; push_cast; rfl
          have ly : y < 2 ^ 32 := by rw [← hy]; exact Nat.lt_of_le_of_lt (Nat.div_le_self _ _) (by omega)
          have HS := bit_step q y
          have hq' : Hid (byteStep r x = shn (8 - (j + 1)) (shn 1 (q ^^^ y))) := Lib.hid (by
            rw [hq.out, hy, ← shn_add]; congr 1; omega)
          have hy2 : Hid (x / 2 ^ (j + 1) = y / 2) := Lib.hid (by rw [Nat.pow_succ, ← Nat.div_div_eq_div_mul, hy])
          obtain ⟨e2, e3, e4, e5⟩ : bits .and .u32 (y : Int) 1 = ((y % 2 : Nat) : Int) ∧ bits .and .u32 (q : Int) 1 = ((q % 2 : Nat) : Int) ∧ (q : Int) / 2 = ((q / 2 : Nat) : Int) ∧ bits .xor .u32 ((q / 2 : Nat) : Int) 3988292384 = ((q / 2 ^^^ poly : Nat) : Int) :=
            ⟨band1 ly, band1 lq, by omega, bx (a := q / 2) (b := poly) (by omega) (by decide)⟩
          have l2 : q / 2 < 2 ^ 32 := by omega
          have l3 : q / 2 ^^^ poly < 2 ^ 32 := xor_lt32 l2 (by decide)
          clear hy
          generalize q / 2 ^^^ poly = q3 at e5 l3 HS
          generalize q / 2 = q2 at e4 e5 l2 HS
          generalize q % 2 = qb at e3 HS
          generalize y % 2 = yb at e2 HS
          by_cases hb : qb = yb
          · subst hb
            rw [if_pos rfl] at HS
            replace hq' : Hid (byteStep r x = shn (8 - (j + 1)) (q2 ^^^ x / 2 ^ (j + 1))) := Lib.hid (by rw [hq'.out, HS, hy2.out])
            clear HS
            go_wp2_with fail
            go_round
            case rel => exact ⟨j + 1, q2, by omega, by go_num, rfl, l2, hq'⟩
            case measure => simp [intOf]; omega
          · rw [if_neg hb] at HS
            replace hq' : Hid (byteStep r x = shn (8 - (j + 1)) (q3 ^^^ x / 2 ^ (j + 1))) := Lib.hid (by rw [hq'.out, HS, hy2.out])
            have hb' : ((qb : Int) != (yb : Int)) = true := by simp; omega
            clear HS hb
            go_wp2_with fail
            go_round
            case rel => exact ⟨j + 1, q3, by omega, by go_num, rfl, l3, hq'⟩
            case measure => simp [intOf]; omega
        · have hj' : j = 8 := by omega
          have hqr : byteStep r x = q := by rw [hq.out, hj', Nat.div_eq_of_lt (show x < 2 ^ 8 by omega), Nat.xor_zero]; rfl
          rw [hqr] at HD
          clear hqr hq
          go_wp2_with fail
          go_round
          case rel => exact ⟨k + 1, q, by omega, by go_num, rfl, lq, Lib.hid (hreg.out.trans HD.out)⟩
          case measure => simp [intOf]; omega
    · have hkn : k = xs.length := by omega
      have hrr : res = r := by rw [← HR.out, hreg.out, hkn, List.drop_length]; rfl
      subst hrr
      go_wp2_with fail
      go_ret
      exact ⟨rfl, rfl⟩

set_option maxHeartbeats 4000000 in
theorem register_none (s0 : Nat) (a : Option Addr) (c : Nat) (w : World) :
    Calls Tryd.prog 60 #[nU32 s0, .slice a 0 c] w fun e w' => e = .returned (nU32 s0) ∧ w' = w := by
  go_enter Tryd.func60, Tryd.ntmps60
  go_wp2_with fail
  go_loop [0, 5] (fun t0 t5 => t5 = .int .i64 0 ∧ t0 = nU32 s0) (fun _ _ => 0)
  case atStart => exact ⟨rfl, rfl⟩
  case round =>
    obtain ⟨rfl, rfl⟩ := hrel
    go_wp2_with fail
    go_ret
    exact ⟨rfl, rfl⟩

theorem register_any (s : Nat) (hs : s < 2 ^ 32) (a : Option Addr) (n c : Nat) (xs : List Nat) (hn : xs.length = n) (hx : ∀ x ∈ xs, x < 256) (hbig : n ≤ 9223372036854775807) (w : World) (hc : In w a xs) :
    Calls Tryd.prog 60 #[nU32 s, .slice a n c] w fun e w' => e = .returned (nU32 (reg s xs)) ∧ w' = w := by
  rcases hc with rfl | ⟨b, rfl, hc⟩
  · simp only [List.length_nil] at hn
    subst hn
    exact register_none s a c w
  · exact register_at s hs b n c xs hn hx hbig w hc

set_option maxHeartbeats 4000000 in
theorem rsum_any (a : Option Addr) (n c : Nat) (xs : List Nat) (hn : xs.length = n) (hx : ∀ x ∈ xs, x < 256) (hbig : n ≤ 9223372036854775807) (w : World) (hc : In w a xs) :
    Calls Tryd.prog 41 #[.slice a n c] w fun e w' => e = .returned (nU32 (crc xs)) ∧ w' = w := by
  have hu := register_any 4294967295 (by decide) a n c xs hn hx hbig w hc
  have hb : bits .xor .u32 ((reg 4294967295 xs : Nat) : Int) 4294967295 = ((reg 4294967295 xs ^^^ 4294967295 : Nat) : Int) := bx (a := reg 4294967295 xs) (b := 4294967295) (reg_lt xs (by decide) hx) (by decide)
  generalize hv : crc xs = v
  unfold crc at hv
  rw [hv] at hb
  generalize reg 4294967295 xs = r at hu hb
  clear hc hv
  go_enter Tryd.func41, Tryd.ntmps41
  go_wp2_with (go_at_call 60; refine hu.mono ?_; rintro e w' ⟨rfl, rfl⟩)
  go_ret
  exact ⟨rfl, rfl⟩
end Go.Proofs.YthfoakomapmkeaaDoor.Crc
/- The contract of Errors. -/
namespace Go.Proofs.YthfoakomapmkeaaDoor.Crc
open Go.RowKit

theorem below_drewN {W w : World} {N : Nat} (k : Nat) (h : Below N W w) : Below N W (w.drewN k) := h.trans ⟨rfl, rfl, rfl, Nat.le_refl _, fun _ _ => rfl⟩
theorem keepc {W w : World} {a : Addr} {v : Value} (hb : Below W.heap.size W w) (h : W.cell? a = some v) : w.cell? a = some v := (hb.cell (World.block_lt_of_cell? W a h)).trans h

/-- What Errors answers. -/
def errs (ds : List Nat) : Nat × Nat × Nat := es 0 ds 0 0 0

theorem getD_lt {xs : List Nat} {b k : Nat} (hx : ∀ x ∈ xs, x < b) (hk : k < xs.length) : xs.getD k 0 < b := by
  rw [List.getD_eq_getElem?_getD, List.getElem?_eq_getElem hk]; exact hx _ (List.getElem_mem hk)
theorem drop_getD {xs : List Nat} {k : Nat} (hk : k < xs.length) : xs.drop k = xs.getD k 0 :: xs.drop (k + 1) := by
  rw [List.drop_eq_getElem_cons hk, List.getD_eq_getElem?_getD, List.getElem?_eq_getElem hk]; rfl
theorem zip_getD {xs ys : List Nat} {k : Nat} (hk : k < xs.length) (hk' : k < ys.length) : (List.zipWith (· ^^^ ·) xs ys).getD k 0 = xs.getD k 0 ^^^ ys.getD k 0 := by
  simp [List.getD_eq_getElem?_getD, List.getElem?_zipWith, List.getElem?_eq_getElem hk, List.getElem?_eq_getElem hk']

set_option maxHeartbeats 8000000 in
theorem errors_at (a b : Addr) (n ca cb : Nat) (xs ys : List Nat) (hn : xs.length = n) (hm : ys.length = n) (hx : ∀ x ∈ xs, x < 256) (hy : ∀ x ∈ ys, x < 256) (hbig : n ≤ 1000) (w : World) (hc : At w a xs) (hd : At w b ys) :
    Calls Tryd.prog 35 #[.slice (some a) n ca, .slice (some b) n cb] w fun e w' =>
      e = .returned (.tuple #[.int .i64 ((errs (List.zipWith (· ^^^ ·) xs ys)).1 : Int), .int .i64 ((errs (List.zipWith (· ^^^ ·) xs ys)).2.2 - (errs (List.zipWith (· ^^^ ·) xs ys)).2.1 : Int)]) ∧ Below w.heap.size w w' := by
  have HX := Lib.hid hx
  have HY := Lib.hid hy
  have HC := Lib.hid hc
  have HD := Lib.hid hd
  clear hx hy hc hd
  obtain ⟨ds, hds⟩ : ∃ ds, List.zipWith (· ^^^ ·) xs ys = ds := ⟨_, rfl⟩
  have HDS := Lib.hid hds
  rw [hds]
  clear hds
  have hdl : ds.length = n := by rw [← HDS.out]; simp [hn, hm]
  obtain ⟨rc, rf, rl, hres⟩ : ∃ rc rf rl, errs ds = (rc, rf, rl) := ⟨_, _, _, rfl⟩
  have HR := Lib.hid hres
  rw [hres]
  clear hres
  go_enter Tryd.func35, Tryd.ntmps35
  go_wp2_with fail
  go_loopw [6, 7, 8, 18] (fun t6 t7 t8 t18 wr => ∃ (k c f l : Nat), k ≤ n ∧ t18 = .int .i64 k ∧ t6 = .int .i64 c ∧ t7 = .int .i64 f ∧ t8 = .int .i64 ((l : Int) - 1) ∧ c ≤ 8 * k ∧ f ≤ 8 * k ∧ l ≤ 8 * k ∧ Hid (errs ds = es k (ds.drop k) c f l) ∧ Below w.heap.size w wr) (fun _ _ _ t18 _ => n - (intOf t18).toNat)
  case atStart => exact ⟨0, 0, 0, 0, Nat.zero_le _, rfl, rfl, rfl, rfl, by omega, by omega, by omega, rfl, Below.refl _ _⟩
  case round =>
    obtain ⟨k, c, f, l, hk, rfl, rfl, rfl, rfl, lc, lf, ll, hes, kb⟩ := hrel
    by_cases hlt : k < n
    · have h1 := keepc kb (HC.out k (by omega))
      have h2 := keepc kb (HD.out k (by omega))
      have hltz : (k : Int) < (n : Int) := by omega
      have hge : (0 : Int) ≤ (k : Int) := by omega
      have lx : xs.getD k 0 < 256 := getD_lt HX.out (by omega)
      have ly : ys.getD k 0 < 256 := getD_lt HY.out (by omega)
      have e1 := u8_xor_nat _ _ lx ly
      have ld : xs.getD k 0 ^^^ ys.getD k 0 < 256 := Nat.xor_lt_two_pow (n := 8) lx ly
      have HDr : Hid (es k (ds.drop k) c f l = es k ((xs.getD k 0 ^^^ ys.getD k 0) :: ds.drop (k + 1)) c f l) := Lib.hid (by
        rw [← zip_getD (by omega) (by omega), HDS.out, ← drop_getD (by omega)])
      generalize xs.getD k 0 ^^^ ys.getD k 0 = d at e1 ld HDr
      generalize xs.getD k 0 = x at e1 h1
      generalize ys.getD k 0 = y at e1 h2
      by_cases hd0 : d = 0
      · subst hd0
        have HE : Hid (errs ds = es (k + 1) (ds.drop (k + 1)) c f l) := Lib.hid (by rw [hes.out, HDr.out, es, if_pos rfl])
        clear hes HDr
        go_wp2_with fail
        go_quiet (fail)
        go_wp2_with fail
        go_roundw
        case rel => exact ⟨k + 1, c, f, l, by omega, by go_num, rfl, rfl, rfl, by omega, by omega, by omega, HE, below_drewN _ kb⟩
        case measure => simp [intOf]; omega
      · have hdz : ((d : Int) == 0) = false := by simp; omega
        have p1 := ones_le d ld
        have p2 := blen_le d ld
        have p3 := tz_le d ld
        have p4 := blen_pos d ld hd0
        have HE : Hid (errs ds = es (k + 1) (ds.drop (k + 1)) (c + Lib.onesCount d) (if c = 0 then 8 * k + Lib.trailingZeros8 d else f) (8 * k + Lib.bitLen d)) := Lib.hid (by rw [hes.out, HDr.out, es, if_neg hd0])
        clear hes HDr
        generalize hg1 : Lib.onesCount d = o1 at HE p1
        generalize hg2 : Lib.bitLen d = o2 at HE p2 p4
        generalize hg3 : Lib.trailingZeros8 d = o3 at HE p3
        have q1 := ones_any d
        have q2 := len8_any d
        have q3 := tz8_any d
        rw [hg1] at q1
        rw [hg2] at q2
        rw [hg3] at q3
        clear hg1 hg2 hg3
        by_cases hc0 : c = 0
        · subst hc0
          rw [if_pos rfl] at HE
          go_wp2_with fail
          go_quiet (fail)
          go_wp2_with (first | (go_at_call 56; refine (q3 _ ld).mono ?_; rintro e w' ⟨rfl, hw'⟩; have hw'' := hw'.symm; subst hw'') | (go_at_call 57; refine (q2 _ ld).mono ?_; rintro e w' ⟨rfl, hw'⟩; have hw'' := hw'.symm; subst hw'') | (go_at_call 58; refine (q1 _ ld).mono ?_; rintro e w' ⟨rfl, hw'⟩; have hw'' := hw'.symm; subst hw''))
          go_roundw
          case rel => exact ⟨k + 1, 0 + o1, 8 * k + o3, 8 * k + o2, by omega, by go_num, by go_num, by go_num, by go_num, by omega, by omega, by omega, HE, below_drewN _ kb⟩
          case measure => simp [intOf]; omega
        · rw [if_neg hc0] at HE
          have hcz : ((c : Int) == 0) = false := by simp; omega
          go_wp2_with fail
          go_quiet (fail)
          go_wp2_with (first | (go_at_call 56; refine (q3 _ ld).mono ?_; rintro e w' ⟨rfl, hw'⟩; have hw'' := hw'.symm; subst hw'') | (go_at_call 57; refine (q2 _ ld).mono ?_; rintro e w' ⟨rfl, hw'⟩; have hw'' := hw'.symm; subst hw'') | (go_at_call 58; refine (q1 _ ld).mono ?_; rintro e w' ⟨rfl, hw'⟩; have hw'' := hw'.symm; subst hw''))
          go_roundw
          case rel => exact ⟨k + 1, c + o1, f, 8 * k + o2, by omega, by go_num, by go_num, by go_num, by go_num, by omega, by omega, by omega, HE, below_drewN _ kb⟩
          case measure => simp [intOf]; omega
    · have hkn : k = ds.length := by omega
      have HE : (rc, rf, rl) = (c, f, l) := by rw [← HR.out, hes.out, hkn, List.drop_length]; rfl
      cases HE
      clear hes
      go_wp2_with fail
      refine bodyPost_ret (v := .tuple #[.int .i64 (rc : Int), .int .i64 ((rl : Int) - rf)]) (by simp [results, Tryd.results35, go_sem]; omega) rfl ⟨rfl, kb⟩

set_option maxHeartbeats 4000000 in
theorem errors_none (a b : Option Addr) (ca cb : Nat) (w : World) :
    Calls Tryd.prog 35 #[.slice a 0 ca, .slice b 0 cb] w fun e w' => e = .returned (.tuple #[.int .i64 0, .int .i64 0]) ∧ Below w.heap.size w w' := by
  go_enter Tryd.func35, Tryd.ntmps35
  go_wp2_with fail
  go_loopw [6, 7, 8, 18] (fun t6 t7 t8 t18 wr => t18 = .int .i64 0 ∧ t6 = .int .i64 0 ∧ t7 = .int .i64 0 ∧ t8 = .int .i64 (-1) ∧ Below w.heap.size w wr) (fun _ _ _ _ _ => 0)
  case atStart => exact ⟨rfl, rfl, rfl, rfl, Below.refl _ _⟩
  case round =>
    obtain ⟨rfl, rfl, rfl, rfl, kb⟩ := hrel
    go_wp2_with fail
    refine bodyPost_ret (v := .tuple #[.int .i64 0, .int .i64 0]) (by simp [results, Tryd.results35, go_sem]) rfl ⟨rfl, kb⟩

set_option maxHeartbeats 4000000 in
theorem errors_ne (a b : Option Addr) (n m ca cb : Nat) (hne : n ≠ m) (w : World) :
    Calls Tryd.prog 35 #[.slice a n ca, .slice b m cb] w fun e w' => e = .returned (.tuple #[.int .i64 (-1), .int .i64 (-1)]) ∧ Below w.heap.size w w' := by
  have hz : ((n : Int) != (m : Int)) = true := by simp; omega
  go_enter Tryd.func35, Tryd.ntmps35
  go_wp2_with fail
  refine bodyPost_ret (v := .tuple #[.int .i64 (-1), .int .i64 (-1)]) (by simp [results, Tryd.results35, go_sem]) rfl ⟨rfl, Below.refl _ _⟩

theorem errors_any (a b : Option Addr) (n ca cb : Nat) (xs ys : List Nat) (hn : xs.length = n) (hm : ys.length = n) (hx : ∀ x ∈ xs, x < 256) (hy : ∀ x ∈ ys, x < 256) (hbig : n ≤ 1000) (w : World) (hc : In w a xs) (hd : In w b ys) :
    Calls Tryd.prog 35 #[.slice a n ca, .slice b n cb] w fun e w' =>
      e = .returned (.tuple #[.int .i64 ((errs (List.zipWith (· ^^^ ·) xs ys)).1 : Int), .int .i64 ((errs (List.zipWith (· ^^^ ·) xs ys)).2.2 - (errs (List.zipWith (· ^^^ ·) xs ys)).2.1 : Int)]) ∧ Below w.heap.size w w' := by
  by_cases h0 : n = 0
  · subst h0
    obtain rfl := List.length_eq_zero_iff.1 hn
    obtain rfl := List.length_eq_zero_iff.1 hm
    exact errors_none a b ca cb w
  · rcases hc with rfl | ⟨a', rfl, hc⟩
    · simp at hn; omega
    · rcases hd with rfl | ⟨b', rfl, hd⟩
      · simp at hm; omega
      · exact errors_at a' b' n ca cb xs ys hn hm hx hy hbig w hc hd
end Go.Proofs.YthfoakomapmkeaaDoor.Crc
/- The laws' first call: the chapter's examples hold. -/
namespace Go.Proofs.YthfoakomapmkeaaDoor.Crc
open Go.RowKit

theorem keepa {w : World} {a : Addr} {v : Value} (o : Obj) (h : w.cell? a = some v) : (w.alloc o).cell? a = some v := (World.cell?_alloc_lt _ _ _ (World.block_lt_of_cell? w a h)).trans h
theorem add_off (b i : Nat) : (⟨b, 0, none⟩ : Addr).add i = ⟨b, i, none⟩ := by
  unfold Addr.add
  by_cases h : i = 0
  · subst h; simp
  · simp [h]
theorem at_mark (w : World) (xs : List Nat) (t : TypeId) (fr : Nat × Nat) (n : Nat) (hn : n = w.heap.size) : At (w.alloc (.cells (xs.map nU8).toArray t fr)) ⟨n, 0, none⟩ xs := by
  subst hn
  intro i hi
  rw [add_off, World.cell?_alloc_mark]
  simp [hi, List.getD_eq_getElem?_getD]

end Go.Proofs.YthfoakomapmkeaaDoor.Crc
/- The contract of Append. -/
namespace Go.Proofs.YthfoakomapmkeaaDoor.Crc
open Go.RowKit

theorem Tryd.infoU8 : (Tryd.prog.info? 5).map (fun i => (i.zero, i.size, i.bytes)) = some (some (.int .u8 0), 1, 1) := by kernel_rfl
theorem Tryd.sizeU8 : (Tryd.prog.info? 5).map (·.size) = some 1 := by kernel_rfl
theorem nU8_one (xs : List Nat) : ∀ v ∈ xs.map nU8, v.oneCell' = true := by
  intro v hv
  obtain ⟨x, _, rfl⟩ := List.mem_map.1 hv
  rfl
/-- A slice of the call's own that holds xs. -/
def Own (B : Nat) (w : World) (v : Value) (xs : List Nat) : Prop := w.ownsRow B 5 1 v xs.length (xs.map nU8)


theorem own_splice {w : World} {g n : Nat} {xs : List Nat} (hn : xs.length = n) (hg : w.heap[g]? = some (.cells (splice (List.replicate (n + 4) (Value.int .u8 0)) 0 (xs.map nU8)).toArray 5 (0, 0))) (hb : n ≤ 1000) :
    w.ownsRow g 5 1 (.slice (some ⟨g, 0, none⟩) n (n + 4)) n (xs.map nU8) := by
  refine ⟨by simp [hn], .inr ⟨g, n + 4, _, rfl, Nat.le_refl _, hg, by omega, by unfold maxLen; omega, ?_, ?_⟩⟩
  · simp [splice, hn]
  · simp [splice, hn]
theorem lit_at (w : World) (vs : List Value) (t : TypeId) (n : Nat) (hn : n = w.heap.size) : ∀ j u, vs[j]? = some u → (w.alloc (.cells vs.toArray t)).cell? ((⟨n, 0, none⟩ : Addr).add j) = some u := by
  intro j u hj
  subst hn
  rw [add_off, World.cell?_alloc_mark]
  simpa using hj

set_option maxHeartbeats 8000000 in
theorem append_any (a : Option Addr) (n c : Nat) (xs : List Nat) (hn : xs.length = n) (hx : ∀ x ∈ xs, x < 256) (hbig : n ≤ 1000) (w : World) (hc : In w a xs) (hT : HasTab w) :
    Calls Tryd.prog 38 #[.slice a n c] w fun e w' => ∃ v', e = .returned v' ∧ Own w.heap.size w' v' (xs ++ le4 (crc xs)) ∧ Below w.heap.size w w' := by
  have HT := Lib.hid hT
  have HX := Lib.hid hx
  have HI := Lib.hid hc
  clear hT hx hc
  have HL := crc_lt HX.out
  obtain ⟨i0, hi, hz0, hz1, hz2⟩ := info_parts Tryd.infoU8
  have hu22 := Tryd.underlying22
  have hmk := run_make (P := Tryd.prog) w 22 5 i0 (.int .u8 0) hu22 hi hz0 .i64 .i64 (n : Int) ((n : Int) + 4) (by omega) (by omega) (by rw [hz2]; omega) (by omega)
  rw [hz1] at hmk
  have hcur : (w.alloc (.cells (madeCells (Value.int .u8 0).cells (n + 4)) 5)).heap[w.heap.size]? = some (.cells (List.replicate (n + 4) (Value.int .u8 0)).toArray 5 (0, 0)) := by
    show (w.heap.push _)[w.heap.size]? = _
    have : madeCells (Value.int .u8 0).cells (n + 4) = (List.replicate (n + 4) (Value.int .u8 0)).toArray := by
      rw [← toList_madeCells_one]; rfl
    rw [this]
    simp
  have hpos : 0 < (xs.map nU8).length → ∃ ad, a = some ad ∧ ∀ j v, (xs.map nU8)[j]? = some v → (w.alloc (.cells (madeCells (Value.int .u8 0).cells (n + 4)) 5)).cell? (ad.add j) = some v := by
    intro hp
    rcases HI.out with h0 | ⟨ad, hA, hat⟩
    · simp [h0] at hp
    refine ⟨ad, hA, fun j v hj => ?_⟩
    simp at hj
    obtain ⟨x, hxj, rfl⟩ := hj
    have hjl : j < xs.length := (List.getElem?_eq_some_iff.1 hxj).1
    have := keepa (.cells (madeCells (Value.int .u8 0).cells (n + 4)) 5) (hat j hjl)
    rw [this]
    simp [List.getD_eq_getElem?_getD, hxj]
  have hb0 : Below w.heap.size w (w.alloc (.cells (madeCells (Value.int .u8 0).cells (n + 4)) 5)) := (Below.refl _ _).alloc (Nat.le_refl _) _
  have HCUR := Lib.hid hcur
  have HPOS := Lib.hid hpos
  clear hcur hpos
  obtain ⟨v0, v1, v2, v3, hle, e0, e1, e2, e3⟩ : ∃ v0 v1 v2 v3 : Nat, le4 (crc xs) = [v0, v1, v2, v3] ∧ (crc xs : Int) % 256 = (v0 : Int) ∧ (crc xs : Int) / 256 % 256 = (v1 : Int) ∧ (crc xs : Int) / 65536 % 256 = (v2 : Int) ∧ (crc xs : Int) / 16777216 = (v3 : Int) :=
    ⟨_, _, _, _, rfl, by omega, by omega, by omega, by omega⟩
  have HS := sum_any a n c xs hn HX.out (by omega) w HI.out HT.out
  generalize crc xs = s at HL e0 e1 e2 e3 HS hle
  rw [hle]
  clear hle
  go_enter Tryd.func38, Tryd.ntmps38
  go_wp2_with (first | (go_at_call 59; refine HS.mono ?_; rintro e w1 ⟨rfl, hw1⟩; have hw1' := hw1.symm; subst hw1') | (refine wpList_copy_splice (o := ⟨some 15, _, _, _, _, _⟩) rfl (.tmp 13) (.tmp 14) 22 22 rfl 5 hu22 Tryd.sizeU8 (some ⟨w.heap.size, 0, none⟩) a n (n + 4) n c rfl rfl w.heap.size 0 (List.replicate (n + 4) (Value.int .u8 0)) 5 HCUR.out (xs.map nU8) (by simp [hn]) (fun hp => ⟨rfl, HPOS.out hp⟩) (by simp; omega) (nU8_one xs) w.heap.size w hb0 (Nat.le_refl _) ?_; intro w2 hg2 hb2; have HO := Lib.hid (own_splice hn hg2.out hbig); have hsz2 : ∀ {o : Obj}, w.heap.size ≤ (w2.alloc o).heap.size := (by intro o; show _ ≤ (w2.heap.push o).size; rw [Array.size_push]; exact Nat.le_succ_of_le hb2.size); clear hg2) | (at_builtin; refine wpList_append_own (o := ⟨some 29, _, _, _, _, _⟩) _ rfl (.tmp 16) (.tmp 28) 22 rfl w.heap.size 5 i0 (.int .u8 0) 1 1 hu22 hi hz0 hz1 hz2 rfl (by decide) _ n (xs.map nU8) rfl (HO.out.alloc _) ⟨w2.heap.size, 0, none⟩ 4 4 ([v0, v1, v2, v3].map nU8) rfl rfl (lit_at _ _ _ _ rfl) (nU8_one _) (by unfold maxLen; omega) (by omega) hsz2 ?_; intro v' w3 hown3 hgrow3 hnil3; have HO3 := Lib.hid hown3; have HB3 := Lib.hid ((hb2.alloc hb2.size _).grown hgrow3 hsz2 (by rintro k hk; cases hk; exact Nat.le_refl _)); clear hown3 hgrow3 hnil3))
  go_ret
  refine ⟨_, rfl, ?_, HB3.out⟩
  have := HO3.out
  simpa [Own, hn] using this
end Go.Proofs.YthfoakomapmkeaaDoor.Crc
/- More plain mathematics for layer 2: four bytes as a number; sealed strings. -/
namespace Go.Proofs.YthfoakomapmkeaaDoor.Crc

theorem xor_add {x : Nat} (hx : x < 256) (y : Nat) : x ^^^ 256 * y = x + 256 * y := by
  have h := split_xor 8 (x + 256 * y)
  rw [show (x + 256 * y) / 2 ^ 8 = y by omega, show (x + 256 * y) % 2 ^ 8 = x by omega, show 2 ^ 8 = 256 by decide, Nat.xor_comm] at h
  exact h.symm
theorem val_le4 {v : Nat} (hv : v < 2 ^ 32) : val (le4 v) = v := by
  simp only [le4, val, Nat.mul_zero, Nat.xor_zero]
  rw [xor_add (Nat.mod_lt _ (by decide)), xor_add (Nat.mod_lt _ (by decide)), xor_add (Nat.mod_lt _ (by decide))]
  omega
theorem reg_le4 (r : Nat) {v : Nat} (hv : v < 2 ^ 32) : reg r (le4 v) = shn 32 (r ^^^ v) := by rw [reg_val, val_le4 hv]; rfl
/-- The register behind every sealed string. -/
theorem sealed_reg {xs : List Nat} (hx : ∀ x ∈ xs, x < 256) : reg 4294967295 (xs ++ le4 (crc xs)) = 3736805603 := by
  rw [reg_append, reg_le4 _ (crc_lt hx), crc, ← Nat.xor_assoc, Nat.xor_self, Nat.zero_xor]
  decide +kernel
theorem sealed_crc {xs : List Nat} (hx : ∀ x ∈ xs, x < 256) : crc (xs ++ le4 (crc xs)) = 558161692 := by
  rw [crc, sealed_reg hx]; decide
theorem sealed_lt {xs : List Nat} (hx : ∀ x ∈ xs, x < 256) : ∀ x ∈ xs ++ le4 (crc xs), x < 256 := by
  intro x h
  rcases List.mem_append.1 h with h | h
  · exact hx x h
  · exact le4_lt _ x h
theorem sealed_length (xs : List Nat) : (xs ++ le4 (crc xs)).length = xs.length + 4 := by simp [le4_length]
end Go.Proofs.YthfoakomapmkeaaDoor.Crc
/- The reference's Errors: its contract. -/
namespace Go.Proofs.YthfoakomapmkeaaDoor.Crc
open Go.RowKit

/-- A fact that no tactic looks into. -/
structure Box (p : Prop) : Prop where
  out : p
theorem box {p : Prop} (h : p) : Box p := ⟨h⟩

end Go.Proofs.YthfoakomapmkeaaDoor.Crc
/- The walk of CrcResidue. -/
namespace Go.Proofs.YthfoakomapmkeaaDoor.Crc
open Go.RowKit

/-- What an owned row is good for: its form, and its bytes. -/
theorem Own.form {B : Nat} {w : World} {v : Value} {xs : List Nat} (h : Own B w v xs) : ∃ (a : Option Addr) (c : Nat), v = .slice a xs.length c ∧ In w a xs := by
  have h' : w.ownsRow B 5 1 v xs.length (xs.map nU8) := h
  have hc := h'
  obtain ⟨_, hcase⟩ := h'
  rcases hcase with ⟨rfl, h0⟩ | ⟨g, cap, cur, rfl, hg, hh, hn, hcap, hsz, htake⟩
  · exact ⟨none, 0, by rw [h0], .inl (List.length_eq_zero_iff.1 h0)⟩
  · refine ⟨some ⟨g, 0, none⟩, cap, rfl, .inr ⟨_, rfl, fun i hi => ?_⟩⟩
    rw [add_off, hc.cellAt i (by omega)]
    simp [List.getD_eq_getElem?_getD, List.getElem?_eq_getElem hi]

end Go.Proofs.YthfoakomapmkeaaDoor.Crc
/- bytes.Clone, and the contract of Check. -/
namespace Go.Proofs.YthfoakomapmkeaaDoor.Crc
open Go.RowKit

theorem in_some_cells {w : World} {b : Addr} {xs : List Nat} (h : At w b xs) (o : Obj) : ∀ j u, (xs.map nU8)[j]? = some u → (w.alloc o).cell? (b.add j) = some u := by
  intro j u hj
  simp at hj
  obtain ⟨x, hxj, rfl⟩ := hj
  have hjl : j < xs.length := (List.getElem?_eq_some_iff.1 hxj).1
  rw [keepa o (h j hjl)]
  simp [List.getD_eq_getElem?_getD, hxj]

set_option maxHeartbeats 4000000 in
/-- Clone of a slice that is not nil. -/
theorem clone_at (b : Addr) (n c : Nat) (xs : List Nat) (hn : xs.length = n) (hbig : n ≤ 1000) (w : World) (hc : At w b xs) :
    Calls Tryd.prog 62 #[.slice (some b) n c] w fun e w' => ∃ v', e = .returned v' ∧ Own w.heap.size w' v' xs ∧ Below w.heap.size w w' := by
  have HC := box hc
  clear hc
  obtain ⟨i0, hi, hz0, hz1, hz2⟩ := info_parts Tryd.infoU8
  have hu22 := Tryd.underlying22
  have q22 : ∀ (w : World) (a : Option Addr) (n c n' c' : Nat), (binOp .eql 22 (.slice a n c) (.slice none n' c')).run Tryd.prog w = .ok (.bool a.isNone) w := fun w a n c n' c' => Lib.run_eql_slice_nil w _ _ a n c n' c' hu22
  have hsz : ∀ {o : Obj}, w.heap.size ≤ (w.alloc o).heap.size := by intro o; show _ ≤ (w.heap.push o).size; rw [Array.size_push]; exact Nat.le_succ _
  go_enter Tryd.func62, Tryd.ntmps62
  go_wp2_with (at_builtin; refine wpList_append_own _ rfl _ _ 22 rfl w.heap.size 5 i0 (.int .u8 0) 1 1 hu22 hi hz0 hz1 hz2 rfl (by decide) _ 0 [] rfl (World.ownsRow_made w #[] 0 (Nat.le_refl _) (Nat.zero_le _) rfl) b n c (xs.map nU8) rfl (by simp [hn]) (in_some_cells HC.out _) (nU8_one _) (by unfold maxLen; omega) (by omega) hsz ?_; intro v' w3 hown3 hgrow3 hnil3; have HO3 := box hown3; have HB3 := box (((Below.refl w.heap.size w).alloc (Nat.le_refl _) (.cells #[] 5)).grown hgrow3 hsz (by rintro k hk; cases hk; exact Nat.le_refl _)); clear hown3 hgrow3 hnil3)
  go_ret
  refine ⟨_, rfl, ?_, HB3.out⟩
  have := HO3.out
  simpa [Own, hn] using this

set_option maxHeartbeats 4000000 in
theorem check_short (a : Option Addr) (n c : Nat) (h4 : n < 4) (w : World) :
    Calls Tryd.prog 43 #[.slice a n c] w fun e w' => e = .returned (.tuple #[.slice none 0 0, .int .i64 4]) ∧ w' = w := by
  have hz : (n : Int) < 4 := by omega
  have hd : decide ((n : Int) < 4) = true := decide_eq_true hz
  go_enter Tryd.func43, Tryd.ntmps43
  go_wp2_with fail
  refine bodyPost_ret (v := .tuple #[.slice none 0 0, .int .i64 4]) (by simp [results, Tryd.results43, go_sem]) rfl ⟨rfl, rfl⟩

set_option maxHeartbeats 4000000 in
theorem check_bad (a : Option Addr) (n c : Nat) (xs : List Nat) (hn : xs.length = n) (hx : ∀ x ∈ xs, x < 256) (hbig : n ≤ 1000) (h4 : ¬ n < 4) (hr : crc xs ≠ 558161692) (w : World) (hc : In w a xs) (hT : HasTab w) :
    Calls Tryd.prog 43 #[.slice a n c] w fun e w' => e = .returned (.tuple #[.slice none 0 0, .int .i64 9]) ∧ w' = w := by
  have hd : decide ((n : Int) < 4) = false := decide_eq_false (by omega)
  have hz : ((crc xs : Int) != 558161692) = true := by simp; omega
  have HS := box (sum_any a n c xs hn hx (by omega) w hc hT)
  clear hc hT hx
  generalize crc xs = s at hz HS hr
  go_enter Tryd.func43, Tryd.ntmps43
  go_wp2_with (go_at_call 59; refine HS.out.mono ?_; rintro e w1 ⟨rfl, hw1⟩; have hw1' := hw1.symm; subst hw1')
  refine bodyPost_ret (v := .tuple #[.slice none 0 0, .int .i64 9]) (by simp [results, Tryd.results43, go_sem]) rfl ⟨rfl, rfl⟩

set_option maxHeartbeats 4000000 in
theorem check_ok (a : Option Addr) (n c : Nat) (xs : List Nat) (hn : xs.length = n) (hx : ∀ x ∈ xs, x < 256) (hbig : n ≤ 1000) (h4 : ¬ n < 4) (hcap : n ≤ c) (hr : crc xs = 558161692) (w : World) (hc : In w a xs) (hT : HasTab w) :
    Calls Tryd.prog 43 #[.slice a n c] w fun e w' => ∃ v', e = .returned (.tuple #[v', .int .i64 0]) ∧ Own w.heap.size w' v' (xs.take (n - 4)) ∧ Below w.heap.size w w' := by
  have hd : decide ((n : Int) < 4) = false := decide_eq_false (by omega)
  have HS := box (sum_any a n c xs hn hx (by omega) w hc hT)
  rw [hr] at HS
  obtain ⟨b, rfl, hat⟩ : ∃ b, a = some b ∧ At w b xs := by
    rcases hc with h | h
    · subst h; simp at hn; omega
    · exact h
  have HK := box (clone_at b (n - 4) c (xs.take (n - 4)) (by simp; omega) (by omega) w (fun i hi => by
    simp at hi
    rw [hat i (by omega)]
    simp [List.getD_eq_getElem?_getD, show i < n - 4 by omega]))
  clear hc hT hx hat hr
  go_enter Tryd.func43, Tryd.ntmps43
  go_wp2_with (go_at_call 59; refine HS.out.mono ?_; rintro e w1 ⟨rfl, hw1⟩; have hw1' := hw1.symm; subst hw1')
  refine HK.out.mono ?_
  rintro e w2 ⟨v', rfl, hown, hb⟩
  obtain ⟨a2, c2, rfl, hin⟩ := hown.form
  have HO := box hown
  clear hown hin
  go_wp2_with fail
  refine bodyPost_ret (v := .tuple #[.slice a2 (xs.take (n - 4)).length c2, .int .i64 0]) (by simp [results, Tryd.results43, go_sem]; omega) rfl ⟨_, rfl, HO.out, hb⟩
end Go.Proofs.YthfoakomapmkeaaDoor.Crc
/- Plain mathematics for layer 2: inverted bits. -/
namespace Go.Proofs.YthfoakomapmkeaaDoor.Crc

/-- A string with one bit inverted. -/
def flip (ys : List Nat) (k : Nat) : List Nat := ys.set (k / 8) (ys.getD (k / 8) 0 ^^^ 2 ^ (k % 8))
theorem flip_length (ys : List Nat) (k : Nat) : (flip ys k).length = ys.length := by simp [flip]

theorem mul_xor (n a b : Nat) : 2 ^ n * (a ^^^ b) = 2 ^ n * a ^^^ 2 ^ n * b := by
  apply Nat.eq_of_testBit_eq
  intro i
  simp only [Nat.testBit_xor, Nat.testBit_two_pow_mul]
  by_cases h : n ≤ i <;> simp [h]

theorem val_set : ∀ (xs : List Nat) (j t : Nat), j < xs.length → val (xs.set j (xs.getD j 0 ^^^ t)) = val xs ^^^ 2 ^ (8 * j) * t
  | [], _, _, h => by simp at h
  | x :: xs, 0, t, _ => by
    simp only [List.set_cons_zero, val, List.getD_cons_zero, Nat.mul_zero, Nat.pow_zero, Nat.one_mul]
    rw [Nat.xor_assoc, Nat.xor_comm t, ← Nat.xor_assoc]
  | x :: xs, j + 1, t, h => by
    have ih := val_set xs j t (by simpa using h)
    simp only [List.set_cons_succ, val, List.getD_cons_succ]
    rw [ih, show (256 : Nat) = 2 ^ 8 by decide, mul_xor, ← Nat.xor_assoc, ← Nat.mul_assoc, ← Nat.pow_add, show 8 + 8 * j = 8 * (j + 1) by omega]
theorem val_flip (xs : List Nat) (k : Nat) (h : k < 8 * xs.length) : val (flip xs k) = val xs ^^^ 2 ^ k := by
  unfold flip
  rw [val_set xs (k / 8) _ (by omega), ← Nat.pow_add, show 8 * (k / 8) + k % 8 = k by omega]

/-- The register after k zero bits behind a one. -/
def C (k : Nat) : Nat := shn k 1
theorem C_lt (k : Nat) : C k < 2 ^ 32 := shn_lt k (by decide)
theorem C_ne (k : Nat) : C k ≠ 0 := fun h => absurd (shn_eq_zero k (by decide) h) (by decide)
theorem shn_pow (n a : Nat) (h : a ≤ n) : shn n (2 ^ a) = C (n - a) := by
  rw [show n = a + (n - a) by omega, shn_add, show (2 : Nat) ^ a = 2 ^ a * 1 by omega, shn_mul]
  congr 1
  omega
theorem C_add (a b : Nat) : C (a + b) = shn b (C a) := shn_add a b 1

def setC : Nat → Nat → Nat → Nat
  | 0, _, acc => acc
  | n + 1, r, acc => setC n (sh r) (acc ||| 1 <<< (r % 52970))
def noHit : Nat → Nat → Nat → Bool
  | 0, _, _ => true
  | n + 1, r, M => !(M.testBit ((r ^^^ 1) % 52970)) && (r != 1) && noHit n (sh r) M

theorem setC_acc : ∀ (n r acc t : Nat), acc.testBit t = true → (setC n r acc).testBit t = true
  | 0, _, _, _, h => h
  | n + 1, r, acc, t, h => setC_acc n _ _ t (by simp [Nat.testBit_or, h])
theorem setC_mem : ∀ (n r acc i : Nat), i < n → (setC n r acc).testBit (shn i r % 52970) = true
  | 0, _, _, _, h => by omega
  | n + 1, r, acc, 0, _ => setC_acc n _ _ _ (by simp [Nat.testBit_or, shn, Nat.testBit_shiftLeft])
  | n + 1, r, acc, i + 1, h => setC_mem n (sh r) _ i (by omega)
theorem noHit_out : ∀ (n r M i : Nat), noHit n r M = true → i < n → M.testBit ((shn i r ^^^ 1) % 52970) = false ∧ shn i r ≠ 1
  | 0, _, _, _, _, h => by omega
  | n + 1, r, M, 0, h, _ => by
    simp [noHit] at h
    exact ⟨h.1.1, h.1.2⟩
  | n + 1, r, M, i + 1, h, hi => by
    simp only [noHit, Bool.and_eq_true] at h
    exact noHit_out n (sh r) M i h.2 (by omega)

set_option maxRecDepth 100000 in
theorem all_hit : noHit 799 (sh 1) (setC 799 (sh 1) 0) = true := by decide +kernel

theorem C_one {i : Nat} (h1 : 1 ≤ i) (h2 : i < 800) : C i ≠ 1 := by
  have h := (noHit_out 799 (sh 1) _ (i - 1) all_hit (by omega)).2
  have e : C i = shn (i - 1) (sh 1) := by
    obtain ⟨j, rfl⟩ : ∃ j, i = j + 1 := ⟨i - 1, by omega⟩
    rfl
  rw [e]; exact h
theorem C_two {i j : Nat} (h1 : 1 ≤ i) (h2 : i < 800) (h3 : 1 ≤ j) (h4 : j < 800) : C i ^^^ 1 ≠ C j := by
  intro h
  have hh := (noHit_out 799 (sh 1) _ (i - 1) all_hit (by omega)).1
  have hm := setC_mem 799 (sh 1) 0 (j - 1) (by omega)
  have ei : C i = shn (i - 1) (sh 1) := by
    obtain ⟨j, rfl⟩ : ∃ j, i = j + 1 := ⟨i - 1, by omega⟩
    rfl
  have ej : C j = shn (j - 1) (sh 1) := by
    obtain ⟨i, rfl⟩ : ∃ i, j = i + 1 := ⟨j - 1, by omega⟩
    rfl
  rw [← ei, h, ej, hm] at hh
  cases hh

/-- Two inverted bits leave a trace. -/
theorem two_ne {a b : Nat} (ha : a ≤ 800) (hb : b ≤ 800) (ha1 : 1 ≤ a) (hb1 : 1 ≤ b) (h : a ≠ b) : C a ^^^ C b ≠ 0 := by
  intro h0
  have key : ∀ a b : Nat, 1 ≤ a → a < b → b ≤ 800 → C a ≠ C b := by
    intro a b h1 h2 h3 he
    rw [show b = (b - a) + a by omega, C_add] at he
    exact C_one (i := b - a) (by omega) (by omega) (shn_inj a (by decide) (C_lt _) he).symm
  have he := xor_eq_zero h0
  rcases Nat.lt_or_gt_of_ne h with h | h
  · exact key a b ha1 h hb he
  · exact key b a hb1 h ha he.symm
/-- Three inverted bits leave a trace. -/
theorem three_min {a b c : Nat} (ha1 : 1 ≤ a) (hab : a < b) (hac : a < c) (hb : b ≤ 800) (hc : c ≤ 800) : C a ^^^ C b ^^^ C c ≠ 0 := by
  intro h0
  rw [show b = (b - a) + a by omega, show c = (c - a) + a by omega, C_add, C_add, show C a = shn a 1 from rfl, ← shn_xor, ← shn_xor] at h0
  have h1 := shn_eq_zero a (Nat.xor_lt_two_pow (Nat.xor_lt_two_pow (by decide) (C_lt _)) (C_lt _)) h0
  rw [Nat.xor_comm 1] at h1
  exact C_two (i := b - a) (j := c - a) (by omega) (by omega) (by omega) (by omega) (xor_eq_zero h1)
theorem three_ne {a b c : Nat} (ha : a ≤ 800) (hb : b ≤ 800) (hc : c ≤ 800) (ha1 : 1 ≤ a) (hb1 : 1 ≤ b) (hc1 : 1 ≤ c) : C a ^^^ C b ^^^ C c ≠ 0 := by
  by_cases hab : a = b
  · subst hab
    rw [Nat.xor_self, Nat.zero_xor]; exact C_ne c
  by_cases hac : a = c
  · subst hac
    rw [Nat.xor_comm (C a), Nat.xor_assoc, Nat.xor_self, Nat.xor_zero]; exact C_ne b
  by_cases hbc : b = c
  · subst hbc
    rw [Nat.xor_assoc, Nat.xor_self, Nat.xor_zero]; exact C_ne a
  by_cases h1 : a < b ∧ a < c
  · exact three_min ha1 h1.1 h1.2 hb hc
  by_cases h2 : b < a ∧ b < c
  · rw [Nat.xor_comm (C a)]; exact three_min hb1 h2.1 h2.2 ha hc
  · rw [Nat.xor_comm (C a ^^^ C b), ← Nat.xor_assoc]
    exact three_min hc1 (by omega) (by omega) ha hb

/-- A string differs from a sealed one by the bits of E: it has the seal's check sum only if E leaves no trace. -/
theorem crc_trace {ss zs : List Nat} {E : Nat} (hl : zs.length = ss.length) (hr : reg 4294967295 ss = 3736805603) (hv : val zs = val ss ^^^ E) (hc : crc zs = 558161692) : shn (8 * ss.length) E = 0 := by
  have h1 : reg 4294967295 zs = 3736805603 := by
    unfold crc at hc
    have := congrArg (· ^^^ 4294967295) hc
    simp only [Nat.xor_assoc, Nat.xor_self, Nat.xor_zero] at this
    rw [this]; decide
  rw [reg_val, hl, hv, ← Nat.xor_assoc, shn_xor, ← reg_val, hr] at h1
  have := congrArg (3736805603 ^^^ ·) h1
  simp only [← Nat.xor_assoc, Nat.xor_self, Nat.zero_xor] at this
  exact this

/-- The number of ones. -/
def pop (ds : List Nat) : Nat := (ds.map Lib.onesCount).sum
theorem es_pop : ∀ (ds : List Nat) (i c f l : Nat), (es i ds c f l).1 = c + pop ds
  | [], _, _, _, _ => by simp [es, pop]
  | d :: ds, i, c, f, l => by
    have h0 : Lib.onesCount 0 = 0 := by decide
    unfold es
    split
    · rename_i h
      rw [es_pop ds]; subst h
      simp [pop, h0]
    · rw [es_pop ds]
      simp [pop, Nat.add_assoc]
/-- A bit of a string. -/
def bitAt (ds : List Nat) (k : Nat) : Bool := (ds.getD (k / 8) 0).testBit (k % 8)
theorem ones_up : ∀ d < 256, ∀ j < 8, d.testBit j = false → Lib.onesCount (d ^^^ 2 ^ j) = Lib.onesCount d + 1 := by decide +kernel
theorem ones_down : ∀ d < 256, ∀ j < 8, d.testBit j = true → Lib.onesCount (d ^^^ 2 ^ j) + 1 = Lib.onesCount d := by decide +kernel

theorem pop_set : ∀ (ds : List Nat) (j v : Nat), j < ds.length → pop (ds.set j v) + Lib.onesCount (ds.getD j 0) = pop ds + Lib.onesCount v
  | [], _, _, h => by simp at h
  | d :: ds, 0, v, _ => by simp [pop]; omega
  | d :: ds, j + 1, v, h => by
    have ih := pop_set ds j v (by simpa using h)
    simp only [List.set_cons_succ, List.getD_cons_succ]
    simp only [pop, List.map_cons, List.sum_cons] at ih ⊢
    omega
theorem pop_up {ds : List Nat} {k : Nat} (hd : ∀ d ∈ ds, d < 256) (h : k < 8 * ds.length) (hb : bitAt ds k = false) : pop (flip ds k) = pop ds + 1 := by
  have h1 := pop_set ds (k / 8) (ds.getD (k / 8) 0 ^^^ 2 ^ (k % 8)) (by omega)
  have hk : ds.getD (k / 8) 0 < 256 := by
    rw [List.getD_eq_getElem?_getD, List.getElem?_eq_getElem (by omega)]; exact hd _ (List.getElem_mem _)
  have h2 := ones_up _ hk (k % 8) (Nat.mod_lt _ (by decide)) hb
  unfold flip
  omega
theorem pop_down {ds : List Nat} {k : Nat} (hd : ∀ d ∈ ds, d < 256) (h : k < 8 * ds.length) (hb : bitAt ds k = true) : pop (flip ds k) + 1 = pop ds := by
  have h1 := pop_set ds (k / 8) (ds.getD (k / 8) 0 ^^^ 2 ^ (k % 8)) (by omega)
  have hk : ds.getD (k / 8) 0 < 256 := by
    rw [List.getD_eq_getElem?_getD, List.getElem?_eq_getElem (by omega)]; exact hd _ (List.getElem_mem _)
  have h2 := ones_down _ hk (k % 8) (Nat.mod_lt _ (by decide)) hb
  unfold flip
  omega
theorem bit_flip {ds : List Nat} {a b : Nat} (ha : a < 8 * ds.length) : bitAt (flip ds a) b = if a = b then !bitAt ds b else bitAt ds b := by
  unfold bitAt flip
  by_cases h8 : a / 8 = b / 8
  · rw [← h8, List.getD_eq_getElem?_getD, List.getElem?_set_self (by omega), Option.getD_some, Nat.testBit_xor, Nat.testBit_two_pow]
    by_cases hab : a = b
    · subst hab; simp
    · have : ¬ a % 8 = b % 8 := by omega
      simp [hab, this]
  · rw [List.getD_eq_getElem?_getD, List.getElem?_set_ne h8, ← List.getD_eq_getElem?_getD, if_neg (by rintro rfl; exact h8 rfl)]
theorem flip_lt {ds : List Nat} {k : Nat} (hd : ∀ d ∈ ds, d < 256) (h : k < 8 * ds.length) : ∀ d ∈ flip ds k, d < 256 := by
  intro d hm
  have hk : ds.getD (k / 8) 0 < 256 := by
    rw [List.getD_eq_getElem?_getD, List.getElem?_eq_getElem (by omega)]; exact hd _ (List.getElem_mem _)
  rcases List.mem_or_eq_of_mem_set hm with h | rfl
  · exact hd d h
  · exact Nat.xor_lt_two_pow (n := 8) hk (Nat.lt_of_lt_of_le (Nat.pow_lt_pow_right (by decide) (Nat.mod_lt k (by decide : 8 > 0))) (by decide))
theorem zip_flip {ss zs : List Nat} {k : Nat} (hl : zs.length = ss.length) (h : k < 8 * ss.length) : List.zipWith (· ^^^ ·) ss (flip zs k) = flip (List.zipWith (· ^^^ ·) ss zs) k := by
  apply List.ext_getElem?
  intro i
  unfold flip
  simp only [List.getElem?_zipWith, List.getElem?_set, List.getD_eq_getElem?_getD, List.length_zipWith]
  by_cases hi : k / 8 = i
  · subst hi
    have h1 : k / 8 < ss.length := by omega
    have h2 : k / 8 < zs.length := by omega
    simp [h1, h2, Nat.xor_assoc]
    omega
  · simp [hi]
theorem zip_self (ss : List Nat) : List.zipWith (· ^^^ ·) ss ss = List.replicate ss.length 0 := by
  induction ss with
  | nil => rfl
  | cons x ss ih => simp only [List.zipWith_cons_cons, Nat.xor_self, ih, List.length_cons, List.replicate_succ]
theorem pop_zero (n : Nat) : pop (List.replicate n 0) = 0 := by
  have h0 : Lib.onesCount 0 = 0 := by decide
  simp [pop, h0]
theorem bit_zero (n k : Nat) : bitAt (List.replicate n 0) k = false := by
  unfold bitAt
  rw [List.getD_eq_getElem?_getD, List.getElem?_replicate]
  split <;> simp
theorem pop_one {n a : Nat} (ha : a < 8 * n) : pop (flip (List.replicate n 0) a) = 1 := by
  rw [pop_up (by simp) (by simpa using ha) (bit_zero _ _), pop_zero]
theorem pop_two {n a b : Nat} (ha : a < 8 * n) (hb : b < 8 * n) (hab : a ≠ b) : pop (flip (flip (List.replicate n 0) a) b) = 2 := by
  rw [pop_up (flip_lt (by simp) (by simpa using ha)) (by simpa [flip_length] using hb) (by rw [bit_flip (by simpa using ha), if_neg hab, bit_zero]), pop_one ha]
theorem pop_back {n a : Nat} (ha : a < 8 * n) : pop (flip (flip (List.replicate n 0) a) a) = 0 := by
  have := pop_down (ds := flip (List.replicate n 0) a) (k := a) (flip_lt (by simp) (by simpa using ha)) (by simpa [flip_length] using ha) (by rw [bit_flip (by simpa using ha), if_pos rfl, bit_zero]; rfl)
  rw [pop_one ha] at this
  omega
theorem pop_three {n a b c : Nat} (ha : a < 8 * n) (hb : b < 8 * n) (hc : c < 8 * n) : pop (flip (flip (flip (List.replicate n 0) a) b) c) = 1 ∨ pop (flip (flip (flip (List.replicate n 0) a) b) c) = 3 := by
  have l1 : ∀ d ∈ flip (List.replicate n 0) a, d < 256 := flip_lt (by simp) (by simpa using ha)
  have l2 : ∀ d ∈ flip (flip (List.replicate n 0) a) b, d < 256 := flip_lt l1 (by simpa [flip_length] using hb)
  have hB : bitAt (flip (flip (List.replicate n 0) a) b) c = if b = c then !(if a = c then true else false) else if a = c then true else false := by
    rw [bit_flip (by simpa [flip_length] using hb), bit_flip (by simpa using ha), bit_zero]
    rfl
  have hlen : c < 8 * (flip (flip (List.replicate n 0) a) b).length := by simpa [flip_length] using hc
  by_cases hab : a = b
  · subst hab
    have hz : bitAt (flip (flip (List.replicate n 0) a) a) c = false := by rw [hB]; by_cases h : a = c <;> simp [h]
    left
    rw [pop_up l2 hlen hz, pop_back ha]
  · have h2 := pop_two ha hb hab
    by_cases hbc : b = c
    · have ht : bitAt (flip (flip (List.replicate n 0) a) b) c = true := by
        rw [hB, if_pos hbc, if_neg (by omega)]; rfl
      have := pop_down l2 hlen ht
      left; omega
    · by_cases hac : a = c
      · have ht : bitAt (flip (flip (List.replicate n 0) a) b) c = true := by rw [hB, if_neg hbc, if_pos hac]
        have := pop_down l2 hlen ht
        left; omega
      · have ht : bitAt (flip (flip (List.replicate n 0) a) b) c = false := by rw [hB, if_neg hbc, if_neg hac]
        right
        rw [pop_up l2 hlen ht, h2]

theorem bits_math' (ss : List Nat) (m a b c : Nat) (hm : ss.length = m) (h100 : m ≤ 100) (hr : reg 4294967295 ss = 3736805603) (ha : a < 8 * m) (hb : b < 8 * m) (hc : c < 8 * m) :
    ((es 0 (List.zipWith (· ^^^ ·) ss (flip (flip (flip ss a) b) c)) 0 0 0).1 = 1 ∨ (es 0 (List.zipWith (· ^^^ ·) ss (flip (flip (flip ss a) b) c)) 0 0 0).1 = 3) ∧ crc (flip (flip (flip ss a) b) c) ≠ 558161692 := by
  subst hm
  constructor
  · rw [es_pop, zip_flip (by simp [flip_length]) (by omega), zip_flip (by simp [flip_length]) (by omega), zip_flip rfl (by omega), zip_self, Nat.zero_add]
    exact pop_three ha hb hc
  · intro h
    have h0 := crc_trace (E := 2 ^ a ^^^ 2 ^ b ^^^ 2 ^ c) (by simp [flip_length]) hr (by
      rw [val_flip _ _ (by simpa [flip_length] using hc), val_flip _ _ (by simpa [flip_length] using hb), val_flip _ _ ha, Nat.xor_assoc, Nat.xor_assoc, Nat.xor_assoc]) h
    rw [shn_xor, shn_xor, shn_pow _ _ (by omega), shn_pow _ _ (by omega), shn_pow _ _ (by omega)] at h0
    exact three_ne (by omega) (by omega) (by omega) (by omega) (by omega) (by omega) h0

theorem pairs_math (ss : List Nat) (m a b : Nat) (hm : ss.length = m) (h100 : m ≤ 100) (hr : reg 4294967295 ss = 3736805603) (ha : a < 8 * m) (hb : b < 8 * m) (hab : a ≠ b) : crc (flip (flip ss a) b) ≠ 558161692 := by
  subst hm
  intro h
  have h0 := crc_trace (E := 2 ^ a ^^^ 2 ^ b) (by simp [flip_length]) hr (by
    rw [val_flip _ _ (by simpa [flip_length] using hb), val_flip _ _ ha, Nat.xor_assoc]) h
  rw [shn_xor, shn_pow _ _ (by omega), shn_pow _ _ (by omega)] at h0
  exact two_ne (by omega) (by omega) (by omega) (by omega) (by omega) h0
end Go.Proofs.YthfoakomapmkeaaDoor.Crc
/- Plain mathematics for layer 2: bursts. -/
namespace Go.Proofs.YthfoakomapmkeaaDoor.Crc

theorem byte_ends : ∀ d < 256, d ≠ 0 → d.testBit (Lib.trailingZeros8 d) = true ∧ Lib.trailingZeros8 d < Lib.bitLen d ∧ d.testBit (Lib.bitLen d - 1) = true ∧ Lib.bitLen d ≤ 8 := by decide +kernel
theorem ones_pos : ∀ d < 256, d ≠ 0 → 1 ≤ Lib.onesCount d := by decide +kernel

/-- Where the changed bits lie, and what the comparison answers. -/
theorem es_span (lo hi : Nat) : ∀ (ds : List Nat) (i c f l : Nat), (∀ d ∈ ds, d < 256) → (∀ j < ds.length, ∀ b < 8, (ds.getD j 0).testBit b = true → lo ≤ 8 * (i + j) + b ∧ 8 * (i + j) + b < hi) →
    (c ≠ 0 → lo ≤ f ∧ f < 8 * i ∧ f < l ∧ l ≤ hi) → (es i ds c f l).1 ≠ 0 → lo ≤ (es i ds c f l).2.1 ∧ (es i ds c f l).2.1 < (es i ds c f l).2.2 ∧ (es i ds c f l).2.2 ≤ hi
  | [], _, _, _, _, _, _, h, hc => ⟨(h hc).1, (h hc).2.2.1, (h hc).2.2.2⟩
  | d :: ds, i, c, f, l, hd, hb, h, hc => by
    have hb' : ∀ j < ds.length, ∀ b < 8, (ds.getD j 0).testBit b = true → lo ≤ 8 * (i + 1 + j) + b ∧ 8 * (i + 1 + j) + b < hi := by
      intro j hj b hb8 ht
      have := hb (j + 1) (by simpa using hj) b hb8 (by simpa using ht)
      omega
    have hd' : ∀ d ∈ ds, d < 256 := fun x hx => hd x (List.mem_cons_of_mem _ hx)
    by_cases h0 : d = 0
    · rw [es, if_pos h0] at hc ⊢
      exact es_span lo hi ds (i + 1) c f l hd' hb' (fun hcz => by have := h hcz; omega) hc
    · rw [es, if_neg h0] at hc ⊢
      obtain ⟨e1, e2, e3, e4⟩ := byte_ends d (hd d List.mem_cons_self) h0
      have t1 := hb 0 (by simp) (Lib.trailingZeros8 d) (by omega) (by simpa using e1)
      have t2 := hb 0 (by simp) (Lib.bitLen d - 1) (by omega) (by simpa using e3)
      refine es_span lo hi ds (i + 1) _ _ _ hd' hb' (fun _ => ?_) hc
      by_cases hcz : c = 0
      · rw [if_pos hcz]; omega
      · rw [if_neg hcz]
        have := h hcz
        omega

theorem val_bit : ∀ (ds : List Nat), (∀ d ∈ ds, d < 256) → ∀ j < ds.length, ∀ b < 8, (val ds).testBit (8 * j + b) = (ds.getD j 0).testBit b
  | [], _, _, h, _, _ => by simp at h
  | d :: ds, hd, 0, _, b, hb => by
    have : (256 : Nat) = 2 ^ 8 := by decide
    simp only [val, Nat.testBit_xor, this, Nat.testBit_two_pow_mul, List.getD_cons_zero]
    have h8 : decide (8 ≤ 8 * 0 + b) = false := decide_eq_false (by omega)
    rw [h8, Nat.mul_zero, Nat.zero_add, Bool.false_and, Bool.xor_false]
  | d :: ds, hd, j + 1, h, b, hb => by
    have ih := val_bit ds (fun x hx => hd x (List.mem_cons_of_mem _ hx)) j (by simpa using h) b hb
    have : (256 : Nat) = 2 ^ 8 := by decide
    simp only [val, Nat.testBit_xor, this, Nat.testBit_two_pow_mul, List.getD_cons_succ]
    have h8 : 8 ≤ 8 * (j + 1) + b := by omega
    have hz : d.testBit (8 * (j + 1) + b) = false := Nat.testBit_lt_two_pow (Nat.lt_of_lt_of_le (hd d List.mem_cons_self) (by
      have : (2 : Nat) ^ 8 ≤ 2 ^ (8 * (j + 1) + b) := Nat.pow_le_pow_right (by decide) h8
      omega))
    rw [hz, show 8 * (j + 1) + b - 8 = 8 * j + b by omega, ih]
    simp [h8]

theorem val_zip : ∀ (xs ys : List Nat), xs.length = ys.length → val (List.zipWith (· ^^^ ·) xs ys) = val xs ^^^ val ys
  | [], [], _ => rfl
  | x :: xs, y :: ys, h => by
    simp only [List.zipWith_cons_cons, val]
    rw [val_zip xs ys (by simpa using h), show (256 : Nat) = 2 ^ 8 by decide, mul_xor, Nat.xor_assoc, Nat.xor_assoc, ← Nat.xor_assoc y, Nat.xor_comm y, Nat.xor_assoc (2 ^ 8 * val xs)]
  | [], _ :: _, h => by simp at h
  | _ :: _, [], h => by simp at h

theorem val_zero : ∀ (ds : List Nat), (∀ d ∈ ds, d < 256) → pop ds = 0 → val ds = 0
  | [], _, _ => rfl
  | d :: ds, hd, h => by
    simp only [pop, List.map_cons, List.sum_cons] at h
    have hz : d = 0 := by
      by_cases h0 : d = 0
      · exact h0
      · have := ones_pos d (hd d List.mem_cons_self) h0
        omega
    have := val_zero ds (fun x hx => hd x (List.mem_cons_of_mem _ hx)) (by simp only [pop]; omega)
    rw [val, this, hz]; rfl

theorem bursts_math (ss zs : List Nat) (m fr pat : Nat) (hs : ss.length = m) (hz : zs.length = m) (hs256 : ∀ v ∈ ss, v < 256) (hz256 : ∀ v ∈ zs, v < 256) (hr : reg 4294967295 ss = 3736805603) (hf : fr + 32 ≤ 8 * m) (hp : pat < 2 ^ 32) (hp0 : pat ≠ 0) (hv : val zs = val ss ^^^ 2 ^ fr * pat) :
    crc zs ≠ 558161692 ∧ 0 < (es 0 (List.zipWith (· ^^^ ·) ss zs) 0 0 0).1 ∧ (es 0 (List.zipWith (· ^^^ ·) ss zs) 0 0 0).2.1 < (es 0 (List.zipWith (· ^^^ ·) ss zs) 0 0 0).2.2 ∧ (es 0 (List.zipWith (· ^^^ ·) ss zs) 0 0 0).2.2 ≤ (es 0 (List.zipWith (· ^^^ ·) ss zs) 0 0 0).2.1 + 32 := by
  subst hs
  refine ⟨fun h => ?_, ?_⟩
  · have h0 := crc_trace (E := 2 ^ fr * pat) hz hr hv h
    rw [show 8 * ss.length = fr + (8 * ss.length - fr) by omega, shn_add, shn_mul] at h0
    exact hp0 (shn_eq_zero _ hp h0)
  · have hd256 : ∀ d ∈ List.zipWith (· ^^^ ·) ss zs, d < 256 := by
      intro d hd
      rw [List.mem_iff_getElem?] at hd
      obtain ⟨i, hi⟩ := hd
      rw [List.getElem?_zipWith] at hi
      split at hi
      · rename_i x y hx hy
        cases hi
        exact Nat.xor_lt_two_pow (n := 8) (hs256 _ (List.mem_of_getElem? hx)) (hz256 _ (List.mem_of_getElem? hy))
      · cases hi
    have hvz : val (List.zipWith (· ^^^ ·) ss zs) = 2 ^ fr * pat := by
      rw [val_zip _ _ hz.symm, hv, ← Nat.xor_assoc, Nat.xor_self, Nat.zero_xor]
    have hne : (es 0 (List.zipWith (· ^^^ ·) ss zs) 0 0 0).1 ≠ 0 := by
      rw [es_pop, Nat.zero_add]
      intro h
      have := val_zero _ hd256 h
      rw [hvz] at this
      have h2 : 0 < 2 ^ fr * pat := Nat.mul_pos (Nat.pow_pos (by decide)) (Nat.pos_of_ne_zero hp0)
      omega
    have hsp := es_span fr (fr + 32) (List.zipWith (· ^^^ ·) ss zs) 0 0 0 0 hd256 (by
      intro j hj b hb ht
      rw [← val_bit _ hd256 j hj b hb, hvz, Nat.testBit_two_pow_mul] at ht
      simp only [Bool.and_eq_true, decide_eq_true_eq] at ht
      have : 8 * j + b - fr < 32 := by
        by_cases h : 8 * j + b - fr < 32
        · exact h
        · rw [Nat.testBit_lt_two_pow (Nat.lt_of_lt_of_le hp (Nat.pow_le_pow_right (by decide) (by omega)))] at ht
          exact absurd ht.2 (by decide)
      omega) (fun h => absurd rfl h) hne
    omega

/-- The bits of the pattern, one after the other. -/
theorem pat_step (v pat fr j : Nat) : (v ^^^ 2 ^ fr * (pat % 2 ^ j)) ^^^ (if pat / 2 ^ j % 2 = 1 then 2 ^ (fr + j) else 0) = v ^^^ 2 ^ fr * (pat % 2 ^ (j + 1)) := by
  have h : pat % 2 ^ (j + 1) = pat % 2 ^ j ^^^ (if pat / 2 ^ j % 2 = 1 then 2 ^ j else 0) := by
    apply Nat.eq_of_testBit_eq
    intro i
    rw [Nat.testBit_xor, Nat.testBit_mod_two_pow, Nat.testBit_mod_two_pow]
    have hb : pat.testBit j = decide (pat / 2 ^ j % 2 = 1) := Nat.testBit_eq_decide_div_mod_eq
    by_cases hp : pat / 2 ^ j % 2 = 1
    · rw [if_pos hp, Nat.testBit_two_pow]
      by_cases hij : j = i
      · subst hij; simp [hb, hp]
      · by_cases hlt : i < j
        · have h3 : i < j + 1 := by omega
          simp [hlt, h3, hij]
        · have h3 : ¬ i < j + 1 := by omega
          simp [hlt, h3, hij]
    · rw [if_neg hp, Nat.zero_testBit, Bool.xor_false]
      by_cases hij : i = j
      · subst hij; simp [hb, hp]
      · by_cases hlt : i < j
        · have h3 : i < j + 1 := by omega
          simp [hlt, h3]
        · have h3 : ¬ i < j + 1 := by omega
          simp [hlt, h3]
  rw [h, mul_xor, ← Nat.xor_assoc]
  congr 1
  split
  · rw [Nat.pow_add]
  · rfl
end Go.Proofs.YthfoakomapmkeaaDoor.Crc
/- Sealed strings, as plain mathematics. -/
namespace Go.Proofs.YthfoakomapmkeaaDoor.Crc

theorem le4_val {t : List Nat} (hl : t.length = 4) (ht : ∀ x ∈ t, x < 256) : le4 (val t) = t ∧ val t < 2 ^ 32 := by
  match t, hl with
  | [a, b, c, d], _ =>
    have ha := ht a (by simp)
    have hb := ht b (by simp)
    have hc := ht c (by simp)
    have hd := ht d (by simp)
    have e : val [a, b, c, d] = a + 256 * (b + 256 * (c + 256 * d)) := by
      simp only [val, Nat.mul_zero, Nat.xor_zero]
      rw [xor_add hc, xor_add hb, xor_add ha]
    rw [e]
    constructor
    · unfold le4
      congr 1
      · omega
      congr 1
      · omega
      congr 1
      · omega
      congr 1
      omega
    · omega
/-- A string is sealed exactly if it has the seal's check sum. -/
theorem sealed_iff {xs : List Nat} (hx : ∀ x ∈ xs, x < 256) (h4 : 4 ≤ xs.length) : crc xs = 558161692 ↔ xs = xs.take (xs.length - 4) ++ le4 (crc (xs.take (xs.length - 4))) := by
  have hm : ∀ x ∈ xs.take (xs.length - 4), x < 256 := fun x h => hx x (List.mem_of_mem_take h)
  constructor
  · intro h
    have ht : ∀ x ∈ xs.drop (xs.length - 4), x < 256 := fun x h => hx x (List.mem_of_mem_drop h)
    obtain ⟨e1, e2⟩ := le4_val (t := xs.drop (xs.length - 4)) (by simp; omega) ht
    have h1 : reg 4294967295 xs = 3736805603 := by
      unfold crc at h
      have := congrArg (· ^^^ 4294967295) h
      simp only [Nat.xor_assoc, Nat.xor_self, Nat.xor_zero] at this
      rw [this]; decide
    rw [← List.take_append_drop (xs.length - 4) xs, reg_append, ← e1, reg_le4 _ e2] at h1
    have h2 : reg 4294967295 (xs.take (xs.length - 4)) ^^^ val (xs.drop (xs.length - 4)) = 4294967295 := by
      refine shn_inj 32 (xor_lt32 (reg_lt _ (by decide) hm) e2) (by decide) ?_
      rw [h1]
      decide +kernel
    have h3 : val (xs.drop (xs.length - 4)) = crc (xs.take (xs.length - 4)) := by
      unfold crc
      generalize reg 4294967295 (xs.take (xs.length - 4)) = r at h2 ⊢
      rw [← h2, ← Nat.xor_assoc, Nat.xor_self, Nat.zero_xor]
    rw [← h3, e1, List.take_append_drop]
  · intro h
    rw [h]
    exact sealed_crc hm

end Go.Proofs.YthfoakomapmkeaaDoor.Crc
