/- Update and Sum of layer 2, and the reference's register: their contracts. -/
import Derived.Test.YthfoakomapmkeaaDoorProg
import Derived.Test.YthfoakomapmkeaaDoorCrcM
import Derived.WalkKit
import Derived.Below
import Derived.LoopTactic
import Derived.RegionTactic
import Derived.Laws.BitsAllLaws
import Derived.Laws.ShiftsVarLaws
import Derived.Lib.Hide
namespace Go.Proofs.YthfoakomapmkeaaDoor.Crc
open Go.RowKit

/-- The table of the remainders of half bytes. -/
def tab : List Nat := [0, 498536548, 997073096, 651767980, 1994146192, 1802195444, 1303535960, 1342533948, 3988292384, 4027552580, 3604390888, 3412177804, 2607071920, 2262029012, 2685067896, 3183342108]
theorem tab_eq : ∀ i < 16, tab.getD i 0 = shn 4 i := by decide
theorem tab_lt : ∀ i < 16, tab.getD i 0 < 2 ^ 32 := by decide
/-- The table lies in the world. -/
def HasTab (w : World) : Prop := ∀ i : Nat, i < 16 → w.cell? ⟨1, i, none⟩ = some (.int .u32 ((shn 4 i : Nat) : Int))
theorem HasTab.below {w w' : World} (h : HasTab w) (hb : Below w.heap.size w w') : HasTab w' := fun i hi => (hb.cell (World.block_lt_of_cell? w _ (h i hi))).trans (h i hi)

/-- A value of kind u8, u32 from a natural number. -/
abbrev nU8 (x : Nat) : Value := .int .u8 (x : Int)
abbrev nU32 (x : Nat) : Value := .int .u32 (x : Int)
/-- The bytes xs lie from an address on. -/
def At (w : World) (a : Addr) (xs : List Nat) : Prop := ∀ i : Nat, i < xs.length → w.cell? (a.add i) = some (nU8 (xs.getD i 0))

/-- One half byte. -/
theorem half (r : Nat) : r / 16 ^^^ shn 4 (r % 16) = shn 4 r := (shn_split 4 r).symm
theorem byte_eq (r x : Nat) : shn 4 (shn 4 (r ^^^ x)) = byteStep r x := (shn_add 4 4 _).symm

theorem bx {a b : Nat} (ha : a < 2 ^ 32) (hb : b < 2 ^ 32) : bits .xor .u32 (a : Int) (b : Int) = ((a ^^^ b : Nat) : Int) := u32_xor_nat a b (by omega) (by omega)
theorem band15 {a : Nat} (ha : a < 2 ^ 32) : bits .and .u32 (a : Int) 15 = ((a % 16 : Nat) : Int) := by
  have := u32_and_nat a 15 (by omega) (by decide)
  rw [show a &&& 15 = a % 16 from Nat.and_two_pow_sub_one_eq_mod a 4] at this
  exact this
theorem bnot {a : Nat} (ha : a < 2 ^ 32) : bits .xor .u32 IntKind.u32.max (a : Int) = ((a ^^^ 4294967295 : Nat) : Int) := by
  have := u32_xor_nat 4294967295 a (by decide) (by omega)
  rw [Nat.xor_comm] at this
  exact this
theorem u32_self {a : Nat} (ha : a < 2 ^ 32) : (a : Int) % 4294967296 = a := by omega

set_option maxHeartbeats 4000000 in
theorem update_at (s : Nat) (hs : s < 2 ^ 32) (a : Addr) (n c : Nat) (xs : List Nat) (hn : xs.length = n) (hx : ∀ x ∈ xs, x < 256) (hbig : n ≤ 9223372036854775807) (w : World) (hc : At w a xs) (hT : HasTab w) :
    Calls Tryd.prog 65 #[nU32 s, .slice (some a) n c] w fun e w' => e = .returned (nU32 (reg (s ^^^ 4294967295) xs ^^^ 4294967295)) ∧ w' = w := by
  have hsg : IntKind.u32.signed = false := rfl
  have HX := Lib.hid hx
  have HC := Lib.hid hc
  have HT := Lib.hid hT
  clear hx hc hT
  have hnot := bnot hs
  obtain ⟨s0, hs0⟩ : ∃ s0, s ^^^ 4294967295 = s0 := ⟨_, rfl⟩
  have ls0 : s0 < 2 ^ 32 := by rw [← hs0]; exact xor_lt32 hs (by decide)
  rw [hs0] at hnot ⊢
  clear hs0
  obtain ⟨res, hres⟩ : ∃ res, reg s0 xs = res := ⟨_, rfl⟩
  have HR := Lib.hid hres
  have lres : res < 2 ^ 32 := by rw [← hres]; exact reg_lt xs ls0 HX.out
  have hnot2 := bnot lres
  rw [hres]
  clear hres
  go_enter Tryd.func65, Tryd.ntmps65
  go_wp2_with fail
  go_loop [5, 12] (fun t5 t12 => ∃ (k r : Nat), k ≤ n ∧ t12 = .int .i64 k ∧ t5 = nU32 r ∧ r < 2 ^ 32 ∧ Hid (reg s0 xs = reg r (xs.drop k))) (fun _ t12 => n - (intOf t12).toNat)
  case atStart => exact ⟨0, s0, Nat.zero_le _, rfl, rfl, ls0, rfl⟩
  case round =>
    obtain ⟨k, r, hk, rfl, rfl, lr, hreg⟩ := hrel
    by_cases hlt : k < n
    · have hkl : k < xs.length := by omega
      have h1 := HC.out k hkl
      obtain ⟨x, hxk⟩ : ∃ x, xs.getD k 0 = x := ⟨_, rfl⟩
      have lx : x < 256 := by rw [← hxk, List.getD_eq_getElem?_getD, List.getElem?_eq_getElem hkl]; exact HX.out _ (List.getElem_mem hkl)
      have HD : Hid (reg r (xs.drop k) = reg (byteStep r x) (xs.drop (k + 1))) := Lib.hid (by
        rw [List.drop_eq_getElem_cons hkl, reg_cons, ← hxk, List.getD_eq_getElem?_getD, List.getElem?_eq_getElem hkl]; rfl)
      rw [hxk] at h1
      clear hxk
      have e1 : (x : Int) % 4294967296 = x := u32_self (by omega)
      have e2 := bx (a := r) (b := x) lr (by omega)
      obtain ⟨q, hq⟩ : ∃ q, r ^^^ x = q := ⟨_, rfl⟩
      have lq : q < 2 ^ 32 := by rw [← hq]; exact xor_lt32 lr (by omega)
      rw [hq] at e2
      have hb := byte_eq r x
      rw [hq] at hb
      obtain ⟨e3, c1, e4, e6⟩ : bits .and .u32 (q : Int) 15 = ((q % 16 : Nat) : Int) ∧ w.cell? ⟨1, q % 16, none⟩ = some (.int .u32 ((shn 4 (q % 16) : Nat) : Int)) ∧ (q : Int) / 16 = ((q / 16 : Nat) : Int) ∧ bits .xor .u32 ((q / 16 : Nat) : Int) ((shn 4 (q % 16) : Nat) : Int) = ((shn 4 q : Nat) : Int) :=
        ⟨band15 lq, HT.out (q % 16) (Nat.mod_lt _ (by decide)), by omega, by rw [bx (by omega) (shn_lt 4 (by omega)), half]⟩
      obtain ⟨p, hp⟩ : ∃ p, shn 4 q = p := ⟨_, rfl⟩
      have lp : p < 2 ^ 32 := by rw [← hp]; exact shn_lt 4 lq
      rw [hp] at e6 hb
      have l1 : q % 16 < 16 := Nat.mod_lt _ (by decide)
      generalize shn 4 (q % 16) = t1 at c1 e6
      generalize q % 16 = q1 at e3 c1 l1
      generalize q / 16 = q2 at e4 e6
      obtain ⟨f3, c2, f4, f6⟩ : bits .and .u32 (p : Int) 15 = ((p % 16 : Nat) : Int) ∧ w.cell? ⟨1, p % 16, none⟩ = some (.int .u32 ((shn 4 (p % 16) : Nat) : Int)) ∧ (p : Int) / 16 = ((p / 16 : Nat) : Int) ∧ bits .xor .u32 ((p / 16 : Nat) : Int) ((shn 4 (p % 16) : Nat) : Int) = ((shn 4 p : Nat) : Int) :=
        ⟨band15 lp, HT.out (p % 16) (Nat.mod_lt _ (by decide)), by omega, by rw [bx (by omega) (shn_lt 4 (by omega)), half]⟩
      rw [hb] at f6
      have l2 : p % 16 < 16 := Nat.mod_lt _ (by decide)
      generalize shn 4 (p % 16) = t2 at c2 f6
      generalize p % 16 = p1 at f3 c2 l2
      generalize p / 16 = p2 at f4 f6
      have ls : byteStep r x < 2 ^ 32 := byteStep_lt lr lx
      generalize byteStep r x = r' at f6 HD ls
      clear hq hp hb
      go_wp2_with fail
      go_round
      case rel => exact ⟨k + 1, r', by omega, by go_num, rfl, ls, Lib.hid (hreg.out.trans HD.out)⟩
      case measure => simp [intOf]; omega
    · have hkn : k = xs.length := by omega
      have hrr : res = r := by rw [← HR.out, hreg.out, hkn, List.drop_length]; rfl
      subst hrr
      go_wp2_with fail
      go_ret
      exact ⟨rfl, rfl⟩

set_option maxHeartbeats 4000000 in
theorem update_none (s : Nat) (hs : s < 2 ^ 32) (a : Option Addr) (c : Nat) (w : World) :
    Calls Tryd.prog 65 #[nU32 s, .slice a 0 c] w fun e w' => e = .returned (nU32 s) ∧ w' = w := by
  have hsg : IntKind.u32.signed = false := rfl
  have hnot := bnot hs
  have ls0 : s ^^^ 4294967295 < 2 ^ 32 := xor_lt32 hs (by decide)
  have hnot2 := bnot ls0
  rw [Nat.xor_assoc, Nat.xor_self, Nat.xor_zero] at hnot2
  generalize s ^^^ 4294967295 = s0 at hnot hnot2 ls0
  go_enter Tryd.func65, Tryd.ntmps65
  go_wp2_with fail
  go_loop [5, 12] (fun t5 t12 => t12 = .int .i64 0 ∧ t5 = nU32 s0) (fun _ _ => 0)
  case atStart => exact ⟨rfl, rfl⟩
  case round =>
    obtain ⟨rfl, rfl⟩ := hrel
    go_wp2_with fail
    go_ret
    exact ⟨rfl, rfl⟩

/-- The bytes xs lie at the slice's address; nothing is said where there is none. -/
def In (w : World) (a : Option Addr) (xs : List Nat) : Prop := xs = [] ∨ ∃ b, a = some b ∧ At w b xs
theorem In.below {w w' : World} {a : Option Addr} {xs : List Nat} (h : In w a xs) (hb : Below w.heap.size w w') : In w' a xs := by
  rcases h with h | ⟨b, rfl, h⟩
  · exact .inl h
  · exact .inr ⟨b, rfl, fun i hi => (hb.cell (World.block_lt_of_cell? w _ (h i hi))).trans (h i hi)⟩

theorem update_any (s : Nat) (hs : s < 2 ^ 32) (a : Option Addr) (n c : Nat) (xs : List Nat) (hn : xs.length = n) (hx : ∀ x ∈ xs, x < 256) (hbig : n ≤ 9223372036854775807) (w : World) (hc : In w a xs) (hT : HasTab w) :
    Calls Tryd.prog 65 #[nU32 s, .slice a n c] w fun e w' => e = .returned (nU32 (reg (s ^^^ 4294967295) xs ^^^ 4294967295)) ∧ w' = w := by
  rcases hc with rfl | ⟨b, rfl, hc⟩
  · simp only [List.length_nil] at hn
    subst hn
    rw [reg_nil, Nat.xor_assoc, Nat.xor_self, Nat.xor_zero]
    exact update_none s hs a c w
  · exact update_at s hs b n c xs hn hx hbig w hc hT

set_option maxHeartbeats 4000000 in
theorem sum_any (a : Option Addr) (n c : Nat) (xs : List Nat) (hn : xs.length = n) (hx : ∀ x ∈ xs, x < 256) (hbig : n ≤ 9223372036854775807) (w : World) (hc : In w a xs) (hT : HasTab w) :
    Calls Tryd.prog 59 #[.slice a n c] w fun e w' => e = .returned (nU32 (crc xs)) ∧ w' = w := by
  have hu := update_any 0 (by decide) a n c xs hn hx hbig w hc hT
  rw [Nat.zero_xor] at hu
  generalize hv : crc xs = v
  unfold crc at hv
  rw [hv] at hu
  clear hc hT hv
  go_enter Tryd.func59, Tryd.ntmps59
  go_wp2_with (go_at_call 65; refine hu.mono ?_; rintro e w' ⟨rfl, rfl⟩)
  go_ret
  exact ⟨rfl, rfl⟩
end Go.Proofs.YthfoakomapmkeaaDoor.Crc
