/- slices.Grow of nil, slices.Concat of two slices of bytes: their contracts. -/
import Derived.Test.YthfoakomapmkeaaDoorFrG
import Derived.Lib.AppendZeros
namespace Go.Proofs.YthfoakomapmkeaaDoor
open Go.RowKit

set_option maxHeartbeats 4000000 in
theorem grow_nil (n : Nat) (hbig : n ≤ 10000) (w : World) :
    Calls Tryd.prog 54 #[.slice none 0 0, .int .i64 n] w fun e w' => ∃ v, e = .returned v ∧ Own w.heap.size w' v 0 [] ∧ Below w.heap.size w w' := by
  by_cases h0 : n = 0
  · subst h0
    go_enter Tryd.func54, Tryd.ntmps54
    go_wp2_with fail
    go_ret
    exact ⟨_, rfl, World.ownsRow_nil _ _ _ _, Below.refl _ _⟩
  · obtain ⟨i0, hi, hz0, hz1, hz2⟩ := info_parts Tryd.infoU8
    have hr := fun ty => Lib.run_append_nil_zeros (P := Tryd.prog) w 22 3 ty 5 i0 (.int .u8 0) .i64 .i64 Tryd.underlying22 Tryd.underlying3 hi hz0 n (by omega) (by omega) (by omega) (by rw [hz2]; omega)
    have hcap := grownCap_ge w n 0 5
    have hmx := grownCap_le_maxLen w n 0 5 (by unfold maxLen; omega)
    have h1 : (0 : Int) < (n : Int) := by omega
    have hsz : (Builtin.zeroCells (Value.int .u8 0).cells n ++ Builtin.zeroCells (Value.int .u8 0).cells (grownCap w n 0 5 - n)).size = grownCap w n 0 5 * 1 := by
      rw [Array.size_append, size_zeroCells, size_zeroCells, show (Value.int IntKind.u8 0).cells.size = 1 from rfl]
      omega
    generalize grownCap w n 0 5 = G at hr hcap hmx hsz
    have HSZ := box hsz
    generalize Builtin.zeroCells (Value.int .u8 0).cells n ++ Builtin.zeroCells (Value.int .u8 0).cells (G - n) = cs at hr HSZ
    have HR := fun ty => box (hr ty)
    have HM := box hmx
    clear hr hsz hmx h0
    go_enter Tryd.func54, Tryd.ntmps54
    go_wp2_with (at_builtin; refine Lib.wpList_append_run _ rfl (.tmp 20) (.tmp 21) 22 3 rfl (.slice none 0 0) (.int .i64 n) rfl rfl _ _ (HR _).out ?_)
    go_ret
    exact ⟨_, rfl, World.ownsRow_made w.drew cs G (Nat.le_refl _) HM.out (by rw [HSZ.out]), ((Below.refl _ _).drew).alloc (Nat.le_refl _) _⟩

/-- The bytes and the length behind the first k of two slices. -/
def catTo (xs ys : List Nat) (k : Nat) : List Nat := if k = 0 then [] else if k = 1 then xs else xs ++ ys

set_option maxHeartbeats 8000000 in
theorem concat_two (g : Nat) (a b : Option Addr) (n m ca cb : Nat) (xs ys : List Nat) (hn : xs.length = n) (hm : ys.length = m) (hbn : n ≤ 4000) (hbm : m ≤ 4000) (na : a = none → ca = 0) (nb : b = none → cb = 0) (w : World)
    (h0 : w.cell? ⟨g, 0, none⟩ = some (.slice a n ca)) (h1 : w.cell? ⟨g, 1, none⟩ = some (.slice b m cb)) (ha : In w a xs) (hb : In w b ys) :
    Calls Tryd.prog 32 #[.slice (some ⟨g, 0, none⟩) 2 2] w fun e w' => ∃ v, e = .returned v ∧ Own w.heap.size w' v (n + m) (xs ++ ys) ∧ Below w.heap.size w w' := by
  have HA := box ha
  have HB := box hb
  have NA := box na
  have NB := box nb
  clear ha hb na nb
  obtain ⟨i0, hi, hz0, hz1, hz2⟩ := info_parts Tryd.infoU8
  have H1 := box h1
  have H0 := box h0
  go_enter Tryd.func32, Tryd.ntmps32
  go_wp2_with fail
  go_loop [3, 11] (fun t3 t11 => ∃ k s : Nat, k ≤ 2 ∧ t11 = .int .i64 k ∧ t3 = .int .i64 s ∧ s ≤ 8000 ∧ Box (s = if k = 0 then 0 else if k = 1 then n else n + m)) (fun _ t11 => 2 - (intOf t11).toNat)
  case atStart => exact ⟨0, 0, by omega, rfl, rfl, by omega, box rfl⟩
  case round =>
    obtain ⟨k, s, hk, rfl, rfl, hs8, hs⟩ := hrel
    rcases (by omega : k = 0 ∨ k = 1 ∨ k = 2) with rfl | rfl | rfl
    · obtain rfl : s = 0 := hs.out
      go_wp2_with fail
      go_round
      case rel => exact ⟨1, n, by omega, by go_num, by go_num, by omega, box rfl⟩
      case measure => simp [intOf]
    · obtain rfl : s = n := hs.out
      go_wp2_with fail
      go_round
      case rel => exact ⟨2, s + m, by omega, by go_num, by go_num, by omega, box rfl⟩
      case measure => simp [intOf]
    · obtain rfl : s = n + m := hs.out
      clear hs
      have G := box (grow_nil (n + m) (by omega) w)
      have cz : ((n + m : Nat) : Int) = (n : Int) + (m : Int) := by omega
      rw [cz] at G
      clear cz
      go_wp2_with fail
      refine G.out.mono ?_
      rintro e w2 ⟨v, rfl, hown, kb⟩
      have HO := box hown
      clear hown h0 h1
      go_wp2_with fail
      go_loopw [6, 27] (fun t6 t27 wr => ∃ k : Nat, k ≤ 2 ∧ t27 = .int .i64 k ∧ Box (Own w.heap.size wr t6 (catTo xs ys k).length (catTo xs ys k)) ∧ Below w.heap.size w wr) (fun _ t27 _ => 2 - (intOf t27).toNat)
      case atStart => exact ⟨0, by omega, rfl, HO, kb⟩
      case round =>
        obtain ⟨k, hk, rfl, hown, kb⟩ := hrel
        rcases (by omega : k = 0 ∨ k = 1 ∨ k = 2) with rfl | rfl | rfl
        · have h0 := keepc kb H0.out
          go_wp2_with (at_builtin; refine wpList_append_in (o := ⟨some 33, _, _, _, _, _⟩) rfl (.tmp 31) (.tmp 32) rfl w.heap.size i0 hi hz0 hz1 hz2 _ 0 ([].map nU8) rfl hown.out a n ca xs rfl hn (HA.out.below kb) NA.out (by omega) w.heap.size w (Nat.le_refl _) kb kb.size ?_; intro v3 w3 ho3 hb3 hs3)
          go_roundw
          case rel => exact ⟨1, by omega, by go_num, box (by have h := ho3.out; rw [show catTo xs ys 1 = xs from rfl, hn]; simpa [Own] using h), hb3⟩
          case measure => simp [intOf]
        · have h1 := keepc kb H1.out
          have hown1 : Own w.heap.size wr u6 n xs := by have h := hown.out; rw [show catTo xs ys 1 = xs from rfl, hn] at h; exact h
          have HO1 := box hown1
          clear hown hown1
          go_wp2_with (at_builtin; refine wpList_append_in (o := ⟨some 33, _, _, _, _, _⟩) rfl (.tmp 31) (.tmp 32) rfl w.heap.size i0 hi hz0 hz1 hz2 _ n (xs.map nU8) rfl HO1.out b m cb ys rfl hm (HB.out.below kb) NB.out (by omega) w.heap.size w (Nat.le_refl _) kb kb.size ?_; intro v3 w3 ho3 hb3 hs3)
          go_roundw
          case rel => exact ⟨2, by omega, by go_num, box (by have h := ho3.out; rw [← List.map_append] at h; rw [show catTo xs ys 2 = xs ++ ys from rfl, List.length_append, hn, hm]; exact h), hb3⟩
          case measure => simp [intOf]
        · go_wp2_with fail
          go_ret
          exact ⟨_, rfl, by have h := hown.out; rw [show catTo xs ys 2 = xs ++ ys from rfl, List.length_append, hn, hm] at h; exact h, kb⟩
end Go.Proofs.YthfoakomapmkeaaDoor
