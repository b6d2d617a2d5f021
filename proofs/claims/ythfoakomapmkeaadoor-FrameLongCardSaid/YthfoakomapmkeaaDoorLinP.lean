/- Flip: its contract. -/
import Derived.Test.YthfoakomapmkeaaDoorLinJ
import Derived.Test.YthfoakomapmkeaaDoorLinM3
import Derived.Deep.RegionWith
namespace Go.Proofs.YthfoakomapmkeaaDoor
open Go.RowKit

set_option maxHeartbeats 1000000 in
theorem place_any (k : Nat) (hk : k < 1000000) (w : World) :
    Calls Tryd.prog 55 #[.int .i64 k] w fun e w' => e = .returned (.int .i64 ((5 - k % 6 : Nat) : Int)) ∧ w = w' := by
  have e1 : (5 : Int) - (k : Int) % 6 = ((5 - k % 6 : Nat) : Int) := by omega
  generalize 5 - k % 6 = r at e1 ⊢
  go_enter Tryd.func55, Tryd.ntmps55
  go_wp2_with fail
  go_ret
  exact ⟨rfl, rfl⟩

set_option maxHeartbeats 4000000 in
theorem clone_at (b : Addr) (n c : Nat) (xs : List Nat) (hn : xs.length = n) (hbig : n ≤ 1000) (w : World) (hc : At w b xs) :
    Calls Tryd.prog 14 #[.slice (some b) n c] w fun e w' => ∃ v', e = .returned v' ∧ Own w.heap.size w' v' n xs ∧ Below w.heap.size w w' := by
  have HC := box (show In (w.alloc (.cells #[] 5)) (some b) xs from .inr ⟨b, rfl, fun i hi => keepa _ (hc i hi)⟩)
  clear hc
  obtain ⟨i0, hi, hz0, hz1, hz2⟩ := info_parts Tryd.infoU8
  have hs1 := size_alloc (w := w) w.heap.size (.cells #[] 5) (Nat.le_refl _)
  have hu22 := Tryd.underlying22
  have q22 : ∀ (w : World) (a : Option Addr) (n c n' c' : Nat), (binOp .eql 22 (.slice a n c) (.slice none n' c')).run Tryd.prog w = .ok (.bool a.isNone) w := fun w a n c n' c' => Lib.run_eql_slice_nil w _ _ a n c n' c' hu22
  go_enter Tryd.func14, Tryd.ntmps14
  go_wp2_with (first | (at_builtin; refine wpList_append_in (o := ⟨some 7, _, _, _, _, _⟩) rfl (.tmp 5) (.tmp 6) rfl w.heap.size i0 hi hz0 hz1 hz2 (.slice (some ⟨w.heap.size, 0, none⟩) 0 0) 0 [] rfl (World.ownsRow_made w #[] 0 (Nat.le_refl _) (Nat.zero_le _) rfl) (some b) n c xs rfl hn HC.out (fun h => by cases h) (by omega) w.heap.size w (Nat.le_refl _) ((Below.refl _ _).alloc (Nat.le_refl _) _) hs1 ?_; intro v2 w2 ho2 hb2 hs2) | fail)
  go_ret
  exact ⟨_, rfl, by have h := ho2.out; simpa [Own] using h, hb2⟩

set_option maxHeartbeats 4000000 in
theorem flip_bad_any (a : Option Addr) (n c : Nat) (k : Int) (hk : k < 0 ∨ 6 * (n : Int) ≤ k) (k0 : -9223372036854775808 ≤ k) (k1 : k ≤ 9223372036854775807) (w : World) :
    Calls Tryd.prog 34 #[.slice a n c, .int .i64 k] w fun e w' => e = .returned (.tuple #[.slice none 0 0, .int .i64 2]) ∧ w = w' := by
  by_cases h0 : k < 0
  · have d1 : decide (k < 0) = true := decide_eq_true h0
    clear hk
    go_enter Tryd.func34, Tryd.ntmps34
    go_wp2_with fail
    refine bodyPost_ret (v := .tuple #[.slice none 0 0, .int .i64 2]) (by simp [results, Tryd.results34, go_sem]) rfl ⟨rfl, rfl⟩
  · have d1 : decide (k < 0) = false := decide_eq_false h0
    have h0' : 0 ≤ k := by omega
    have d2 : decide ((n : Int) ≤ k / 6) = true := decide_eq_true (by omega)
    clear hk h0
    go_enter Tryd.func34, Tryd.ntmps34
    go_wp2_with fail
    refine bodyPost_ret (v := .tuple #[.slice none 0 0, .int .i64 2]) (by simp [results, Tryd.results34, go_sem]) rfl ⟨rfl, rfl⟩

set_option maxHeartbeats 8000000 in
theorem flip_any (b : Addr) (n c k : Nat) (xs : List Nat) (hn : xs.length = n) (hx : ∀ x ∈ xs, x < 256) (hbig : n ≤ 1000) (hk : k < 6 * n) (w : World) (hc : At w b xs) :
    Calls Tryd.prog 34 #[.slice (some b) n c, .int .i64 k] w fun e w' => ∃ v, e = .returned (.tuple #[v, .int .i64 0]) ∧ Own w.heap.size w' v n (flipS xs k) ∧ Below w.heap.size w w' := by
  have HX := box hx
  have CL := box (clone_at b n c xs hn hbig w hc)
  clear hx hc
  have d1 : decide ((k : Int) < 0) = false := decide_eq_false (by omega)
  have d2 : decide ((n : Int) ≤ (k : Int) / 6) = false := decide_eq_false (by omega)
  have PL := fun w' => box (place_any k (by omega) w')
  go_enter Tryd.func34, Tryd.ntmps34
  go_wp2_with fail
  refine CL.out.mono ?_
  rintro e w2 ⟨v, rfl, hown, hb⟩
  obtain ⟨g, cap, rfl⟩ : ∃ g cap, v = .slice (some ⟨g, 0, none⟩) n cap := by
    rcases hown.2 with ⟨_, h0⟩ | ⟨g, cap, _, hv, _⟩
    · omega
    · exact ⟨g, cap, hv⟩
  have hg : w.heap.size ≤ g := by
    rcases hown.2 with ⟨h0, _⟩ | ⟨g', cap', cur, hv, hg, _⟩
    · cases h0
    · cases hv; exact hg
  have hq : k / 6 < n := by omega
  have ly : xs.getD (k / 6) 0 < 256 := getD_lt HX.out (by omega)
  have c1 : w2.cell? ⟨g, k / 6, none⟩ = some (nU8 (xs.getD (k / 6) 0)) := by
    rw [hown.cellAt _ (by omega)]
    simp [List.getD_eq_getElem?_getD, List.getElem?_eq_getElem (show k / 6 < xs.length by omega)]
  have f1 := hown.frozenAt (k / 6)
  have lpw := pow_lt k
  have hxor : bits .xor .u8 ((xs.getD (k / 6) 0 : Nat) : Int) (2 ^ (5 - k % 6) % 256) = ((xs.getD (k / 6) 0 ^^^ 2 ^ (5 - k % 6) : Nat) : Int) := by
    have h := u8_xor_nat (xs.getD (k / 6) 0) (2 ^ (5 - k % 6)) ly lpw
    have hcast : ((2 ^ (5 - k % 6) : Nat) : Int) = (2 : Int) ^ (5 - k % 6) := Int.natCast_pow 2 (5 - k % 6)
    have h2 : (2 : Int) ^ (5 - k % 6) % 256 = ((2 ^ (5 - k % 6) : Nat) : Int) := by
      rw [hcast]
      exact Int.emod_eq_of_lt (by rw [← hcast]; exact Int.natCast_nonneg _) (by rw [← hcast]; exact Int.ofNat_lt.2 lpw)
    rw [h2]; exact h
  have HST := box (hown.stored (k / 6) (nU8 (xs.getD (k / 6) 0 ^^^ 2 ^ (5 - k % 6)))).1
  rw [← List.map_set, show xs.set (k / 6) (xs.getD (k / 6) 0 ^^^ 2 ^ (5 - k % 6)) = flipS xs k from rfl] at HST
  have e1 : (k : Int).tdiv 6 = ((k / 6 : Nat) : Int) := by rw [Int.tdiv_eq_ediv_of_nonneg (by omega)]; push_cast; rfl
  have e2 : (k : Int) / 6 = ((k / 6 : Nat) : Int) := by omega
  have lr : 5 - k % 6 < 6 := by omega
  clear hown lpw
  generalize xs.getD (k / 6) 0 ^^^ 2 ^ (5 - k % 6) = nv at hxor HST
  generalize xs.getD (k / 6) 0 = yv at hxor c1 ly
  generalize 5 - k % 6 = r at hxor PL lr
  generalize k / 6 = q at c1 f1 e1 e2 HST hq
  have q0 : (0 : Int) ≤ (q : Int) := by omega
  have q1 : (q : Int) < (n : Int) := by omega
  have r0 : (0 : Int) ≤ (r : Int) := by omega
  have w1' : IntKind.i64.wrap (q : Int) = (q : Int) := by rw [IntKind.wrap_i64]; omega
  have hxor' : bits .xor .u8 (yv : Int) (IntKind.u8.wrap (2 ^ r)) = (nv : Int) := by rw [IntKind.wrap_u8]; exact hxor
  clear d1 d2
  go_wp2_with fail
  go_region_with (go_at_call 55; refine (PL _).out.mono ?_; rintro e wp ⟨rfl, rfl⟩)
  all_goals
    go_wp2_with fail
    refine bodyPost_ret (v := .tuple #[.slice (some ⟨g, 0, none⟩) n cap, .int .i64 0]) (by simp [results, Tryd.results34, go_sem]) rfl ⟨_, rfl, ?_, ?_⟩
    · first | exact HST.out.drew | (rw [hxor']; exact HST.out.drew)
    · exact (hb.setCell hg _).drew
end Go.Proofs.YthfoakomapmkeaaDoor
