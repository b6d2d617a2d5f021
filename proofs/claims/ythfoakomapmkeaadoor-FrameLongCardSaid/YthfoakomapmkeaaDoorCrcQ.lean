/- bytes.Clone, and the contract of Check. -/
import Derived.Test.YthfoakomapmkeaaDoorCrcP
import Derived.Test.YthfoakomapmkeaaDoorCrcN
import Derived.Test.YthfoakomapmkeaaDoorCrcL2
import Derived.Test.YthfoakomapmkeaaDoorCrcF
import Derived.Lib.SliceRun
namespace Go.Proofs.YthfoakomapmkeaaDoor.Crc
open Go.RowKit

theorem in_some_cells {w : World} {b : Addr} {xs : List Nat} (h : At w b xs) (o : Obj) : ∀ j u, (xs.map nU8)[j]? = some u → (w.alloc o).cell? (b.add j) = some u := by
  intro j u hj
  simp at hj
  obtain ⟨x, hxj, rfl⟩ := hj
  have hjl : j < xs.length := (List.getElem?_eq_some_iff.1 hxj).1
  rw [keepa o (h j hjl)]
  simp [List.getD_eq_getElem?_getD, hxj]

set_option maxHeartbeats 4000000 in
/-- Clone of a slice that is not nil. -/
theorem clone_at (b : Addr) (n c : Nat) (xs : List Nat) (hn : xs.length = n) (hbig : n ≤ 1000) (w : World) (hc : At w b xs) :
    Calls Tryd.prog 62 #[.slice (some b) n c] w fun e w' => ∃ v', e = .returned v' ∧ Own w.heap.size w' v' xs ∧ Below w.heap.size w w' := by
  have HC := box hc
  clear hc
  obtain ⟨i0, hi, hz0, hz1, hz2⟩ := info_parts Tryd.infoU8
  have hu22 := Tryd.underlying22
  have q22 : ∀ (w : World) (a : Option Addr) (n c n' c' : Nat), (binOp .eql 22 (.slice a n c) (.slice none n' c')).run Tryd.prog w = .ok (.bool a.isNone) w := fun w a n c n' c' => Lib.run_eql_slice_nil w _ _ a n c n' c' hu22
  have hsz : ∀ {o : Obj}, w.heap.size ≤ (w.alloc o).heap.size := by intro o; show _ ≤ (w.heap.push o).size; rw [Array.size_push]; exact Nat.le_succ _
  go_enter Tryd.func62, Tryd.ntmps62
  go_wp2_with (at_builtin; refine wpList_append_own _ rfl _ _ 22 rfl w.heap.size 5 i0 (.int .u8 0) 1 1 hu22 hi hz0 hz1 hz2 rfl (by decide) _ 0 [] rfl (World.ownsRow_made w #[] 0 (Nat.le_refl _) (Nat.zero_le _) rfl) b n c (xs.map nU8) rfl (by simp [hn]) (in_some_cells HC.out _) (nU8_one _) (by unfold maxLen; omega) (by omega) hsz ?_; intro v' w3 hown3 hgrow3 hnil3; have HO3 := box hown3; have HB3 := box (((Below.refl w.heap.size w).alloc (Nat.le_refl _) (.cells #[] 5)).grown hgrow3 hsz (by rintro k hk; cases hk; exact Nat.le_refl _)); clear hown3 hgrow3 hnil3)
  go_ret
  refine ⟨_, rfl, ?_, HB3.out⟩
  have := HO3.out
  simpa [Own, hn] using this

set_option maxHeartbeats 4000000 in
theorem check_short (a : Option Addr) (n c : Nat) (h4 : n < 4) (w : World) :
    Calls Tryd.prog 43 #[.slice a n c] w fun e w' => e = .returned (.tuple #[.slice none 0 0, .int .i64 4]) ∧ w' = w := by
  have hz : (n : Int) < 4 := by omega
  have hd : decide ((n : Int) < 4) = true := decide_eq_true hz
  go_enter Tryd.func43, Tryd.ntmps43
  go_wp2_with fail
  refine bodyPost_ret (v := .tuple #[.slice none 0 0, .int .i64 4]) (by simp [results, Tryd.results43, go_sem]) rfl ⟨rfl, rfl⟩

set_option maxHeartbeats 4000000 in
theorem check_bad (a : Option Addr) (n c : Nat) (xs : List Nat) (hn : xs.length = n) (hx : ∀ x ∈ xs, x < 256) (hbig : n ≤ 1000) (h4 : ¬ n < 4) (hr : crc xs ≠ 558161692) (w : World) (hc : In w a xs) (hT : HasTab w) :
    Calls Tryd.prog 43 #[.slice a n c] w fun e w' => e = .returned (.tuple #[.slice none 0 0, .int .i64 9]) ∧ w' = w := by
  have hd : decide ((n : Int) < 4) = false := decide_eq_false (by omega)
  have hz : ((crc xs : Int) != 558161692) = true := by simp; omega
  have HS := box (sum_any a n c xs hn hx (by omega) w hc hT)
  clear hc hT hx
  generalize crc xs = s at hz HS hr
  go_enter Tryd.func43, Tryd.ntmps43
  go_wp2_with (go_at_call 59; refine HS.out.mono ?_; rintro e w1 ⟨rfl, hw1⟩; have hw1' := hw1.symm; subst hw1')
  refine bodyPost_ret (v := .tuple #[.slice none 0 0, .int .i64 9]) (by simp [results, Tryd.results43, go_sem]) rfl ⟨rfl, rfl⟩

set_option maxHeartbeats 4000000 in
theorem check_ok (a : Option Addr) (n c : Nat) (xs : List Nat) (hn : xs.length = n) (hx : ∀ x ∈ xs, x < 256) (hbig : n ≤ 1000) (h4 : ¬ n < 4) (hcap : n ≤ c) (hr : crc xs = 558161692) (w : World) (hc : In w a xs) (hT : HasTab w) :
    Calls Tryd.prog 43 #[.slice a n c] w fun e w' => ∃ v', e = .returned (.tuple #[v', .int .i64 0]) ∧ Own w.heap.size w' v' (xs.take (n - 4)) ∧ Below w.heap.size w w' := by
  have hd : decide ((n : Int) < 4) = false := decide_eq_false (by omega)
  have HS := box (sum_any a n c xs hn hx (by omega) w hc hT)
  rw [hr] at HS
  obtain ⟨b, rfl, hat⟩ : ∃ b, a = some b ∧ At w b xs := by
    rcases hc with h | h
    · subst h; simp at hn; omega
    · exact h
  have HK := box (clone_at b (n - 4) c (xs.take (n - 4)) (by simp; omega) (by omega) w (fun i hi => by
    simp at hi
    rw [hat i (by omega)]
    simp [List.getD_eq_getElem?_getD, show i < n - 4 by omega]))
  clear hc hT hx hat hr
  go_enter Tryd.func43, Tryd.ntmps43
  go_wp2_with (go_at_call 59; refine HS.out.mono ?_; rintro e w1 ⟨rfl, hw1⟩; have hw1' := hw1.symm; subst hw1')
  refine HK.out.mono ?_
  rintro e w2 ⟨v', rfl, hown, hb⟩
  obtain ⟨a2, c2, rfl, hin⟩ := hown.form
  have HO := box hown
  clear hown hin
  go_wp2_with fail
  refine bodyPost_ret (v := .tuple #[.slice a2 (xs.take (n - 4)).length c2, .int .i64 0]) (by simp [results, Tryd.results43, go_sem]; omega) rfl ⟨_, rfl, HO.out, hb⟩
end Go.Proofs.YthfoakomapmkeaaDoor.Crc
