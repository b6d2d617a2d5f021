/- The walk of LinecodeSymbols. -/
import Derived.Test.YthjhgmcikfekmaaDoorLinD
namespace Go.Proofs.YthjhgmcikfekmaaDoor
open Go.RowKit

/-- What Value and Index answer, case by case. -/
theorem value_cases (s : Nat) : (∃ k : Nat, k < 16 ∧ valueV (idx s) = .tuple #[.int .i64 (k : Int), .bool false, .int .i64 0] ∧ idxI s = (k : Int)) ∨
    (∃ k : Nat, 16 ≤ k ∧ k < 20 ∧ valueV (idx s) = .tuple #[.int .i64 ((k : Int) - 16), .bool true, .int .i64 0] ∧ idxI s = (k : Int)) ∨
    (valueV (idx s) = .tuple #[.int .i64 0, .bool false, .int .i64 3] ∧ idxI s = -1) := by
  unfold idxI valueV
  by_cases h1 : idx s < 16
  · exact .inl ⟨idx s, h1, by rw [if_pos h1], by rw [if_pos (by omega)]⟩
  · by_cases h2 : idx s < 20
    · exact .inr (.inl ⟨idx s, by omega, h2, by rw [if_neg h1, if_pos h2], by rw [if_pos h2]⟩)
    · exact .inr (.inr ⟨by rw [if_neg h1, if_neg h2], by rw [if_neg h2]⟩)

set_option maxHeartbeats 8000000 in
theorem symbols_walk (n : Int) (s : Nat) (n0 : -9223372036854775808 ≤ n) (n1 : n ≤ 9223372036854775807) (hs : s < 256) (w : World) (hT : HasTab w) :
    Calls Tryd.prog 3 #[.int .i64 n, nU8 s] w fun e w' => e = .returned (.bool true) ∧ Below w.heap.size w w' := by
  have HT := box hT
  clear hT
  have V := fun w' h => box (value_any s hs w' h)
  have I := fun w' => box (index_any s hs w')
  have hVC := value_cases s
  generalize valueV (idx s) = vv at V hVC
  generalize idxI s = ii at I hVC
  by_cases h0 : n < 0
  · have d1 : decide (0 ≤ n) = false := decide_eq_false (by omega)
    have d1' : decide (n < 0) = true := decide_eq_true h0
    go_enter Tryd.func3, Tryd.ntmps3
    go_wp2_with fail
    refine (awake_any _ HT.out).mono ?_
    rintro e w1 ⟨rfl, hb1⟩
    go_wp2_with fail
    refine (symbols_any w1).mono ?_
    rintro e w2 ⟨v, rfl, hown, hb2⟩
    obtain ⟨a, c, rfl, hin, _, _⟩ := own_form (n := 20) rfl hown
    obtain ⟨b, rfl, hat⟩ : ∃ b, a = some b ∧ At w2 b syms := by
      rcases hin with h | h
      · cases h
      · exact h
    have kb : Below w.heap.size w w2 := hb1.trans (hb2.mono hb1.size)
    have kT := HT.out.below kb
    clear hin hown hb1 hb2
    have D := box (data_bad n (.inl h0) w2)
    have C := box (control_bad n (.inl h0) w2)
    clear hat
    go_wp2_with fail
    refine D.out.mono ?_
    rintro e w3 ⟨rfl, rfl⟩
    go_wp2_with fail
    refine C.out.mono ?_
    rintro e w3 ⟨rfl, rfl⟩
    clear D C
    rcases hVC with ⟨k, hk, rfl, rfl⟩ | ⟨k, hk0, hk, rfl, rfl⟩ | ⟨rfl, rfl⟩
    · have m1 : decide ((k : Int) < 0) = false := decide_eq_false (by omega)
      have m2 : decide ((k : Int) < 16) = true := decide_eq_true (by omega)
      go_wp2_with fail
      refine (V _ kT).out.mono ?_
      rintro e w3 ⟨rfl, rfl⟩
      go_wp2_with fail
      refine (I _).out.mono ?_
      rintro e w4 ⟨rfl, hb4⟩
      go_wp2_with fail
      go_ret
      exact ⟨rfl, kb.trans (hb4.mono kb.size)⟩
    · have m1 : decide ((k : Int) < 0) = false := decide_eq_false (by omega)
      have m2 : decide ((k : Int) < 16) = false := decide_eq_false (by omega)
      go_wp2_with fail
      refine (V _ kT).out.mono ?_
      rintro e w3 ⟨rfl, rfl⟩
      go_wp2_with fail
      refine (I _).out.mono ?_
      rintro e w4 ⟨rfl, hb4⟩
      go_wp2_with fail
      go_ret
      exact ⟨rfl, kb.trans (hb4.mono kb.size)⟩
    · skip
      go_wp2_with fail
      refine (V _ kT).out.mono ?_
      rintro e w3 ⟨rfl, rfl⟩
      go_wp2_with fail
      refine (I _).out.mono ?_
      rintro e w4 ⟨rfl, hb4⟩
      go_wp2_with fail
      go_ret
      exact ⟨rfl, kb.trans (hb4.mono kb.size)⟩
  by_cases h4 : n < 4
  · obtain ⟨i, rfl⟩ : ∃ i : Nat, n = (i : Int) := ⟨n.toNat, by omega⟩
    have d1 : decide ((0 : Int) ≤ (i : Int)) = true := decide_eq_true (by omega)
    have d2 : decide ((i : Int) < 16) = true := decide_eq_true (by omega)
    have d3 : decide ((i : Int) < 4) = true := decide_eq_true (by omega)
    have d4 : (16 + (i : Int)).toNat = 16 + i := by omega
    have d5 : (i : Int) < 20 := by omega
    have d6 : 16 + (i : Int) < 20 := by omega
    go_enter Tryd.func3, Tryd.ntmps3
    go_wp2_with fail
    refine (awake_any _ HT.out).mono ?_
    rintro e w1 ⟨rfl, hb1⟩
    go_wp2_with fail
    refine (symbols_any w1).mono ?_
    rintro e w2 ⟨v, rfl, hown, hb2⟩
    obtain ⟨a, c, rfl, hin, _, _⟩ := own_form (n := 20) rfl hown
    obtain ⟨b, rfl, hat⟩ : ∃ b, a = some b ∧ At w2 b syms := by
      rcases hin with h | h
      · cases h
      · exact h
    have kb : Below w.heap.size w w2 := hb1.trans (hb2.mono hb1.size)
    have kT := HT.out.below kb
    clear hin hown hb1 hb2
    have D := box (data_ok i (by omega) w2 kT)
    have C := box (control_ok i (by omega) w2 kT)
    have c1 := hat i (show i < 20 by omega)
    have c2 := hat (16 + i) (show 16 + i < 20 by omega)
    generalize syms.getD i 0 = y1 at c1 D
    generalize syms.getD (16 + i) 0 = y2 at c2 C
    clear hat
    go_wp2_with fail
    refine D.out.mono ?_
    rintro e w3 ⟨rfl, rfl⟩
    go_wp2_with fail
    refine C.out.mono ?_
    rintro e w3 ⟨rfl, rfl⟩
    clear D C
    rcases hVC with ⟨k, hk, rfl, rfl⟩ | ⟨k, hk0, hk, rfl, rfl⟩ | ⟨rfl, rfl⟩
    · have m1 : decide ((k : Int) < 0) = false := decide_eq_false (by omega)
      have m2 : decide ((k : Int) < 16) = true := decide_eq_true (by omega)
      go_wp2_with fail
      refine (V _ kT).out.mono ?_
      rintro e w3 ⟨rfl, rfl⟩
      go_wp2_with fail
      refine (I _).out.mono ?_
      rintro e w4 ⟨rfl, hb4⟩
      go_wp2_with fail
      go_ret
      exact ⟨rfl, kb.trans (hb4.mono kb.size)⟩
    · have m1 : decide ((k : Int) < 0) = false := decide_eq_false (by omega)
      have m2 : decide ((k : Int) < 16) = false := decide_eq_false (by omega)
      go_wp2_with fail
      refine (V _ kT).out.mono ?_
      rintro e w3 ⟨rfl, rfl⟩
      go_wp2_with fail
      refine (I _).out.mono ?_
      rintro e w4 ⟨rfl, hb4⟩
      go_wp2_with fail
      go_ret
      exact ⟨rfl, kb.trans (hb4.mono kb.size)⟩
    · skip
      go_wp2_with fail
      refine (V _ kT).out.mono ?_
      rintro e w3 ⟨rfl, rfl⟩
      go_wp2_with fail
      refine (I _).out.mono ?_
      rintro e w4 ⟨rfl, hb4⟩
      go_wp2_with fail
      go_ret
      exact ⟨rfl, kb.trans (hb4.mono kb.size)⟩
  by_cases h16 : n < 16
  · obtain ⟨i, rfl⟩ : ∃ i : Nat, n = (i : Int) := ⟨n.toNat, by omega⟩
    have d1 : decide ((0 : Int) ≤ (i : Int)) = true := decide_eq_true (by omega)
    have d2 : decide ((i : Int) < 16) = true := decide_eq_true (by omega)
    have d3 : decide ((i : Int) < 4) = false := decide_eq_false (by omega)
    have d5 : (i : Int) < 20 := by omega
    go_enter Tryd.func3, Tryd.ntmps3
    go_wp2_with fail
    refine (awake_any _ HT.out).mono ?_
    rintro e w1 ⟨rfl, hb1⟩
    go_wp2_with fail
    refine (symbols_any w1).mono ?_
    rintro e w2 ⟨v, rfl, hown, hb2⟩
    obtain ⟨a, c, rfl, hin, _, _⟩ := own_form (n := 20) rfl hown
    obtain ⟨b, rfl, hat⟩ : ∃ b, a = some b ∧ At w2 b syms := by
      rcases hin with h | h
      · cases h
      · exact h
    have kb : Below w.heap.size w w2 := hb1.trans (hb2.mono hb1.size)
    have kT := HT.out.below kb
    clear hin hown hb1 hb2
    have D := box (data_ok i (by omega) w2 kT)
    have C := box (control_bad i (.inr (by omega)) w2)
    have c1 := hat i (show i < 20 by omega)
    generalize syms.getD i 0 = y1 at c1 D
    clear hat
    go_wp2_with fail
    refine D.out.mono ?_
    rintro e w3 ⟨rfl, rfl⟩
    go_wp2_with fail
    refine C.out.mono ?_
    rintro e w3 ⟨rfl, rfl⟩
    clear D C
    rcases hVC with ⟨k, hk, rfl, rfl⟩ | ⟨k, hk0, hk, rfl, rfl⟩ | ⟨rfl, rfl⟩
    · have m1 : decide ((k : Int) < 0) = false := decide_eq_false (by omega)
      have m2 : decide ((k : Int) < 16) = true := decide_eq_true (by omega)
      go_wp2_with fail
      refine (V _ kT).out.mono ?_
      rintro e w3 ⟨rfl, rfl⟩
      go_wp2_with fail
      refine (I _).out.mono ?_
      rintro e w4 ⟨rfl, hb4⟩
      go_wp2_with fail
      go_ret
      exact ⟨rfl, kb.trans (hb4.mono kb.size)⟩
    · have m1 : decide ((k : Int) < 0) = false := decide_eq_false (by omega)
      have m2 : decide ((k : Int) < 16) = false := decide_eq_false (by omega)
      go_wp2_with fail
      refine (V _ kT).out.mono ?_
      rintro e w3 ⟨rfl, rfl⟩
      go_wp2_with fail
      refine (I _).out.mono ?_
      rintro e w4 ⟨rfl, hb4⟩
      go_wp2_with fail
      go_ret
      exact ⟨rfl, kb.trans (hb4.mono kb.size)⟩
    · skip
      go_wp2_with fail
      refine (V _ kT).out.mono ?_
      rintro e w3 ⟨rfl, rfl⟩
      go_wp2_with fail
      refine (I _).out.mono ?_
      rintro e w4 ⟨rfl, hb4⟩
      go_wp2_with fail
      go_ret
      exact ⟨rfl, kb.trans (hb4.mono kb.size)⟩
  have d1 : decide (0 ≤ n) = true := decide_eq_true (by omega)
  have d2 : decide (n < 16) = false := decide_eq_false (by omega)
  have d3 : decide (n < 4) = false := decide_eq_false (by omega)
  go_enter Tryd.func3, Tryd.ntmps3
  go_wp2_with fail
  refine (awake_any _ HT.out).mono ?_
  rintro e w1 ⟨rfl, hb1⟩
  go_wp2_with fail
  refine (symbols_any w1).mono ?_
  rintro e w2 ⟨v, rfl, hown, hb2⟩
  obtain ⟨a, c, rfl, hin, _, _⟩ := own_form (n := 20) rfl hown
  obtain ⟨b, rfl, hat⟩ : ∃ b, a = some b ∧ At w2 b syms := by
    rcases hin with h | h
    · cases h
    · exact h
  have kb : Below w.heap.size w w2 := hb1.trans (hb2.mono hb1.size)
  have kT := HT.out.below kb
  clear hin hown hb1 hb2
  have D := box (data_bad n (.inr (by omega)) w2)
  have C := box (control_bad n (.inr (by omega)) w2)
  clear hat
  go_wp2_with fail
  refine D.out.mono ?_
  rintro e w3 ⟨rfl, rfl⟩
  go_wp2_with fail
  refine C.out.mono ?_
  rintro e w3 ⟨rfl, rfl⟩
  clear D C
  rcases hVC with ⟨k, hk, rfl, rfl⟩ | ⟨k, hk0, hk, rfl, rfl⟩ | ⟨rfl, rfl⟩
  · have m1 : decide ((k : Int) < 0) = false := decide_eq_false (by omega)
    have m2 : decide ((k : Int) < 16) = true := decide_eq_true (by omega)
    go_wp2_with fail
    refine (V _ kT).out.mono ?_
    rintro e w3 ⟨rfl, rfl⟩
    go_wp2_with fail
    refine (I _).out.mono ?_
    rintro e w4 ⟨rfl, hb4⟩
    go_wp2_with fail
    go_ret
    exact ⟨rfl, kb.trans (hb4.mono kb.size)⟩
  · have m1 : decide ((k : Int) < 0) = false := decide_eq_false (by omega)
    have m2 : decide ((k : Int) < 16) = false := decide_eq_false (by omega)
    go_wp2_with fail
    refine (V _ kT).out.mono ?_
    rintro e w3 ⟨rfl, rfl⟩
    go_wp2_with fail
    refine (I _).out.mono ?_
    rintro e w4 ⟨rfl, hb4⟩
    go_wp2_with fail
    go_ret
    exact ⟨rfl, kb.trans (hb4.mono kb.size)⟩
  · skip
    go_wp2_with fail
    refine (V _ kT).out.mono ?_
    rintro e w3 ⟨rfl, rfl⟩
    go_wp2_with fail
    refine (I _).out.mono ?_
    rintro e w4 ⟨rfl, hb4⟩
    go_wp2_with fail
    go_ret
    exact ⟨rfl, kb.trans (hb4.mono kb.size)⟩
end Go.Proofs.YthjhgmcikfekmaaDoor
