/- Packets as values; the reference's Valid: its contract. -/
import Derived.Test.YthfoakomapmkeaaDoorLinQ
import Derived.Test.YthfoakomapmkeaaDoorCrcQ
namespace Go.Proofs.YthfoakomapmkeaaDoor
open Go.RowKit

/-- A packet as a value. -/
abbrev pkV (k : Nat) (c n v : Int) (a : Option Addr) (l cap : Nat) : Value := .agg #[nU8 k, .int .i64 c, .int .i64 n, .int .i64 v, .slice a l cap]
/-- Its cells. -/
abbrev pkC (k : Nat) (c n v : Int) (a : Option Addr) (l cap : Nat) : Array Value := #[nU8 k, .int .i64 c, .int .i64 n, .int .i64 v, .slice a l cap]
/-- Is a packet valid? -/
def okP (k : Nat) (c n v : Int) (l : Nat) : Bool := decide (k ≠ 0 ∧ 0 ≤ c ∧ c < 4 ∧ 0 ≤ n ∧ n < 1099511627776 ∧ 0 ≤ v ∧ v < 1099511627776 ∧ l ≤ 64)

set_option maxRecDepth 100000 in
set_option maxHeartbeats 8000000 in
theorem rvalid_any (k : Nat) (c n v : Int) (a : Option Addr) (l cap : Nat) (r : Bool) (hr : okP k c n v l = r) (w : World) :
    Calls Tryd.prog 15 #[pkV k c n v a l cap] w fun e w' => e = .returned (.bool r) ∧ Below w.heap.size w w' := by
  unfold okP at hr
  by_cases h0 : k = 0
  · obtain rfl : r = false := by rw [← hr]; first | exact decide_eq_true (by omega) | exact decide_eq_false (by omega)
    have d0 : ((k : Int) != 0) = false := by simp [h0]
    clear hr h0
    go_enter Tryd.func15, Tryd.ntmps15
    go_wp2_with fail
    go_ret
    exact ⟨rfl, (Below.refl _ _).alloc (Nat.le_refl _) _⟩
  by_cases h1 : ¬ (0 ≤ c)
  · obtain rfl : r = false := by rw [← hr]; first | exact decide_eq_true (by omega) | exact decide_eq_false (by omega)
    have d0 : ((k : Int) != 0) = true := by simp; omega
    have d1 : decide (0 ≤ c) = false := decide_eq_false (by omega)
    clear hr h0 h1
    go_enter Tryd.func15, Tryd.ntmps15
    go_wp2_with fail
    go_ret
    exact ⟨rfl, (Below.refl _ _).alloc (Nat.le_refl _) _⟩
  by_cases h2 : ¬ (c < 4)
  · obtain rfl : r = false := by rw [← hr]; first | exact decide_eq_true (by omega) | exact decide_eq_false (by omega)
    have d0 : ((k : Int) != 0) = true := by simp; omega
    have d1 : decide (0 ≤ c) = true := decide_eq_true (by omega)
    have d2 : decide (c < 4) = false := decide_eq_false (by omega)
    clear hr h0 h1 h2
    go_enter Tryd.func15, Tryd.ntmps15
    go_wp2_with fail
    go_ret
    exact ⟨rfl, (Below.refl _ _).alloc (Nat.le_refl _) _⟩
  by_cases h3 : ¬ (0 ≤ n)
  · obtain rfl : r = false := by rw [← hr]; first | exact decide_eq_true (by omega) | exact decide_eq_false (by omega)
    have d0 : ((k : Int) != 0) = true := by simp; omega
    have d1 : decide (0 ≤ c) = true := decide_eq_true (by omega)
    have d2 : decide (c < 4) = true := decide_eq_true (by omega)
    have d3 : decide (0 ≤ n) = false := decide_eq_false (by omega)
    clear hr h0 h1 h2 h3
    go_enter Tryd.func15, Tryd.ntmps15
    go_wp2_with fail
    go_ret
    exact ⟨rfl, (Below.refl _ _).alloc (Nat.le_refl _) _⟩
  by_cases h4 : ¬ (n < 1099511627776)
  · obtain rfl : r = false := by rw [← hr]; first | exact decide_eq_true (by omega) | exact decide_eq_false (by omega)
    have d0 : ((k : Int) != 0) = true := by simp; omega
    have d1 : decide (0 ≤ c) = true := decide_eq_true (by omega)
    have d2 : decide (c < 4) = true := decide_eq_true (by omega)
    have d3 : decide (0 ≤ n) = true := decide_eq_true (by omega)
    have d4 : decide (n < 1099511627776) = false := decide_eq_false (by omega)
    clear hr h0 h1 h2 h3 h4
    go_enter Tryd.func15, Tryd.ntmps15
    go_wp2_with fail
    go_ret
    exact ⟨rfl, (Below.refl _ _).alloc (Nat.le_refl _) _⟩
  by_cases h5 : ¬ (0 ≤ v)
  · obtain rfl : r = false := by rw [← hr]; first | exact decide_eq_true (by omega) | exact decide_eq_false (by omega)
    have d0 : ((k : Int) != 0) = true := by simp; omega
    have d1 : decide (0 ≤ c) = true := decide_eq_true (by omega)
    have d2 : decide (c < 4) = true := decide_eq_true (by omega)
    have d3 : decide (0 ≤ n) = true := decide_eq_true (by omega)
    have d4 : decide (n < 1099511627776) = true := decide_eq_true (by omega)
    have d5 : decide (0 ≤ v) = false := decide_eq_false (by omega)
    clear hr h0 h1 h2 h3 h4 h5
    go_enter Tryd.func15, Tryd.ntmps15
    go_wp2_with fail
    go_ret
    exact ⟨rfl, (Below.refl _ _).alloc (Nat.le_refl _) _⟩
  by_cases h6 : ¬ (v < 1099511627776)
  · obtain rfl : r = false := by rw [← hr]; first | exact decide_eq_true (by omega) | exact decide_eq_false (by omega)
    have d0 : ((k : Int) != 0) = true := by simp; omega
    have d1 : decide (0 ≤ c) = true := decide_eq_true (by omega)
    have d2 : decide (c < 4) = true := decide_eq_true (by omega)
    have d3 : decide (0 ≤ n) = true := decide_eq_true (by omega)
    have d4 : decide (n < 1099511627776) = true := decide_eq_true (by omega)
    have d5 : decide (0 ≤ v) = true := decide_eq_true (by omega)
    have d6 : decide (v < 1099511627776) = false := decide_eq_false (by omega)
    clear hr h0 h1 h2 h3 h4 h5 h6
    go_enter Tryd.func15, Tryd.ntmps15
    go_wp2_with fail
    go_ret
    exact ⟨rfl, (Below.refl _ _).alloc (Nat.le_refl _) _⟩
  by_cases h7 : ¬ (l ≤ 64)
  · obtain rfl : r = false := by rw [← hr]; first | exact decide_eq_true (by omega) | exact decide_eq_false (by omega)
    have d0 : ((k : Int) != 0) = true := by simp; omega
    have d1 : decide (0 ≤ c) = true := decide_eq_true (by omega)
    have d2 : decide (c < 4) = true := decide_eq_true (by omega)
    have d3 : decide (0 ≤ n) = true := decide_eq_true (by omega)
    have d4 : decide (n < 1099511627776) = true := decide_eq_true (by omega)
    have d5 : decide (0 ≤ v) = true := decide_eq_true (by omega)
    have d6 : decide (v < 1099511627776) = true := decide_eq_true (by omega)
    have d7 : decide ((l : Int) ≤ 64) = false := decide_eq_false (by omega)
    clear hr h0 h1 h2 h3 h4 h5 h6 h7
    go_enter Tryd.func15, Tryd.ntmps15
    go_wp2_with fail
    go_ret
    exact ⟨rfl, (Below.refl _ _).alloc (Nat.le_refl _) _⟩
  obtain rfl : r = true := by rw [← hr]; first | exact decide_eq_true (by omega) | exact decide_eq_false (by omega)
  have d0 : ((k : Int) != 0) = true := by simp; omega
  have d1 : decide (0 ≤ c) = true := decide_eq_true (by omega)
  have d2 : decide (c < 4) = true := decide_eq_true (by omega)
  have d3 : decide (0 ≤ n) = true := decide_eq_true (by omega)
  have d4 : decide (n < 1099511627776) = true := decide_eq_true (by omega)
  have d5 : decide (0 ≤ v) = true := decide_eq_true (by omega)
  have d6 : decide (v < 1099511627776) = true := decide_eq_true (by omega)
  have d7 : decide ((l : Int) ≤ 64) = true := decide_eq_true (by omega)
  clear hr h0 h1 h2 h3 h4 h5 h6 h7
  go_enter Tryd.func15, Tryd.ntmps15
  go_wp2_with fail
  go_ret
  exact ⟨rfl, (Below.refl _ _).alloc (Nat.le_refl _) _⟩
end Go.Proofs.YthfoakomapmkeaaDoor
