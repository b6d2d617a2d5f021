/- A new sender; the receiver; nil pointers. -/
import Derived.Test.YtfpicobjnpjhlaaRetX
namespace Go.Proofs.Ytfpicobjnpjhlaa
open Go.RowKit

abbrev s0 (W τ : Nat) : Rs := ⟨W, τ, [], 0, 0, 0, 0, 0⟩
theorem s0_ok {W τ : Nat} (h1 : 1 ≤ W) (h2 : W ≤ 128) (h3 : 1 ≤ τ) (h4 : τ ≤ 1000) : (s0 W τ).Ok :=
  ⟨Nat.le_refl _, Nat.le_refl _, Nat.zero_le _, h1, h2, h3, h4, h3, fun k hk => by cases hk⟩
set_option maxRecDepth 100000 in
set_option maxHeartbeats 1000000 in
theorem new_any (W τ : Nat) (h1 : 1 ≤ W) (h2 : W ≤ 128) (h3 : 1 ≤ τ) (h4 : τ ≤ 1000) (w : World) :
    Calls Try.prog 13 #[.int .i64 W, .int .i64 τ] w fun e w' => ∃ g, e = .returned (.tuple #[.pointer (some ⟨g, 0, none⟩), .int .i64 0]) ∧ w.heap.size ≤ g ∧ PsAt w.heap.size (fun k => k < w.heap.size) w' g (.slice none 0 0) (s0 W τ) ∧ Below w.heap.size w w' := by
  have FIN := box (show PsAt w.heap.size (fun k => k < w.heap.size) (w.alloc (.cells #[.int .i64 W, .int .i64 τ, .slice none 0 0, .int .i64 0, .int .i64 0, .int .i64 0, .int .i64 0] 65)) w.heap.size (.slice none 0 0) (s0 W τ) from
    ⟨R7.new w _ _ _ _ _ _ _ _ _ rfl, QRow.nil _ _, (fun h => by cases h), Nat.le_refl _, ⟨Nat.lt_irrefl _, fun k h => by cases h⟩, fun x hx => by cases hx⟩)
  have HB := box ((Below.refl w.heap.size w).alloc (Nat.le_refl _) (.cells #[.int .i64 W, .int .i64 τ, .slice none 0 0, .int .i64 0, .int .i64 0, .int .i64 0, .int .i64 0] 65))
  go_enter Try.func13, Try.ntmps13
  go_wp2_with fail
  go_ret2
  exact ⟨_, rfl, Nat.le_refl _, FIN.out, HB.out⟩
set_option maxRecDepth 100000 in
set_option maxHeartbeats 1000000 in
theorem new_bad (W τ : Int) (h : W < 1 ∨ 128 < W ∨ τ < 1 ∨ 1000 < τ) (w : World) :
    Calls Try.prog 13 #[.int .i64 W, .int .i64 τ] w fun e w' => e = .returned (.tuple #[.pointer none, .int .i64 2]) ∧ w = w' := by
  by_cases c1 : W < 1
  · clear h
    go_enter Try.func13, Try.ntmps13
    go_wp2_with fail
    go_ret2
    exact ⟨rfl, rfl⟩
  by_cases c2 : 128 < W
  · clear h
    go_enter Try.func13, Try.ntmps13
    go_wp2_with fail
    go_ret2
    exact ⟨rfl, rfl⟩
  by_cases c3 : τ < 1
  · clear h
    go_enter Try.func13, Try.ntmps13
    go_wp2_with fail
    go_ret2
    exact ⟨rfl, rfl⟩
  have c4 : 1000 < τ := by omega
  clear h
  go_enter Try.func13, Try.ntmps13
  go_wp2_with fail
  go_ret2
  exact ⟨rfl, rfl⟩

theorem RcvAt.rcvB {w w' : World} {g R : Nat} (h : RcvAt w g R) (hb : Below w.heap.size w w') : RcvAt w' g R :=
  ⟨keepc hb h.q, by rw [World.frozen?_of_block (a := ⟨g, 0, none⟩) (hb.block g (World.block_lt_of_cell? w _ h.q))]; exact h.z⟩
theorem rcv_apart {w w' : World} {g h R : Nat} {v : Option Nat} (x : RcvAt w g R) (a : Apart h v w w') (h1 : g ≠ h) (h2 : some g ≠ v) : RcvAt w' g R := by
  have e := a.block g (World.block_lt_of_cell? w _ x.q) h1 h2
  exact ⟨by rw [World.cell?_of_block (a := ⟨g, 0, none⟩) e]; exact x.q, by rw [World.frozen?_of_block (a := ⟨g, 0, none⟩) e]; exact x.z⟩
set_option maxHeartbeats 1000000 in
theorem newrcv_any (w : World) :
    Calls Try.prog 24 #[] w fun e w' => ∃ g, e = .returned (.pointer (some ⟨g, 0, none⟩)) ∧ g = w.heap.size ∧ RcvAt w' g 0 ∧ Below w.heap.size w w' := by
  have q := World.cell?_alloc_mark w #[.int .i64 0] 71 (0, 0)
  have FIN := box (show RcvAt (w.alloc (.cells #[.int .i64 0] 71)) w.heap.size 0 from ⟨q 0, by
    unfold World.frozen?
    have h : (w.alloc (.cells #[.int .i64 0] 71)).heap[w.heap.size]? = some (.cells #[.int .i64 0] 71) := by show (w.heap.push _)[w.heap.size]? = _; simp
    rw [show (⟨w.heap.size, 0, none⟩ : Addr).block = w.heap.size from rfl, h]
    simp⟩)
  have HB := box ((Below.refl w.heap.size w).alloc (Nat.le_refl _) (.cells #[.int .i64 0] 71))
  clear q
  go_enter Try.func24, Try.ntmps24
  go_wp2_with fail
  go_ret
  exact ⟨_, rfl, rfl, FIN.out, HB.out⟩
set_option maxHeartbeats 1000000 in
theorem expected_any (g R : Nat) (w : World) (x : RcvAt w g R) (hR : R < 1000000) :
    Calls Try.prog 25 #[.pointer (some ⟨g, 0, none⟩)] w fun e w' => e = .returned (.int .i64 ((R : Int) % 256)) ∧ w = w' := by
  obtain ⟨q, z⟩ := x
  go_enter Try.func25, Try.ntmps25
  go_wp2_with fail
  go_ret
  exact ⟨rfl, rfl⟩
set_option maxHeartbeats 1000000 in
theorem rtotal_any (g R : Nat) (w : World) (x : RcvAt w g R) :
    Calls Try.prog 28 #[.pointer (some ⟨g, 0, none⟩)] w fun e w' => e = .returned (.int .i64 R) ∧ w = w' := by
  obtain ⟨q, z⟩ := x
  go_enter Try.func28, Try.ntmps28
  go_wp2_with fail
  go_ret
  exact ⟨rfl, rfl⟩
/-- What the receiver hands out. -/
def rcvX (R : Nat) (n : Int) (xs : List Nat) : List Nat := if n = (R : Int) % 256 then xs else []
def rcvR (R : Nat) (n : Int) : Nat := if n = (R : Int) % 256 then R + 1 else R
set_option maxRecDepth 100000 in
set_option maxHeartbeats 2000000 in
theorem receive_any (n : Int) (a : Option Addr) (l c : Nat) (xs : List Nat) (hl : xs.length = l) (hbig : l ≤ 1000) (hnil : a = none → c = 0) (g R : Nat) (w : World) (hin : In w a xs) (hg : xs ≠ [] → ∀ q, a = some q → q.block ≠ g) (x : RcvAt w g R) (hR : R < 1000000) :
    Calls Try.prog 26 #[.pointer (some ⟨g, 0, none⟩), .int .i64 n, .slice a l c] w fun e w' => ∃ a' c', e = .returned (.tuple #[.slice a' (rcvX R n xs).length c', .bool (decide (n = (R : Int) % 256))]) ∧ Own w.heap.size w' (.slice a' (rcvX R n xs).length c') (rcvX R n xs).length (rcvX R n xs) ∧ RcvAt w' g (rcvR R n) ∧ Apart g none w w' := by
  have X := box (expected_any g R w x hR)
  have x0 := box x
  obtain ⟨q, z⟩ := x
  by_cases h : n = (R : Int) % 256
  · have e1 : rcvX R n xs = xs := by unfold rcvX; rw [if_pos h]
    have e2 : rcvR R n = R + 1 := by unfold rcvR; rw [if_pos h]
    rw [e1, e2, decide_eq_true h, hl]
    have hb : (n != (R : Int) % 256) = false := by simp [h]
    have A3 := box (show Apart g none w (w.setCell ⟨g, 0, none⟩ (.int .i64 ((R : Int) + 1))) from (Apart.refl _ _ _).setCell 0 _)
    have R3 := box (show RcvAt (w.setCell ⟨g, 0, none⟩ (.int .i64 ((R : Int) + 1))) g (R + 1) from ⟨cell_put q _, by rw [World.frozen?_setCell]; exact z⟩)
    have CL := box (clone_any a l c xs hl hbig hnil (w.setCell ⟨g, 0, none⟩ (.int .i64 ((R : Int) + 1))) (in_same hin (fun hx q hq => oth_set (hg hx q hq) _ _ _)))
    clear h e1 e2 hg hin
    go_enter Try.func26, Try.ntmps26
    go_wp2_with fail
    refine X.out.mono ?_
    rintro e w2 ⟨rfl, rfl⟩
    go_wp2_with fail
    clear q z
    generalize w.setCell ⟨g, 0, none⟩ (.int .i64 ((R : Int) + 1)) = w3 at A3 R3 CL ⊢
    refine CL.out.mono ?_
    rintro e w4 ⟨v4, rfl, o4, b4⟩
    obtain ⟨a4, c4, rfl, -, -, -, -⟩ := own_any o4
    have FIN := box (show Own w.heap.size w4 (.slice a4 l c4) l xs ∧ RcvAt w4 g (R + 1) ∧ Apart g none w w4 from ⟨World.ownsRow.mono o4 A3.out.size, R3.out.rcvB b4, A3.out.trans (Apart.ofBelow b4)⟩)
    clear o4 b4
    go_wp2_with fail
    go_ret2
    exact ⟨a4, c4, rfl, FIN.out⟩
  · have e1 : rcvX R n xs = [] := by unfold rcvX; rw [if_neg h]
    have e2 : rcvR R n = R := by unfold rcvR; rw [if_neg h]
    rw [e1, e2, decide_eq_false h]
    have hb : (n != (R : Int) % 256) = true := by simp [h]
    clear h e1 e2 hg hin
    go_enter Try.func26, Try.ntmps26
    go_wp2_with fail
    refine X.out.mono ?_
    rintro e w2 ⟨rfl, rfl⟩
    go_wp2_with fail
    go_ret2
    exact ⟨none, 0, rfl, World.ownsRow_nil _ _ _ _, x0.out, Apart.refl _ _ _⟩
end Go.Proofs.Ytfpicobjnpjhlaa
