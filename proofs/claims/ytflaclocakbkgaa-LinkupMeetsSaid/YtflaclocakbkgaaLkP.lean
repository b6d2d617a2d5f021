/- A side in memory; its methods. -/
import Derived.Test.YtflaclocakbkgaaLkR
namespace Go.Proofs.Ytflaclocakbkgaa
open Go.RowKit

/-- A side in memory. -/
structure SdAt (w : World) (g : Nat) (s : Sv) : Prop where
  mine : w.cell? ⟨g, 0, none⟩ = some (.int .i64 (s.mine : Int))
  dead : w.cell? ⟨g, 1, none⟩ = some (.int .i64 (s.dead : Int))
  seen : w.cell? ⟨g, 2, none⟩ = some (.int .i64 (s.seen : Int))
  silent : w.cell? ⟨g, 3, none⟩ = some (.int .i64 (s.silent : Int))
  state : w.cell? ⟨g, 4, none⟩ = some (.int .i64 (s.state : Int))
  peer : w.cell? ⟨g, 5, none⟩ = some (.int .i64 (s.peer : Int))
  changes : w.cell? ⟨g, 6, none⟩ = some (.int .i64 (s.changes : Int))
  z : ∀ j, w.frozen? ⟨g, j, none⟩ = false
theorem SdAt.lt {w : World} {g : Nat} {s : Sv} (x : SdAt w g s) : g < w.heap.size := World.block_lt_of_cell? w ⟨g, 0, none⟩ x.mine
theorem SdAt.same {w w' : World} {g : Nat} {s : Sv} (x : SdAt w g s) (e : w'.heap[g]? = w.heap[g]?) : SdAt w' g s :=
  ⟨(World.cell?_of_block (a := ⟨g, 0, none⟩) e).trans x.mine, (World.cell?_of_block (a := ⟨g, 1, none⟩) e).trans x.dead, (World.cell?_of_block (a := ⟨g, 2, none⟩) e).trans x.seen, (World.cell?_of_block (a := ⟨g, 3, none⟩) e).trans x.silent, (World.cell?_of_block (a := ⟨g, 4, none⟩) e).trans x.state, (World.cell?_of_block (a := ⟨g, 5, none⟩) e).trans x.peer, (World.cell?_of_block (a := ⟨g, 6, none⟩) e).trans x.changes, fun j => (World.frozen?_of_block (a := ⟨g, j, none⟩) e).trans (x.z j)⟩
theorem SdAt.keep {w w' : World} {g : Nat} {s : Sv} (x : SdAt w g s) (hb : Below w.heap.size w w') : SdAt w' g s := x.same (hb.block g x.lt)
theorem SdAt.apart {w w' : World} {g k : Nat} {s : Sv} (x : SdAt w g s) (a : Apart k none w w') (h : g ≠ k) : SdAt w' g s := x.same (a.block g x.lt h (by simp))

section
variable (g : Nat) (s : Sv) (w : World)
set_option maxHeartbeats 1000000 in
theorem state_any (x : SdAt w g s) : Calls Try.prog 18 #[.pointer (some ⟨g, 0, none⟩)] w fun e w' => e = .returned (.int .i64 (s.state : Int)) ∧ w = w' := by
  obtain ⟨q0, q1, q2, q3, q4, q5, q6, qz⟩ := x
  go_enter Try.func18, Try.ntmps18
  go_wp2_with go_in
  go_ret
  exact ⟨rfl, rfl⟩

theorem state_nil : Calls Try.prog 18 #[.pointer none] w fun e w' => e = .returned (.int .i64 0) ∧ w = w' := by
  go_enter Try.func18, Try.ntmps18
  go_wp2_with go_in
  go_ret
  exact ⟨rfl, rfl⟩

set_option maxHeartbeats 1000000 in
theorem peer_any (x : SdAt w g s) : Calls Try.prog 19 #[.pointer (some ⟨g, 0, none⟩)] w fun e w' => e = .returned (.int .i64 (s.peer : Int)) ∧ w = w' := by
  obtain ⟨q0, q1, q2, q3, q4, q5, q6, qz⟩ := x
  go_enter Try.func19, Try.ntmps19
  go_wp2_with go_in
  go_ret
  exact ⟨rfl, rfl⟩

theorem peer_nil : Calls Try.prog 19 #[.pointer none] w fun e w' => e = .returned (.int .i64 0) ∧ w = w' := by
  go_enter Try.func19, Try.ntmps19
  go_wp2_with go_in
  go_ret
  exact ⟨rfl, rfl⟩

set_option maxHeartbeats 1000000 in
theorem changes_any (x : SdAt w g s) : Calls Try.prog 20 #[.pointer (some ⟨g, 0, none⟩)] w fun e w' => e = .returned (.int .i64 (s.changes : Int)) ∧ w = w' := by
  obtain ⟨q0, q1, q2, q3, q4, q5, q6, qz⟩ := x
  go_enter Try.func20, Try.ntmps20
  go_wp2_with go_in
  go_ret
  exact ⟨rfl, rfl⟩

theorem changes_nil : Calls Try.prog 20 #[.pointer none] w fun e w' => e = .returned (.int .i64 0) ∧ w = w' := by
  go_enter Try.func20, Try.ntmps20
  go_wp2_with go_in
  go_ret
  exact ⟨rfl, rfl⟩

set_option maxHeartbeats 1000000 in
theorem accepts_any (x : SdAt w g s) (i : Int) : Calls Try.prog 21 #[.pointer (some ⟨g, 0, none⟩), .int .i64 i] w fun e w' => e = .returned (.bool (decide (0 < s.peer ∧ (s.peer : Int) = i))) ∧ w = w' := by
  obtain ⟨q0, q1, q2, q3, q4, q5, q6, qz⟩ := x
  by_cases h1 : 0 < s.peer
  · by_cases h2 : (s.peer : Int) = i
    · rw [decide_eq_true (And.intro h1 h2)]
      have hb : ((s.peer : Int) == i) = true := by simp [h2]
      clear h2
      go_enter Try.func21, Try.ntmps21
      go_wp2_with go_in
      go_ret
      exact ⟨by first | rfl | (simp [*]; done) | (simp; omega), rfl⟩
    · rw [decide_eq_false (fun h => h2 h.2)]
      have hb : ((s.peer : Int) == i) = false := by simp [h2]
      clear h2
      go_enter Try.func21, Try.ntmps21
      go_wp2_with go_in
      go_ret
      exact ⟨by first | rfl | (simp [*]; done) | (simp; omega), rfl⟩
  · rw [decide_eq_false (fun h => h1 h.1)]
    have h0 : s.peer = 0 := by omega
    have hb : decide (0 < s.peer) = false := decide_eq_false h1
    go_enter Try.func21, Try.ntmps21
    go_wp2_with go_in
    go_ret
    exact ⟨by first | rfl | simp, rfl⟩

end
end Go.Proofs.Ytflaclocakbkgaa
