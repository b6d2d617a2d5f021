/- The giver's methods. -/
import Derived.Test.YtoolphpideicoaaCreB
namespace Go.Proofs.Ytoolphpideicoaa
open Go.RowKit

theorem drewN_below (w : World) (t : Nat) : Below w.heap.size w (w.drewN t) := ⟨rfl, rfl, rfl, Nat.le_refl _, fun _ _ => rfl⟩
theorem C3.drewN {w : World} {h o : Nat} {c : Gc} (x : C3 w h o c) (n : Nat) : C3 (w.drewN n) h o c := x.same rfl
theorem C3.lt {w : World} {h o : Nat} {c : Gc} (x : C3 w h o c) : h < w.heap.size := World.block_lt_of_cell? w ⟨h, o, none⟩ x.q0
theorem C3.set1 {w : World} {h o : Nat} {c : Gc} (x : C3 w h o c) (n : Nat) (u : Value) (hu : u = .int .i64 n) : C3 (w.setCell ⟨h, o + 1, none⟩ u) h o ⟨c.r, n, c.f⟩ := by
  subst hu
  exact ⟨cell_else (by omega) x.q0 _, cell_put x.q1 _, cell_else (by omega) x.q2 _, fun j => by rw [World.frozen?_setCell]; exact x.z j⟩
theorem C3.set2 {w : World} {h o : Nat} {c : Gc} (x : C3 w h o c) (n : Nat) (u : Value) (hu : u = .int .i64 n) : C3 (w.setCell ⟨h, o + 2, none⟩ u) h o ⟨c.r, c.v, n⟩ := by
  subst hu
  exact ⟨cell_else (by omega) x.q0 _, cell_else (by omega) x.q1 _, cell_put x.q2 _, fun j => by rw [World.frozen?_setCell]; exact x.z j⟩

section
variable (h o : Nat) (c : Gc) (w : World)
theorem limit_q (x : C3 w h o c) (ok : c.Ok) (n : Nat) : Calls Try.prog 33 #[.pointer (some ⟨h, o, none⟩)] (w.drewN n) fun e w'' => e = .returned (.int .i64 (c.lim : Int)) ∧ ∃ m, w'' = w.drewN m :=
  Calls.quiet_of (limit_one h o c _ (x.drewN n) ok)
set_option maxHeartbeats 1000000 in
theorem recv_one (x : C3 w h o c) (ok : c.Ok) :
    Calls Try.prog 40 #[.pointer (some ⟨h, o, none⟩)] w fun e w' => e = .returned (.tuple #[.int .i64 0, .int .i64 c.recvE]) ∧ C3 w' h o c.recvC ∧ Touch h o 3 w w' := by
  have LQ := box (limit_q h o c w x ok)
  have X := box x
  obtain ⟨a1, a2, a3, a4, a5⟩ := ok
  unfold LIM at a5
  obtain ⟨q0, q1, q2, z⟩ := x
  have F := box (fun n => show C3 (w.drewN n) h o c ∧ Touch h o 3 w (w.drewN n) from ⟨X.out.drewN n, Touch.ofBelow X.out.lt (drewN_below w n)⟩)
  by_cases hl : c.lim ≤ c.v
  · have e1 : c.recvE = 5 := if_pos hl
    have e2 : c.recvC = c := if_pos hl
    have hd : decide ((c.lim : Int) ≤ (c.v : Int)) = true := decide_eq_true (by omega)
    rw [e1, e2]
    clear e1 e2 X
    go_enter Try.func40, Try.ntmps40
    go_wp2_with fail
    go_quiet ((go_at_call 33; exact LQ.out _))
    go_wp2_with fail
    go_ret2
    exact ⟨rfl, F.out _⟩
  · have e1 : c.recvE = 0 := if_neg hl
    have e2 : c.recvC = ⟨c.r, c.v + 1, c.f⟩ := if_neg hl
    have hd : decide ((c.lim : Int) ≤ (c.v : Int)) = false := decide_eq_false (by omega)
    have F2 := box (fun n => show C3 ((w.drewN n).setCell ⟨h, o + 1, none⟩ (.int .i64 ((c.v : Int) + 1))) h o ⟨c.r, c.v + 1, c.f⟩ ∧ Touch h o 3 w ((w.drewN n).setCell ⟨h, o + 1, none⟩ (.int .i64 ((c.v : Int) + 1))) from ⟨(F.out n).1.set1 _ _ rfl, (F.out n).2.trans (Touch.set _ (by omega) _)⟩)
    rw [e1, e2]
    clear e1 e2 X F
    have q1n := fun n => (show (w.drewN n).cell? ⟨h, o + 1, none⟩ = some (.int .i64 c.v) from q1)
    have zn := fun n => (show (w.drewN n).frozen? ⟨h, o + 1, none⟩ = false from z (o + 1))
    go_enter Try.func40, Try.ntmps40
    go_wp2_with fail
    go_quiet ((go_at_call 33; exact LQ.out _))
    go_wp2_with fail
    go_ret2
    exact ⟨rfl, F2.out _⟩
set_option maxHeartbeats 1000000 in
theorem free_one (x : C3 w h o c) (ok : c.Ok) :
    Calls Try.prog 41 #[.pointer (some ⟨h, o, none⟩)] w fun e w' => e = .returned (.tuple #[.int .i64 0, .int .i64 c.freeE]) ∧ C3 w' h o c.freeC ∧ Touch h o 3 w w' := by
  have HQ := box (held_one h o c w x ok)
  have X := box x
  obtain ⟨a1, a2, a3, a4, a5⟩ := ok
  unfold LIM at a5
  obtain ⟨q0, q1, q2, z⟩ := x
  have F := box (fun n => show C3 (w.drewN n) h o c ∧ Touch h o 3 w (w.drewN n) from ⟨X.out.drewN n, Touch.ofBelow X.out.lt (drewN_below w n)⟩)
  have q2n := fun n => (show (w.drewN n).cell? ⟨h, o + 2, none⟩ = some (.int .i64 c.f) from q2)
  have zn := fun n => (show (w.drewN n).frozen? ⟨h, o + 2, none⟩ = false from z (o + 2))
  by_cases hl : c.v = c.f
  · have e1 : c.freeE = 7 := if_pos hl
    have e2 : c.freeC = c := if_pos hl
    have hd : ((c.v : Int) - (c.f : Int)) = 0 := by omega
    rw [e1, e2]
    rw [hd] at HQ
    clear e1 e2 X hd
    go_enter Try.func41, Try.ntmps41
    go_wp2_with fail
    refine HQ.out.mono ?_
    rintro e w' ⟨rfl, n, rfl⟩
    go_wp2_with fail
    go_ret2
    exact ⟨rfl, F.out _⟩
  · have e1 : c.freeE = 0 := if_neg hl
    have e2 : c.freeC = ⟨c.r, c.v, c.f + 1⟩ := if_neg hl
    have hd : ¬ ((c.v : Int) - (c.f : Int)) = 0 := by omega
    have F2 := box (fun n => show C3 ((w.drewN n).setCell ⟨h, o + 2, none⟩ (.int .i64 ((c.f : Int) + 1))) h o ⟨c.r, c.v, c.f + 1⟩ ∧ Touch h o 3 w ((w.drewN n).setCell ⟨h, o + 2, none⟩ (.int .i64 ((c.f : Int) + 1))) from ⟨(F.out n).1.set2 _ _ rfl, (F.out n).2.trans (Touch.set _ (by omega) _)⟩)
    rw [e1, e2]
    clear e1 e2 X F
    go_enter Try.func41, Try.ntmps41
    go_wp2_with fail
    refine HQ.out.mono ?_
    rintro e w' ⟨rfl, n, rfl⟩
    go_wp2_with fail
    go_ret2
    exact ⟨rfl, F2.out _⟩
set_option maxHeartbeats 1000000 in
theorem lim_one (x : C3 w h o c) (ok : c.Ok) :
    Calls Try.prog 32 #[.pointer (some ⟨h, o, none⟩)] w fun e w' => e = .returned (.tuple #[.int .i64 (c.lim : Int), .int .i64 0]) ∧ ∃ n, w' = w.drewN n := by
  have HQ := box (limit_one h o c w x ok)
  clear x ok
  go_enter Try.func32, Try.ntmps32
  go_wp2_with fail
  refine HQ.out.mono ?_
  rintro e w' ⟨rfl, n, rfl⟩
  go_wp2_with fail
  go_ret2
  exact ⟨rfl, _, rfl⟩
set_option maxHeartbeats 1000000 in
theorem heldc_one (x : C3 w h o c) (ok : c.Ok) :
    Calls Try.prog 34 #[.pointer (some ⟨h, o, none⟩)] w fun e w' => e = .returned (.tuple #[.int .i64 ((c.v : Int) - (c.f : Int)), .int .i64 0]) ∧ ∃ n, w' = w.drewN n := by
  have HQ := box (held_one h o c w x ok)
  clear x ok
  go_enter Try.func34, Try.ntmps34
  go_wp2_with fail
  refine HQ.out.mono ?_
  rintro e w' ⟨rfl, n, rfl⟩
  go_wp2_with fail
  go_ret2
  exact ⟨rfl, _, rfl⟩
set_option maxHeartbeats 2000000 in
theorem aud_one (s : Int) (b : Nat) (hb : w.cell? ⟨b, 0, none⟩ = some (.int .i64 s)) (x : C3 w h o c) (ok : c.Ok) :
    Calls Try.prog 39 #[.pointer (some ⟨h, o, none⟩), .pointer (some ⟨b, 0, none⟩)] w fun e w' => e = .returned (.tuple #[.int .i64 (c.audN s), .int .i64 (c.audE s)]) ∧ C3 w' h o (c.audC s) ∧ Touch h o 3 w w' := by
  have LQ := box (limit_q h o c w x ok)
  have X := box x
  have a6 : c.lim ≤ LIM := Nat.min_le_right _ _
  obtain ⟨a1, a2, a3, a4, a5⟩ := ok
  unfold LIM at a5 a6
  obtain ⟨q0, q1, q2, z⟩ := x
  have F := box (fun n => show C3 (w.drewN n) h o c ∧ Touch h o 3 w (w.drewN n) from ⟨X.out.drewN n, Touch.ofBelow X.out.lt (drewN_below w n)⟩)
  have hbn := fun n => (show (w.drewN n).cell? ⟨b, 0, none⟩ = some (.int .i64 s) from hb)
  have q1n := fun n => (show (w.drewN n).cell? ⟨h, o + 1, none⟩ = some (.int .i64 c.v) from q1)
  by_cases h1 : s < c.v
  · have hs : s < c.v ∨ (c.lim : Int) < s := .inl h1
    have e1 : c.audN s = 0 := if_pos hs
    have e2 : c.audC s = c := if_pos hs
    have e3 : c.audE s = 2 := if_pos hs
    have hd : decide (s < (c.v : Int)) = true := decide_eq_true h1
    rw [e1, e2, e3]
    clear e1 e2 e3 hs X
    go_enter Try.func39, Try.ntmps39
    go_wp2_with fail
    go_quiet ((go_at_call 33; exact LQ.out _))
    go_wp2_with fail
    go_ret2
    exact ⟨rfl, F.out _⟩
  have hd1 : decide (s < (c.v : Int)) = false := decide_eq_false h1
  by_cases h2 : (c.lim : Int) < s
  · have hs : s < c.v ∨ (c.lim : Int) < s := .inr h2
    have e1 : c.audN s = 0 := if_pos hs
    have e2 : c.audC s = c := if_pos hs
    have e3 : c.audE s = 2 := if_pos hs
    have hd : decide ((c.lim : Int) < s) = true := decide_eq_true h2
    rw [e1, e2, e3]
    clear e1 e2 e3 hs X
    go_enter Try.func39, Try.ntmps39
    go_wp2_with fail
    go_quiet ((go_at_call 33; exact LQ.out _))
    go_wp2_with fail
    go_ret2
    exact ⟨rfl, F.out _⟩
  have hs : ¬ (s < c.v ∨ (c.lim : Int) < s) := by omega
  have e1 : c.audN s = s - c.v := if_neg hs
  have e2 : c.audC s = ⟨c.r, s.toNat, c.f + (s.toNat - c.v)⟩ := if_neg hs
  have e3 : c.audE s = 0 := if_neg hs
  have hd2 : decide ((c.lim : Int) < s) = false := decide_eq_false h2
  have F2 := box (fun n => show C3 (((w.drewN n).setCell ⟨h, o + 1, none⟩ (.int .i64 ((c.v : Int) + (s - (c.v : Int))))).setCell ⟨h, o + 2, none⟩ (.int .i64 ((c.f : Int) + (s - (c.v : Int))))) h o ⟨c.r, s.toNat, c.f + (s.toNat - c.v)⟩ ∧ Touch h o 3 w (((w.drewN n).setCell ⟨h, o + 1, none⟩ (.int .i64 ((c.v : Int) + (s - (c.v : Int))))).setCell ⟨h, o + 2, none⟩ (.int .i64 ((c.f : Int) + (s - (c.v : Int))))) from
    ⟨((F.out n).1.set1 s.toNat _ (by congr 1; omega)).set2 (c.f + (s.toNat - c.v)) _ (by congr 1; omega), (F.out n).2.trans ((Touch.set _ (by omega) _).trans (Touch.set _ (by omega) _))⟩)
  rw [e1, e2, e3]
  clear e1 e2 e3 hs X F
  have q2n := fun n => (show (w.drewN n).cell? ⟨h, o + 2, none⟩ = some (.int .i64 c.f) from q2)
  have zn := fun n j => (show (w.drewN n).frozen? ⟨h, j, none⟩ = false from z j)
  go_enter Try.func39, Try.ntmps39
  go_wp2_with fail
  go_quiet ((go_at_call 33; exact LQ.out _))
  go_wp2_with fail
  go_quiet (fail)
  go_wp2_with fail
  go_ret2
  exact ⟨rfl, F2.out _⟩
end
end Go.Proofs.Ytoolphpideicoaa
