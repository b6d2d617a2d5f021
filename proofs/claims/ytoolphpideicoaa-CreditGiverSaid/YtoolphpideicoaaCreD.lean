/- The giver's methods, whole. -/
import Derived.Test.YtoolphpideicoaaCreC
namespace Go.Proofs.Ytoolphpideicoaa
open Go.RowKit

theorem GvAt.one {w : World} {g h : Nat} {l : List Gc} (x : GvAt w g h l) {k : Nat} {c : Gc} (hc : l[k]? = some c) : C3 w h (k * 3) c := by
  obtain ⟨hkl, hck⟩ := List.getElem?_eq_some_iff.1 hc
  have y := x.c3 k hkl
  rw [hck] at y
  exact y
theorem GvAt.drewN {w : World} {g h : Nat} {l : List Gc} (x : GvAt w g h l) (n : Nat) : GvAt (w.drewN n) g h l := x.same (Nat.le_refl _) rfl rfl
theorem box_new (w : World) (v : Value) (t : TypeId) : (w.alloc (.cells #[v] t)).cell? ⟨w.heap.size, 0, none⟩ = some v := World.cell?_alloc_mark w #[v] t (0, 0) 0

set_option maxHeartbeats 1000000 in
theorem receive_any (kI : Int) (k : Nat) (hk : kI = k) (g h : Nat) (l : List Gc) (w : World) (x : GvAt w g h l) (c : Gc) (hc : l[k]? = some c) (ok : c.Ok) :
    Calls Try.prog 20 #[.pointer (some ⟨g, 0, none⟩), .int .i64 kI] w fun e w' => e = .returned (.int .i64 c.recvE) ∧ GvAt w' g h (l.set k c.recvC) ∧ Apart h none w w' := by
  obtain ⟨hkl, _⟩ := List.getElem?_eq_some_iff.1 hc
  have CL := box (recv_one h (k * 3) c w (x.one hc) ok)
  have X := box x
  obtain ⟨q, _, _, _⟩ := x
  subst hk
  clear hc ok
  go_enter Try.func20, Try.ntmps20
  go_wp2_with (first | (go_at_call 40; refine CL.out.mono ?_; rintro e w1 ⟨rfl, x1, t1⟩) | go_in)
  go_ret
  exact ⟨rfl, X.out.touch t1 x1, t1.apart⟩
set_option maxHeartbeats 1000000 in
theorem receive_bad (kI : Int) (g h : Nat) (l : List Gc) (hk : kI < 0 ∨ (l.length : Int) ≤ kI) (w : World) (x : GvAt w g h l) :
    Calls Try.prog 20 #[.pointer (some ⟨g, 0, none⟩), .int .i64 kI] w fun e w' => e = .returned (.int .i64 2) ∧ w = w' := by
  obtain ⟨q, _, _, _⟩ := x
  by_cases h1 : kI < 0
  · clear hk
    go_enter Try.func20, Try.ntmps20
    go_wp2_with go_in
    go_ret
    exact ⟨rfl, rfl⟩
  · have h2 : (l.length : Int) ≤ kI := by omega
    clear hk
    go_enter Try.func20, Try.ntmps20
    go_wp2_with go_in
    go_ret
    exact ⟨rfl, rfl⟩
set_option maxHeartbeats 1000000 in
theorem receive_nil (kI : Int) (w : World) :
    Calls Try.prog 20 #[.pointer none, .int .i64 kI] w fun e w' => e = .returned (.int .i64 1) ∧ w = w' := by
  go_enter Try.func20, Try.ntmps20
  go_wp2_with go_in
  go_ret
  exact ⟨rfl, rfl⟩

set_option maxHeartbeats 1000000 in
theorem free_any (kI : Int) (k : Nat) (hk : kI = k) (g h : Nat) (l : List Gc) (w : World) (x : GvAt w g h l) (c : Gc) (hc : l[k]? = some c) (ok : c.Ok) :
    Calls Try.prog 21 #[.pointer (some ⟨g, 0, none⟩), .int .i64 kI] w fun e w' => e = .returned (.int .i64 c.freeE) ∧ GvAt w' g h (l.set k c.freeC) ∧ Apart h none w w' := by
  obtain ⟨hkl, _⟩ := List.getElem?_eq_some_iff.1 hc
  have CL := box (free_one h (k * 3) c w (x.one hc) ok)
  have X := box x
  obtain ⟨q, _, _, _⟩ := x
  subst hk
  clear hc ok
  go_enter Try.func21, Try.ntmps21
  go_wp2_with (first | (go_at_call 41; refine CL.out.mono ?_; rintro e w1 ⟨rfl, x1, t1⟩) | go_in)
  go_ret
  exact ⟨rfl, X.out.touch t1 x1, t1.apart⟩
set_option maxHeartbeats 1000000 in
theorem free_bad (kI : Int) (g h : Nat) (l : List Gc) (hk : kI < 0 ∨ (l.length : Int) ≤ kI) (w : World) (x : GvAt w g h l) :
    Calls Try.prog 21 #[.pointer (some ⟨g, 0, none⟩), .int .i64 kI] w fun e w' => e = .returned (.int .i64 2) ∧ w = w' := by
  obtain ⟨q, _, _, _⟩ := x
  by_cases h1 : kI < 0
  · clear hk
    go_enter Try.func21, Try.ntmps21
    go_wp2_with go_in
    go_ret
    exact ⟨rfl, rfl⟩
  · have h2 : (l.length : Int) ≤ kI := by omega
    clear hk
    go_enter Try.func21, Try.ntmps21
    go_wp2_with go_in
    go_ret
    exact ⟨rfl, rfl⟩
set_option maxHeartbeats 1000000 in
theorem free_nil (kI : Int) (w : World) :
    Calls Try.prog 21 #[.pointer none, .int .i64 kI] w fun e w' => e = .returned (.int .i64 1) ∧ w = w' := by
  go_enter Try.func21, Try.ntmps21
  go_wp2_with go_in
  go_ret
  exact ⟨rfl, rfl⟩

set_option maxHeartbeats 1000000 in
theorem limit_any (kI : Int) (k : Nat) (hk : kI = k) (g h : Nat) (l : List Gc) (w : World) (x : GvAt w g h l) (c : Gc) (hc : l[k]? = some c) (ok : c.Ok) :
    Calls Try.prog 15 #[.pointer (some ⟨g, 0, none⟩), .int .i64 kI] w fun e w' => e = .returned (.int .i64 (c.lim : Int)) ∧ ∃ n, w' = w.drewN n := by
  obtain ⟨hkl, _⟩ := List.getElem?_eq_some_iff.1 hc
  have CL := box (lim_one h (k * 3) c w (x.one hc) ok)
  obtain ⟨q, _, _, _⟩ := x
  subst hk
  clear hc ok
  go_enter Try.func15, Try.ntmps15
  go_wp2_with (first | (go_at_call 32; refine CL.out.mono ?_; rintro e w1 ⟨rfl, n1, rfl⟩) | go_in)
  go_ret
  exact ⟨rfl, _, rfl⟩
set_option maxHeartbeats 1000000 in
theorem limit_bad (kI : Int) (g h : Nat) (l : List Gc) (hk : kI < 0 ∨ (l.length : Int) ≤ kI) (w : World) (x : GvAt w g h l) :
    Calls Try.prog 15 #[.pointer (some ⟨g, 0, none⟩), .int .i64 kI] w fun e w' => e = .returned (.int .i64 0) ∧ w = w' := by
  obtain ⟨q, _, _, _⟩ := x
  by_cases h1 : kI < 0
  · clear hk
    go_enter Try.func15, Try.ntmps15
    go_wp2_with go_in
    go_ret
    exact ⟨rfl, rfl⟩
  · have h2 : (l.length : Int) ≤ kI := by omega
    clear hk
    go_enter Try.func15, Try.ntmps15
    go_wp2_with go_in
    go_ret
    exact ⟨rfl, rfl⟩
set_option maxHeartbeats 1000000 in
theorem limit_nil (kI : Int) (w : World) :
    Calls Try.prog 15 #[.pointer none, .int .i64 kI] w fun e w' => e = .returned (.int .i64 0) ∧ w = w' := by
  go_enter Try.func15, Try.ntmps15
  go_wp2_with go_in
  go_ret
  exact ⟨rfl, rfl⟩

set_option maxHeartbeats 1000000 in
theorem held_any (kI : Int) (k : Nat) (hk : kI = k) (g h : Nat) (l : List Gc) (w : World) (x : GvAt w g h l) (c : Gc) (hc : l[k]? = some c) (ok : c.Ok) :
    Calls Try.prog 16 #[.pointer (some ⟨g, 0, none⟩), .int .i64 kI] w fun e w' => e = .returned (.int .i64 ((c.v : Int) - (c.f : Int))) ∧ ∃ n, w' = w.drewN n := by
  obtain ⟨hkl, _⟩ := List.getElem?_eq_some_iff.1 hc
  have CL := box (heldc_one h (k * 3) c w (x.one hc) ok)
  obtain ⟨q, _, _, _⟩ := x
  subst hk
  clear hc ok
  go_enter Try.func16, Try.ntmps16
  go_wp2_with (first | (go_at_call 34; refine CL.out.mono ?_; rintro e w1 ⟨rfl, n1, rfl⟩) | go_in)
  go_ret
  exact ⟨rfl, _, rfl⟩
set_option maxHeartbeats 1000000 in
theorem held_bad (kI : Int) (g h : Nat) (l : List Gc) (hk : kI < 0 ∨ (l.length : Int) ≤ kI) (w : World) (x : GvAt w g h l) :
    Calls Try.prog 16 #[.pointer (some ⟨g, 0, none⟩), .int .i64 kI] w fun e w' => e = .returned (.int .i64 0) ∧ w = w' := by
  obtain ⟨q, _, _, _⟩ := x
  by_cases h1 : kI < 0
  · clear hk
    go_enter Try.func16, Try.ntmps16
    go_wp2_with go_in
    go_ret
    exact ⟨rfl, rfl⟩
  · have h2 : (l.length : Int) ≤ kI := by omega
    clear hk
    go_enter Try.func16, Try.ntmps16
    go_wp2_with go_in
    go_ret
    exact ⟨rfl, rfl⟩
set_option maxHeartbeats 1000000 in
theorem held_nil (kI : Int) (w : World) :
    Calls Try.prog 16 #[.pointer none, .int .i64 kI] w fun e w' => e = .returned (.int .i64 0) ∧ w = w' := by
  go_enter Try.func16, Try.ntmps16
  go_wp2_with go_in
  go_ret
  exact ⟨rfl, rfl⟩

set_option maxHeartbeats 1000000 in
theorem audit_any (s : Int) (kI : Int) (k : Nat) (hk : kI = k) (g h : Nat) (l : List Gc) (w : World) (x : GvAt w g h l) (c : Gc) (hc : l[k]? = some c) (ok : c.Ok) :
    Calls Try.prog 19 #[.pointer (some ⟨g, 0, none⟩), .int .i64 kI, .int .i64 s] w fun e w' => e = .returned (.tuple #[.int .i64 (c.audN s), .int .i64 (c.audE s)]) ∧ GvAt w' g h (l.set k (c.audC s)) ∧ Apart h none w w' := by
  obtain ⟨hkl, _⟩ := List.getElem?_eq_some_iff.1 hc
  have kA : Below w.heap.size w (w.alloc (.cells #[.int .i64 s] 3)) := (Below.refl _ _).alloc (Nat.le_refl _) _
  have X := box (x.keep kA)
  have CL := box (aud_one h (k * 3) c (w.alloc (.cells #[.int .i64 s] 3)) s w.heap.size (box_new _ _ _) (X.out.one hc) ok)
  have AP := box (Apart.ofBelow (g := h) (r := none) kA)
  obtain ⟨q, _, _, _⟩ := X.out
  subst hk
  clear hc ok kA x
  go_enter Try.func19, Try.ntmps19
  go_wp2_with (first | (go_at_call 39; refine CL.out.mono ?_; rintro e w1 ⟨rfl, x1, t1⟩) | go_in)
  go_ret2
  exact ⟨rfl, X.out.touch t1 x1, AP.out.trans t1.apart⟩
set_option maxHeartbeats 1000000 in
theorem audit_bad (s : Int) (kI : Int) (g h : Nat) (l : List Gc) (hk : kI < 0 ∨ (l.length : Int) ≤ kI) (w : World) (x : GvAt w g h l) :
    Calls Try.prog 19 #[.pointer (some ⟨g, 0, none⟩), .int .i64 kI, .int .i64 s] w fun e w' => e = .returned (.tuple #[.int .i64 0, .int .i64 2]) ∧ Below w.heap.size w w' := by
  have kA : Below w.heap.size w (w.alloc (.cells #[.int .i64 s] 3)) := (Below.refl _ _).alloc (Nat.le_refl _) _
  obtain ⟨q, _, _, _⟩ := x.keep kA
  have KA := box kA
  clear kA x
  by_cases h1 : kI < 0
  · clear hk
    go_enter Try.func19, Try.ntmps19
    go_wp2_with go_in
    go_ret2
    exact ⟨rfl, KA.out⟩
  · have h2 : (l.length : Int) ≤ kI := by omega
    clear hk
    go_enter Try.func19, Try.ntmps19
    go_wp2_with go_in
    go_ret2
    exact ⟨rfl, KA.out⟩
set_option maxHeartbeats 1000000 in
theorem audit_nil (s : Int) (kI : Int) (w : World) :
    Calls Try.prog 19 #[.pointer none, .int .i64 kI, .int .i64 s] w fun e w' => e = .returned (.tuple #[.int .i64 0, .int .i64 1]) ∧ Below w.heap.size w w' := by
  have kA : Below w.heap.size w (w.alloc (.cells #[.int .i64 s] 3)) := (Below.refl _ _).alloc (Nat.le_refl _) _
  go_enter Try.func19, Try.ntmps19
  go_wp2_with go_in
  go_ret2
  exact ⟨rfl, kA⟩
end Go.Proofs.Ytoolphpideicoaa
