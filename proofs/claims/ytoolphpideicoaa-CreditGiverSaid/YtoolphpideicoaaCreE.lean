/- A taker in memory; its methods. -/
import Derived.Test.YtoolphpideicoaaCreD
namespace Go.Proofs.Ytoolphpideicoaa
open Go.RowKit

/-- A class of a taker: the greatest limit heard, what was sent. -/
structure Tc where
  l : Nat
  s : Nat
structure Tc.Ok (c : Tc) : Prop where
  sl : c.s ≤ c.l
  ll : c.l ≤ LIM
def Tc.rsC (c : Tc) (n : Int) : Tc := if n < 0 ∨ 1099511627776 < n then c else ⟨max c.l n.toNat, c.s⟩
def Tc.rsE (n : Int) : Int := if n < 0 ∨ 1099511627776 < n then 2 else 0
def Tc.tkC (c : Tc) : Tc := if c.l ≤ c.s then c else ⟨c.l, c.s + 1⟩
def Tc.tkE (c : Tc) : Int := if c.l ≤ c.s then 5 else 0
theorem Tc.Ok.rs {c : Tc} (h : c.Ok) (n : Int) : (c.rsC n).Ok := by
  unfold Tc.rsC
  split
  · exact h
  · next hn =>
    obtain ⟨a, b⟩ := h
    unfold LIM at b
    exact ⟨by show c.s ≤ max c.l n.toNat; omega, by show max c.l n.toNat ≤ LIM; unfold LIM; omega⟩
theorem Tc.Ok.tk {c : Tc} (h : c.Ok) : c.tkC.Ok := by
  unfold Tc.tkC
  split
  · exact h
  · obtain ⟨a, b⟩ := h
    exact ⟨by show c.s + 1 ≤ c.l; omega, b⟩
/-- A class in memory. -/
structure C2 (w : World) (h o : Nat) (c : Tc) : Prop where
  q0 : w.cell? ⟨h, o, none⟩ = some (.int .i64 c.l)
  q1 : w.cell? ⟨h, o + 1, none⟩ = some (.int .i64 c.s)
  z : ∀ j, w.frozen? ⟨h, j, none⟩ = false
theorem C2.same {w w' : World} {h o : Nat} {c : Tc} (x : C2 w h o c) (e : w'.heap[h]? = w.heap[h]?) : C2 w' h o c :=
  ⟨(World.cell?_of_block (a := ⟨h, o, none⟩) e).trans x.q0, (World.cell?_of_block (a := ⟨h, o + 1, none⟩) e).trans x.q1, fun j => (World.frozen?_of_block (a := ⟨h, j, none⟩) e).trans (x.z j)⟩
theorem C2.drewN {w : World} {h o : Nat} {c : Tc} (x : C2 w h o c) (n : Nat) : C2 (w.drewN n) h o c := x.same rfl
theorem C2.lt {w : World} {h o : Nat} {c : Tc} (x : C2 w h o c) : h < w.heap.size := World.block_lt_of_cell? w ⟨h, o, none⟩ x.q0
theorem C2.set0 {w : World} {h o : Nat} {c : Tc} (x : C2 w h o c) (n : Nat) (u : Value) (hu : u = .int .i64 n) : C2 (w.setCell ⟨h, o, none⟩ u) h o ⟨n, c.s⟩ := by
  subst hu
  exact ⟨cell_put x.q0 _, cell_else (by omega) x.q1 _, fun j => by rw [World.frozen?_setCell]; exact x.z j⟩
theorem C2.set1 {w : World} {h o : Nat} {c : Tc} (x : C2 w h o c) (n : Nat) (u : Value) (hu : u = .int .i64 n) : C2 (w.setCell ⟨h, o + 1, none⟩ u) h o ⟨c.l, n⟩ := by
  subst hu
  exact ⟨cell_else (by omega) x.q0 _, cell_put x.q1 _, fun j => by rw [World.frozen?_setCell]; exact x.z j⟩
/-- A taker in memory. -/
structure TkAt (w : World) (g h : Nat) (l : List Tc) : Prop where
  q : w.cell? ⟨g, 0, none⟩ = some (.slice (some ⟨h, 0, none⟩) l.length l.length)
  ne : g ≠ h
  c2 : ∀ i (hi : i < l.length), C2 w h (i * 2) l[i]
  lt : h < w.heap.size
theorem TkAt.glt {w : World} {g h : Nat} {l : List Tc} (x : TkAt w g h l) : g < w.heap.size := World.block_lt_of_cell? w ⟨g, 0, none⟩ x.q
theorem TkAt.same {w w' : World} {g h : Nat} {l : List Tc} (x : TkAt w g h l) (hs : w.heap.size ≤ w'.heap.size) (e1 : w'.heap[g]? = w.heap[g]?) (e2 : w'.heap[h]? = w.heap[h]?) : TkAt w' g h l :=
  ⟨(World.cell?_of_block (a := ⟨g, 0, none⟩) e1).trans x.q, x.ne, fun i hi => (x.c2 i hi).same e2, Nat.lt_of_lt_of_le x.lt hs⟩
theorem TkAt.keep {w w' : World} {g h : Nat} {l : List Tc} (x : TkAt w g h l) (hb : Below w.heap.size w w') : TkAt w' g h l := x.same hb.size (hb.block g x.glt) (hb.block h x.lt)
theorem TkAt.drewN {w : World} {g h : Nat} {l : List Tc} (x : TkAt w g h l) (n : Nat) : TkAt (w.drewN n) g h l := x.same (Nat.le_refl _) rfl rfl
theorem TkAt.apart {w w' : World} {g h k : Nat} {l : List Tc} (x : TkAt w g h l) (a : Apart k none w w') (h1 : g ≠ k) (h2 : h ≠ k) : TkAt w' g h l := x.same a.size (a.block g x.glt h1 (by simp)) (a.block h x.lt h2 (by simp))
theorem TkAt.touch {w w' : World} {g h : Nat} {l : List Tc} (x : TkAt w g h l) {k : Nat} {c : Tc} (t : Touch h (k * 2) 2 w w') (x' : C2 w' h (k * 2) c) : TkAt w' g h (l.set k c) := by
  refine ⟨?_, x.ne, fun i hi => ?_, Nat.lt_of_lt_of_le x.lt t.apart.size⟩
  · rw [World.cell?_of_block (a := ⟨g, 0, none⟩) (t.apart.block g x.glt x.ne (by simp)), List.length_set]; exact x.q
  · have hi' : i < l.length := by simpa using hi
    by_cases h : i = k
    · subst h; rw [List.getElem_set_self]; exact x'
    · rw [List.getElem_set_ne (fun e => h e.symm)]
      have y := x.c2 i hi'
      exact ⟨(t.cell _ (by omega)).trans y.q0, (t.cell _ (by omega)).trans y.q1, fun j => (t.z j).trans (y.z j)⟩
theorem TkAt.one {w : World} {g h : Nat} {l : List Tc} (x : TkAt w g h l) {k : Nat} {c : Tc} (hc : l[k]? = some c) : C2 w h (k * 2) c := by
  obtain ⟨hkl, hck⟩ := List.getElem?_eq_some_iff.1 hc
  have y := x.c2 k hkl
  rw [hck] at y
  exact y

section
variable (h o : Nat) (c : Tc) (w : World)
set_option maxHeartbeats 1000000 in
theorem take_one (x : C2 w h o c) (ok : c.Ok) :
    Calls Try.prog 43 #[.pointer (some ⟨h, o, none⟩)] w fun e w' => e = .returned (.tuple #[.int .i64 0, .int .i64 c.tkE]) ∧ C2 w' h o c.tkC ∧ Touch h o 2 w w' := by
  have X := box x
  obtain ⟨a1, a2⟩ := ok
  unfold LIM at a2
  obtain ⟨q0, q1, z⟩ := x
  have F := box (fun n => show C2 (w.drewN n) h o c ∧ Touch h o 2 w (w.drewN n) from ⟨X.out.drewN n, Touch.ofBelow X.out.lt (drewN_below w n)⟩)
  have q1n := fun n => (show (w.drewN n).cell? ⟨h, o + 1, none⟩ = some (.int .i64 c.s) from q1)
  have zn := fun n j => (show (w.drewN n).frozen? ⟨h, j, none⟩ = false from z j)
  by_cases hl : c.l ≤ c.s
  · have e1 : c.tkE = 5 := if_pos hl
    have e2 : c.tkC = c := if_pos hl
    rw [e1, e2]
    clear e1 e2 X
    go_enter Try.func43, Try.ntmps43
    go_wp2_with fail
    go_quiet (fail)
    go_wp2_with fail
    go_ret2
    exact ⟨rfl, F.out _⟩
  · have e1 : c.tkE = 0 := if_neg hl
    have e2 : c.tkC = ⟨c.l, c.s + 1⟩ := if_neg hl
    have F2 := box (fun n => show C2 ((w.drewN n).setCell ⟨h, o + 1, none⟩ (.int .i64 ((c.s : Int) + 1))) h o ⟨c.l, c.s + 1⟩ ∧ Touch h o 2 w ((w.drewN n).setCell ⟨h, o + 1, none⟩ (.int .i64 ((c.s : Int) + 1))) from ⟨(F.out n).1.set1 _ _ rfl, (F.out n).2.trans (Touch.set _ (by omega) _)⟩)
    rw [e1, e2]
    clear e1 e2 X F
    go_enter Try.func43, Try.ntmps43
    go_wp2_with fail
    go_quiet (fail)
    go_wp2_with fail
    go_ret2
    exact ⟨rfl, F2.out _⟩
set_option maxHeartbeats 1000000 in
theorem sent_one (x : C2 w h o c) (ok : c.Ok) :
    Calls Try.prog 37 #[.pointer (some ⟨h, o, none⟩)] w fun e w' => e = .returned (.tuple #[.int .i64 (c.s : Int), .int .i64 0]) ∧ ∃ n, w' = w.drewN n := by
  obtain ⟨a1, a2⟩ := ok
  obtain ⟨q0, q1, z⟩ := x
  clear a1 a2
  go_enter Try.func37, Try.ntmps37
  go_wp2_with fail
  go_ret2
  exact ⟨rfl, 0, rfl⟩
set_option maxHeartbeats 1000000 in
theorem left_one (x : C2 w h o c) (ok : c.Ok) :
    Calls Try.prog 38 #[.pointer (some ⟨h, o, none⟩)] w fun e w' => e = .returned (.tuple #[.int .i64 ((c.l : Int) - (c.s : Int)), .int .i64 0]) ∧ ∃ n, w' = w.drewN n := by
  obtain ⟨a1, a2⟩ := ok
  unfold LIM at a2
  obtain ⟨q0, q1, z⟩ := x
  go_enter Try.func38, Try.ntmps38
  go_wp2_with fail
  go_quiet (fail)
  go_wp2_with fail
  go_ret2
  exact ⟨rfl, _, rfl⟩
set_option maxHeartbeats 2000000 in
theorem raise_one (s : Int) (b : Nat) (hb : w.cell? ⟨b, 0, none⟩ = some (.int .i64 s)) (x : C2 w h o c) (ok : c.Ok) :
    Calls Try.prog 42 #[.pointer (some ⟨h, o, none⟩), .pointer (some ⟨b, 0, none⟩)] w fun e w' => e = .returned (.tuple #[.int .i64 0, .int .i64 (Tc.rsE s)]) ∧ C2 w' h o (c.rsC s) ∧ Touch h o 2 w w' := by
  have X := box x
  obtain ⟨a1, a2⟩ := ok
  unfold LIM at a2
  obtain ⟨q0, q1, z⟩ := x
  by_cases h1 : s < 0
  · have hs : s < 0 ∨ 1099511627776 < s := .inl h1
    have e1 : Tc.rsE s = 2 := if_pos hs
    have e2 : c.rsC s = c := if_pos hs
    rw [e1, e2]
    clear e1 e2 hs
    go_enter Try.func42, Try.ntmps42
    go_wp2_with fail
    go_ret2
    exact ⟨rfl, X.out, Touch.refl _ _ _ _⟩
  by_cases h2 : 1099511627776 < s
  · have hs : s < 0 ∨ 1099511627776 < s := .inr h2
    have e1 : Tc.rsE s = 2 := if_pos hs
    have e2 : c.rsC s = c := if_pos hs
    rw [e1, e2]
    clear e1 e2 hs
    go_enter Try.func42, Try.ntmps42
    go_wp2_with fail
    go_ret2
    exact ⟨rfl, X.out, Touch.refl _ _ _ _⟩
  have hs : ¬ (s < 0 ∨ 1099511627776 < s) := by omega
  have e1 : Tc.rsE s = 0 := if_neg hs
  have e2 : c.rsC s = ⟨max c.l s.toNat, c.s⟩ := if_neg hs
  rw [e1, e2]
  clear e1 e2 hs
  have F2 := box (fun (m : Nat) (hm : m = max c.l s.toNat) (u : Value) (hu : u = .int .i64 (m : Int)) => show C2 (w.setCell ⟨h, o, none⟩ u).drew h o ⟨m, c.s⟩ ∧ Touch h o 2 w (w.setCell ⟨h, o, none⟩ u).drew from ⟨(X.out.set0 m u hu).same rfl, (Touch.set _ (by omega) _).heap rfl rfl rfl rfl⟩)
  clear X
  go_enter Try.func42, Try.ntmps42
  go_wp2_with fail
  go_region
  all_goals
    go_wp2_with fail
    all_goals
      go_ret2
      exact ⟨rfl, F2.out _ (by omega) _ (by first | rfl | (congr 1; omega))⟩
end

set_option maxHeartbeats 1000000 in
theorem take_any (kI : Int) (k : Nat) (hk : kI = k) (g h : Nat) (l : List Tc) (w : World) (x : TkAt w g h l) (c : Tc) (hc : l[k]? = some c) (ok : c.Ok) :
    Calls Try.prog 23 #[.pointer (some ⟨g, 0, none⟩), .int .i64 kI] w fun e w' => e = .returned (.int .i64 c.tkE) ∧ TkAt w' g h (l.set k c.tkC) ∧ Apart h none w w' := by
  obtain ⟨hkl, _⟩ := List.getElem?_eq_some_iff.1 hc
  have CL := box (take_one h (k * 2) c w (x.one hc) ok)
  have X := box x
  obtain ⟨q, _, _, _⟩ := x
  subst hk
  clear hc ok
  go_enter Try.func23, Try.ntmps23
  go_wp2_with (first | (go_at_call 43; refine CL.out.mono ?_; rintro e w1 ⟨rfl, x1, t1⟩) | go_in)
  go_ret
  exact ⟨rfl, X.out.touch t1 x1, t1.apart⟩
set_option maxHeartbeats 1000000 in
theorem take_bad (kI : Int) (g h : Nat) (l : List Tc) (hk : kI < 0 ∨ (l.length : Int) ≤ kI) (w : World) (x : TkAt w g h l) :
    Calls Try.prog 23 #[.pointer (some ⟨g, 0, none⟩), .int .i64 kI] w fun e w' => e = .returned (.int .i64 2) ∧ w = w' := by
  obtain ⟨q, _, _, _⟩ := x
  by_cases h1 : kI < 0
  · clear hk
    go_enter Try.func23, Try.ntmps23
    go_wp2_with go_in
    go_ret
    exact ⟨rfl, rfl⟩
  · have h2 : (l.length : Int) ≤ kI := by omega
    clear hk
    go_enter Try.func23, Try.ntmps23
    go_wp2_with go_in
    go_ret
    exact ⟨rfl, rfl⟩
set_option maxHeartbeats 1000000 in
theorem take_nil (kI : Int) (w : World) :
    Calls Try.prog 23 #[.pointer none, .int .i64 kI] w fun e w' => e = .returned (.int .i64 1) ∧ w = w' := by
  go_enter Try.func23, Try.ntmps23
  go_wp2_with go_in
  go_ret
  exact ⟨rfl, rfl⟩

set_option maxHeartbeats 1000000 in
theorem sent_any (kI : Int) (k : Nat) (hk : kI = k) (g h : Nat) (l : List Tc) (w : World) (x : TkAt w g h l) (c : Tc) (hc : l[k]? = some c) (ok : c.Ok) :
    Calls Try.prog 17 #[.pointer (some ⟨g, 0, none⟩), .int .i64 kI] w fun e w' => e = .returned (.int .i64 (c.s : Int)) ∧ ∃ n, w' = w.drewN n := by
  obtain ⟨hkl, _⟩ := List.getElem?_eq_some_iff.1 hc
  have CL := box (sent_one h (k * 2) c w (x.one hc) ok)
  obtain ⟨q, _, _, _⟩ := x
  subst hk
  clear hc ok
  go_enter Try.func17, Try.ntmps17
  go_wp2_with (first | (go_at_call 37; refine CL.out.mono ?_; rintro e w1 ⟨rfl, n1, rfl⟩) | go_in)
  go_ret
  exact ⟨rfl, _, rfl⟩
set_option maxHeartbeats 1000000 in
theorem sent_bad (kI : Int) (g h : Nat) (l : List Tc) (hk : kI < 0 ∨ (l.length : Int) ≤ kI) (w : World) (x : TkAt w g h l) :
    Calls Try.prog 17 #[.pointer (some ⟨g, 0, none⟩), .int .i64 kI] w fun e w' => e = .returned (.int .i64 0) ∧ w = w' := by
  obtain ⟨q, _, _, _⟩ := x
  by_cases h1 : kI < 0
  · clear hk
    go_enter Try.func17, Try.ntmps17
    go_wp2_with go_in
    go_ret
    exact ⟨rfl, rfl⟩
  · have h2 : (l.length : Int) ≤ kI := by omega
    clear hk
    go_enter Try.func17, Try.ntmps17
    go_wp2_with go_in
    go_ret
    exact ⟨rfl, rfl⟩
set_option maxHeartbeats 1000000 in
theorem sent_nil (kI : Int) (w : World) :
    Calls Try.prog 17 #[.pointer none, .int .i64 kI] w fun e w' => e = .returned (.int .i64 0) ∧ w = w' := by
  go_enter Try.func17, Try.ntmps17
  go_wp2_with go_in
  go_ret
  exact ⟨rfl, rfl⟩

set_option maxHeartbeats 1000000 in
theorem left_any (kI : Int) (k : Nat) (hk : kI = k) (g h : Nat) (l : List Tc) (w : World) (x : TkAt w g h l) (c : Tc) (hc : l[k]? = some c) (ok : c.Ok) :
    Calls Try.prog 18 #[.pointer (some ⟨g, 0, none⟩), .int .i64 kI] w fun e w' => e = .returned (.int .i64 ((c.l : Int) - (c.s : Int))) ∧ ∃ n, w' = w.drewN n := by
  obtain ⟨hkl, _⟩ := List.getElem?_eq_some_iff.1 hc
  have CL := box (left_one h (k * 2) c w (x.one hc) ok)
  obtain ⟨q, _, _, _⟩ := x
  subst hk
  clear hc ok
  go_enter Try.func18, Try.ntmps18
  go_wp2_with (first | (go_at_call 38; refine CL.out.mono ?_; rintro e w1 ⟨rfl, n1, rfl⟩) | go_in)
  go_ret
  exact ⟨rfl, _, rfl⟩
set_option maxHeartbeats 1000000 in
theorem left_bad (kI : Int) (g h : Nat) (l : List Tc) (hk : kI < 0 ∨ (l.length : Int) ≤ kI) (w : World) (x : TkAt w g h l) :
    Calls Try.prog 18 #[.pointer (some ⟨g, 0, none⟩), .int .i64 kI] w fun e w' => e = .returned (.int .i64 0) ∧ w = w' := by
  obtain ⟨q, _, _, _⟩ := x
  by_cases h1 : kI < 0
  · clear hk
    go_enter Try.func18, Try.ntmps18
    go_wp2_with go_in
    go_ret
    exact ⟨rfl, rfl⟩
  · have h2 : (l.length : Int) ≤ kI := by omega
    clear hk
    go_enter Try.func18, Try.ntmps18
    go_wp2_with go_in
    go_ret
    exact ⟨rfl, rfl⟩
set_option maxHeartbeats 1000000 in
theorem left_nil (kI : Int) (w : World) :
    Calls Try.prog 18 #[.pointer none, .int .i64 kI] w fun e w' => e = .returned (.int .i64 0) ∧ w = w' := by
  go_enter Try.func18, Try.ntmps18
  go_wp2_with go_in
  go_ret
  exact ⟨rfl, rfl⟩

set_option maxHeartbeats 1000000 in
theorem raise_any (s : Int) (kI : Int) (k : Nat) (hk : kI = k) (g h : Nat) (l : List Tc) (w : World) (x : TkAt w g h l) (c : Tc) (hc : l[k]? = some c) (ok : c.Ok) :
    Calls Try.prog 22 #[.pointer (some ⟨g, 0, none⟩), .int .i64 kI, .int .i64 s] w fun e w' => e = .returned (.int .i64 (Tc.rsE s)) ∧ TkAt w' g h (l.set k (c.rsC s)) ∧ Apart h none w w' := by
  obtain ⟨hkl, _⟩ := List.getElem?_eq_some_iff.1 hc
  have kA : Below w.heap.size w (w.alloc (.cells #[.int .i64 s] 3)) := (Below.refl _ _).alloc (Nat.le_refl _) _
  have X := box (x.keep kA)
  have CL := box (raise_one h (k * 2) c (w.alloc (.cells #[.int .i64 s] 3)) s w.heap.size (box_new _ _ _) (X.out.one hc) ok)
  have AP := box (Apart.ofBelow (g := h) (r := none) kA)
  obtain ⟨q, _, _, _⟩ := X.out
  subst hk
  clear hc ok kA x
  go_enter Try.func22, Try.ntmps22
  go_wp2_with (first | (go_at_call 42; refine CL.out.mono ?_; rintro e w1 ⟨rfl, x1, t1⟩) | go_in)
  go_ret
  exact ⟨rfl, X.out.touch t1 x1, AP.out.trans t1.apart⟩
set_option maxHeartbeats 1000000 in
theorem raise_bad (s : Int) (kI : Int) (g h : Nat) (l : List Tc) (hk : kI < 0 ∨ (l.length : Int) ≤ kI) (w : World) (x : TkAt w g h l) :
    Calls Try.prog 22 #[.pointer (some ⟨g, 0, none⟩), .int .i64 kI, .int .i64 s] w fun e w' => e = .returned (.int .i64 2) ∧ Below w.heap.size w w' := by
  have kA : Below w.heap.size w (w.alloc (.cells #[.int .i64 s] 3)) := (Below.refl _ _).alloc (Nat.le_refl _) _
  obtain ⟨q, _, _, _⟩ := x.keep kA
  have KA := box kA
  clear kA x
  by_cases h1 : kI < 0
  · clear hk
    go_enter Try.func22, Try.ntmps22
    go_wp2_with go_in
    go_ret
    exact ⟨rfl, KA.out⟩
  · have h2 : (l.length : Int) ≤ kI := by omega
    clear hk
    go_enter Try.func22, Try.ntmps22
    go_wp2_with go_in
    go_ret
    exact ⟨rfl, KA.out⟩
set_option maxHeartbeats 1000000 in
theorem raise_nil (s : Int) (kI : Int) (w : World) :
    Calls Try.prog 22 #[.pointer none, .int .i64 kI, .int .i64 s] w fun e w' => e = .returned (.int .i64 1) ∧ Below w.heap.size w w' := by
  have kA : Below w.heap.size w (w.alloc (.cells #[.int .i64 s] 3)) := (Below.refl _ _).alloc (Nat.le_refl _) _
  go_enter Try.func22, Try.ntmps22
  go_wp2_with go_in
  go_ret
  exact ⟨rfl, kA⟩
end Go.Proofs.Ytoolphpideicoaa
