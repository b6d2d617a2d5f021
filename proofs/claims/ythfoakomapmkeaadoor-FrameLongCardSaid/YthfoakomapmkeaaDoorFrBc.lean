/- The scanner's Push: its contract. -/
import Derived.Test.YthfoakomapmkeaaDoorFrBb
namespace Go.Proofs.YthfoakomapmkeaaDoor
open Go.RowKit

/-- A scanner's state behind a symbol. -/
def stepS (s : Sc) (x : Nat) : Sc :=
  if x = 49 then ⟨true, [], if s.ins then s.bad + 1 else s.bad⟩
  else if s.ins = false then s
  else if x = 50 then ⟨false, [], if goodS s.syms then s.bad else s.bad + 1⟩
  else if idx x < 16 then (if s.syms.length < 162 then ⟨true, s.syms ++ [x], s.bad⟩ else ⟨false, [], s.bad + 1⟩)
  else ⟨false, [], s.bad + 1⟩
/-- The packet that is found with a symbol. -/
def foundS (s : Sc) (x : Nat) : Option Pkt := if x = 50 ∧ s.ins = true ∧ goodS s.syms = true then some (pktB (bytesS s.syms)) else none
/-- What holds of every state. -/
structure Sc.Ok (s : Sc) : Prop where
  data : ∀ y ∈ s.syms, idx y < 16 ∧ y < 256
  room : s.syms.length ≤ 162
  out : s.ins = false → s.syms = []
theorem Sc.Ok.step {s : Sc} (h : s.Ok) {x : Nat} (hx : x < 256) : (stepS s x).Ok := by
  have h0 : ∀ (i : Bool) (b : Nat), (⟨i, [], b⟩ : Sc).Ok := fun i b => ⟨fun y hy => (by cases hy), (by show 0 ≤ 162; omega), fun _ => rfl⟩
  unfold stepS
  split
  · exact h0 _ _
  split
  · exact h
  split
  · exact h0 _ _
  split
  · split
    · refine ⟨fun y hy => ?_, (by show (s.syms ++ [x]).length ≤ 162; simp; omega), fun h => (by cases h)⟩
      rcases List.mem_append.1 hy with hy | hy
      · exact h.data y hy
      · simp at hy; subst hy; exact ⟨by assumption, hx⟩
    · exact h0 _ _
  · exact h0 _ _
theorem step_bad (s : Sc) (x : Nat) : (stepS s x).bad ≤ s.bad + 1 := by
  unfold stepS
  repeat' split
  all_goals simp
def PushRes (found : Option Pkt) (n : Nat) (e : Ending) (w' : World) : Prop :=
  match found with
  | none => e = .returned (.tuple #[pk0, .bool false])
  | some p => ∃ (a : Option Addr) (l c : Nat), e = .returned (.tuple #[pkV p.k p.c p.n p.v a l c, .bool true]) ∧ p.pay.length = l ∧ In w' a p.pay ∧ (a = none → c = 0) ∧ (∀ q, a = some q → n ≤ q.block)
def PushPost (g h : Nat) (s : Sc) (x : Nat) (w : World) (e : Ending) (w' : World) : Prop := Apart g h w w' ∧ ScAt w' g h (stepS s x) ∧ PushRes (foundS s x) w.heap.size e w'

theorem idx_49 : ∀ x < 256, idx x = 16 → x = 49 := by decide +kernel
theorem idx_50 : ∀ x < 256, idx x = 17 → x = 50 := by decide +kernel
theorem idx49 : idx 49 = 16 := by decide
theorem idx50 : idx 50 = 17 := by decide

set_option maxRecDepth 100000 in
set_option maxHeartbeats 8000000 in
theorem push_start (g h : Nat) (s : Sc) (hb : s.bad < 1000000) (hout : s.ins = false → s.syms = []) (hx256 : 49 < 256) (hv : valueV (idx 49) = .tuple #[.int .i64 0, .bool true, .int .i64 0]) (s2 : Sc) (hs2 : ⟨true, [], if s.ins then s.bad + 1 else s.bad⟩ = s2) (w : World) (x : ScAt w g h s) (hT2 : HasTab w) :
    Calls Tryd.prog 26 #[.pointer (some ⟨g, 0, none⟩), nU8 49] w fun e w' => Apart g h w w' ∧ ScAt w' g h s2 ∧ e = .returned (.tuple #[pk0, .bool false]) := by
  have X := box x
  have HS2 := box hs2
  clear hs2
  have LG := x.lt
  have LH := x.lth
  have kA := (Below.refl w.heap.size w).alloc (Nat.le_refl _) (.cells #[.int .u8 0, .int .i64 0, .int .i64 0, .int .i64 0, .slice none 0 0] 24)
  have XB : Box (ScAt (w.alloc (.cells #[.int .u8 0, .int .i64 0, .int .i64 0, .int .i64 0, .slice none 0 0] 24)) g h s) := box (X.out.keep kA)
  have R : Box (Pk5 (w.alloc (.cells #[.int .u8 0, .int .i64 0, .int .i64 0, .int .i64 0, .slice none 0 0] 24)) w.heap.size (nU8 0) (.int .i64 0) (.int .i64 0) (.int .i64 0) (.slice none 0 0)) := box (pk5_new w 0 0 0 0 none 0 0 w.heap.size rfl)
  have KA := box kA
  have VV := value_any 49 hx256 (w.alloc (.cells #[.int .u8 0, .int .i64 0, .int .i64 0, .int .i64 0, .slice none 0 0] 24)) (hT2.below kA)
  rw [hv] at VV
  have VB := box VV
  have rg : w.heap.size ≠ g := Nat.ne_of_gt LG
  have rh : w.heap.size ≠ h := Nat.ne_of_gt LH
  have i1 := XB.out.c0
  clear hT2 x kA VV hv
  go_enter Tryd.func26, Tryd.ntmps26
  go_wp2_with fail
  refine VB.out.mono ?_
  rintro e w2 ⟨rfl, hw2⟩
  change w.alloc (.cells #[.int .u8 0, .int .i64 0, .int .i64 0, .int .i64 0, .slice none 0 0] 24) = w2 at hw2
  rw [hw2] at XB R KA i1
  clear hw2 VB
  go_wp2_with fail
  refine (begin_any g h s hb hout w2 XB.out).mono ?_
  rintro e w4 ⟨rfl, x4, ap⟩
  rw [HS2.out] at x4
  obtain ⟨r0, r1, r2, r3, r4, rz⟩ := R.out.apart ap rg rh
  have R5 := box (R.out.apart ap rg rh)
  have KK := box ((Apart.ofBelow (g := g) (h := h) KA.out).trans ap)
  clear i1
  go_wp2_with fail
  have Y := pk5_put R5.out (nU8 0) (.int .i64 0) (.int .i64 0) (.int .i64 0) (.slice none 0 0)
  have A5 := (KK.out).put5 (Nat.le_refl _) (nU8 0) (.int .i64 0) (.int .i64 0) (.int .i64 0) (.slice none 0 0)
  have X5 := x4.far rg rh (nU8 0) (.int .i64 0) (.int .i64 0) (.int .i64 0) (.slice none 0 0)
  change bodyPost _ _ _ _ _ (put5 w4 w.heap.size (nU8 0) (.int .i64 0) (.int .i64 0) (.int .i64 0) (.slice none 0 0))
  generalize put5 w4 w.heap.size (nU8 0) (.int .i64 0) (.int .i64 0) (.int .i64 0) (.slice none 0 0) = w5 at Y A5 X5 ⊢
  clear r0 r1 r2 r3 r4 rz
  obtain ⟨z0, z1, z2, z3, z4, _⟩ := Y
  exact bodyPost_ret (v := .tuple #[pk0, .bool false]) (by simp [results, Tryd.results26, go_sem, z0, z1, z2, z3, z4]) rfl ⟨A5, X5, rfl⟩

set_option maxRecDepth 100000 in
set_option maxHeartbeats 8000000 in
theorem push_out1 (g h : Nat) (xs : List Nat) (b y : Nat) (vv ee : Int) (hx256 : y < 256) (hv : valueV (idx y) = .tuple #[.int .i64 vv, .bool false, .int .i64 ee]) (s2 : Sc) (hs2 : ⟨false, xs, b⟩ = s2) (w : World) (x : ScAt w g h ⟨false, xs, b⟩) (hT2 : HasTab w) :
    Calls Tryd.prog 26 #[.pointer (some ⟨g, 0, none⟩), nU8 y] w fun e w' => Apart g h w w' ∧ ScAt w' g h s2 ∧ e = .returned (.tuple #[pk0, .bool false]) := by
  have X := box x
  have HS2 := box hs2
  clear hs2
  have LG := x.lt
  have LH := x.lth
  have kA := (Below.refl w.heap.size w).alloc (Nat.le_refl _) (.cells #[.int .u8 0, .int .i64 0, .int .i64 0, .int .i64 0, .slice none 0 0] 24)
  have XB : Box (ScAt (w.alloc (.cells #[.int .u8 0, .int .i64 0, .int .i64 0, .int .i64 0, .slice none 0 0] 24)) g h ⟨false, xs, b⟩) := box (X.out.keep kA)
  have R : Box (Pk5 (w.alloc (.cells #[.int .u8 0, .int .i64 0, .int .i64 0, .int .i64 0, .slice none 0 0] 24)) w.heap.size (nU8 0) (.int .i64 0) (.int .i64 0) (.int .i64 0) (.slice none 0 0)) := box (pk5_new w 0 0 0 0 none 0 0 w.heap.size rfl)
  have KA := box kA
  have VV := value_any y hx256 (w.alloc (.cells #[.int .u8 0, .int .i64 0, .int .i64 0, .int .i64 0, .slice none 0 0] 24)) (hT2.below kA)
  rw [hv] at VV
  have VB := box VV
  have rg : w.heap.size ≠ g := Nat.ne_of_gt LG
  have rh : w.heap.size ≠ h := Nat.ne_of_gt LH
  have i1 := XB.out.c0
  clear hT2 x kA VV hv
  go_enter Tryd.func26, Tryd.ntmps26
  go_wp2_with fail
  refine VB.out.mono ?_
  rintro e w2 ⟨rfl, hw2⟩
  change w.alloc (.cells #[.int .u8 0, .int .i64 0, .int .i64 0, .int .i64 0, .slice none 0 0] 24) = w2 at hw2
  rw [hw2] at XB R KA i1
  clear hw2 VB
  obtain ⟨r0, r1, r2, r3, r4, rz⟩ := R.out
  have R5 := R
  have KK := box (Apart.ofBelow (g := g) (h := h) KA.out)
  have x4 := XB.out
  go_wp2_with fail
  obtain ⟨w4, hw4⟩ : ∃ w4, w4 = w2 := ⟨_, rfl⟩
  subst hw4
  rw [HS2.out] at x4
  have Y := pk5_put R5.out (nU8 0) (.int .i64 0) (.int .i64 0) (.int .i64 0) (.slice none 0 0)
  have A5 := (KK.out).put5 (Nat.le_refl _) (nU8 0) (.int .i64 0) (.int .i64 0) (.int .i64 0) (.slice none 0 0)
  have X5 := x4.far rg rh (nU8 0) (.int .i64 0) (.int .i64 0) (.int .i64 0) (.slice none 0 0)
  change bodyPost _ _ _ _ _ (put5 w4 w.heap.size (nU8 0) (.int .i64 0) (.int .i64 0) (.int .i64 0) (.slice none 0 0))
  generalize put5 w4 w.heap.size (nU8 0) (.int .i64 0) (.int .i64 0) (.int .i64 0) (.slice none 0 0) = w5 at Y A5 X5 ⊢
  clear r0 r1 r2 r3 r4 rz
  obtain ⟨z0, z1, z2, z3, z4, _⟩ := Y
  exact bodyPost_ret (v := .tuple #[pk0, .bool false]) (by simp [results, Tryd.results26, go_sem, z0, z1, z2, z3, z4]) rfl ⟨A5, X5, rfl⟩

set_option maxRecDepth 100000 in
set_option maxHeartbeats 8000000 in
theorem push_out2 (g h : Nat) (xs : List Nat) (b y : Nat) (vv ee : Int) (hx256 : y < 256) (hv : valueV (idx y) = .tuple #[.int .i64 vv, .bool true, .int .i64 ee]) (h0 : (vv == 0) = false) (s2 : Sc) (hs2 : ⟨false, xs, b⟩ = s2) (w : World) (x : ScAt w g h ⟨false, xs, b⟩) (hT2 : HasTab w) :
    Calls Tryd.prog 26 #[.pointer (some ⟨g, 0, none⟩), nU8 y] w fun e w' => Apart g h w w' ∧ ScAt w' g h s2 ∧ e = .returned (.tuple #[pk0, .bool false]) := by
  have X := box x
  have HS2 := box hs2
  clear hs2
  have LG := x.lt
  have LH := x.lth
  have kA := (Below.refl w.heap.size w).alloc (Nat.le_refl _) (.cells #[.int .u8 0, .int .i64 0, .int .i64 0, .int .i64 0, .slice none 0 0] 24)
  have XB : Box (ScAt (w.alloc (.cells #[.int .u8 0, .int .i64 0, .int .i64 0, .int .i64 0, .slice none 0 0] 24)) g h ⟨false, xs, b⟩) := box (X.out.keep kA)
  have R : Box (Pk5 (w.alloc (.cells #[.int .u8 0, .int .i64 0, .int .i64 0, .int .i64 0, .slice none 0 0] 24)) w.heap.size (nU8 0) (.int .i64 0) (.int .i64 0) (.int .i64 0) (.slice none 0 0)) := box (pk5_new w 0 0 0 0 none 0 0 w.heap.size rfl)
  have KA := box kA
  have VV := value_any y hx256 (w.alloc (.cells #[.int .u8 0, .int .i64 0, .int .i64 0, .int .i64 0, .slice none 0 0] 24)) (hT2.below kA)
  rw [hv] at VV
  have VB := box VV
  have rg : w.heap.size ≠ g := Nat.ne_of_gt LG
  have rh : w.heap.size ≠ h := Nat.ne_of_gt LH
  have i1 := XB.out.c0
  clear hT2 x kA VV hv
  go_enter Tryd.func26, Tryd.ntmps26
  go_wp2_with fail
  refine VB.out.mono ?_
  rintro e w2 ⟨rfl, hw2⟩
  change w.alloc (.cells #[.int .u8 0, .int .i64 0, .int .i64 0, .int .i64 0, .slice none 0 0] 24) = w2 at hw2
  rw [hw2] at XB R KA i1
  clear hw2 VB
  obtain ⟨r0, r1, r2, r3, r4, rz⟩ := R.out
  have R5 := R
  have KK := box (Apart.ofBelow (g := g) (h := h) KA.out)
  have x4 := XB.out
  go_wp2_with fail
  obtain ⟨w4, hw4⟩ : ∃ w4, w4 = w2 := ⟨_, rfl⟩
  subst hw4
  rw [HS2.out] at x4
  have Y := pk5_put R5.out (nU8 0) (.int .i64 0) (.int .i64 0) (.int .i64 0) (.slice none 0 0)
  have A5 := (KK.out).put5 (Nat.le_refl _) (nU8 0) (.int .i64 0) (.int .i64 0) (.int .i64 0) (.slice none 0 0)
  have X5 := x4.far rg rh (nU8 0) (.int .i64 0) (.int .i64 0) (.int .i64 0) (.slice none 0 0)
  change bodyPost _ _ _ _ _ (put5 w4 w.heap.size (nU8 0) (.int .i64 0) (.int .i64 0) (.int .i64 0) (.slice none 0 0))
  generalize put5 w4 w.heap.size (nU8 0) (.int .i64 0) (.int .i64 0) (.int .i64 0) (.slice none 0 0) = w5 at Y A5 X5 ⊢
  clear r0 r1 r2 r3 r4 rz
  obtain ⟨z0, z1, z2, z3, z4, _⟩ := Y
  exact bodyPost_ret (v := .tuple #[pk0, .bool false]) (by simp [results, Tryd.results26, go_sem, z0, z1, z2, z3, z4]) rfl ⟨A5, X5, rfl⟩

set_option maxRecDepth 100000 in
set_option maxHeartbeats 8000000 in
theorem push_data (g h : Nat) (xs : List Nat) (b y : Nat) (hb : b < 1000000) (hl : xs.length ≤ 162) (vv : Int) (hx256 : y < 256) (hv : valueV (idx y) = .tuple #[.int .i64 vv, .bool false, .int .i64 0]) (s2 : Sc) (hs2 : (if xs.length < 162 then ⟨true, xs ++ [y], b⟩ else ⟨false, [], b + 1⟩) = s2) (w : World) (x : ScAt w g h ⟨true, xs, b⟩) (hT2 : HasTab w) :
    Calls Tryd.prog 26 #[.pointer (some ⟨g, 0, none⟩), nU8 y] w fun e w' => Apart g h w w' ∧ ScAt w' g h s2 ∧ e = .returned (.tuple #[pk0, .bool false]) := by
  have X := box x
  have HS2 := box hs2
  clear hs2
  have LG := x.lt
  have LH := x.lth
  have kA := (Below.refl w.heap.size w).alloc (Nat.le_refl _) (.cells #[.int .u8 0, .int .i64 0, .int .i64 0, .int .i64 0, .slice none 0 0] 24)
  have XB : Box (ScAt (w.alloc (.cells #[.int .u8 0, .int .i64 0, .int .i64 0, .int .i64 0, .slice none 0 0] 24)) g h ⟨true, xs, b⟩) := box (X.out.keep kA)
  have R : Box (Pk5 (w.alloc (.cells #[.int .u8 0, .int .i64 0, .int .i64 0, .int .i64 0, .slice none 0 0] 24)) w.heap.size (nU8 0) (.int .i64 0) (.int .i64 0) (.int .i64 0) (.slice none 0 0)) := box (pk5_new w 0 0 0 0 none 0 0 w.heap.size rfl)
  have KA := box kA
  have VV := value_any y hx256 (w.alloc (.cells #[.int .u8 0, .int .i64 0, .int .i64 0, .int .i64 0, .slice none 0 0] 24)) (hT2.below kA)
  rw [hv] at VV
  have VB := box VV
  have rg : w.heap.size ≠ g := Nat.ne_of_gt LG
  have rh : w.heap.size ≠ h := Nat.ne_of_gt LH
  have i1 := XB.out.c0
  clear hT2 x kA VV hv
  go_enter Tryd.func26, Tryd.ntmps26
  go_wp2_with fail
  refine VB.out.mono ?_
  rintro e w2 ⟨rfl, hw2⟩
  change w.alloc (.cells #[.int .u8 0, .int .i64 0, .int .i64 0, .int .i64 0, .slice none 0 0] 24) = w2 at hw2
  rw [hw2] at XB R KA i1
  clear hw2 VB
  go_wp2_with fail
  refine (add_any g h xs b y hb hl w2 XB.out).mono ?_
  rintro e w4 ⟨rfl, x4, ap⟩
  rw [HS2.out] at x4
  obtain ⟨r0, r1, r2, r3, r4, rz⟩ := R.out.apart ap rg rh
  have R5 := box (R.out.apart ap rg rh)
  have KK := box ((Apart.ofBelow (g := g) (h := h) KA.out).trans ap)
  clear i1
  go_wp2_with fail
  have Y := pk5_put R5.out (nU8 0) (.int .i64 0) (.int .i64 0) (.int .i64 0) (.slice none 0 0)
  have A5 := (KK.out).put5 (Nat.le_refl _) (nU8 0) (.int .i64 0) (.int .i64 0) (.int .i64 0) (.slice none 0 0)
  have X5 := x4.far rg rh (nU8 0) (.int .i64 0) (.int .i64 0) (.int .i64 0) (.slice none 0 0)
  change bodyPost _ _ _ _ _ (put5 w4 w.heap.size (nU8 0) (.int .i64 0) (.int .i64 0) (.int .i64 0) (.slice none 0 0))
  generalize put5 w4 w.heap.size (nU8 0) (.int .i64 0) (.int .i64 0) (.int .i64 0) (.slice none 0 0) = w5 at Y A5 X5 ⊢
  clear r0 r1 r2 r3 r4 rz
  obtain ⟨z0, z1, z2, z3, z4, _⟩ := Y
  exact bodyPost_ret (v := .tuple #[pk0, .bool false]) (by simp [results, Tryd.results26, go_sem, z0, z1, z2, z3, z4]) rfl ⟨A5, X5, rfl⟩

set_option maxRecDepth 100000 in
set_option maxHeartbeats 8000000 in
theorem push_ctl (g h : Nat) (xs : List Nat) (b y : Nat) (hb : b < 1000000) (vv : Int) (hx256 : y < 256) (hv : valueV (idx y) = .tuple #[.int .i64 vv, .bool true, .int .i64 0]) (h0 : (vv == 0) = false) (h1 : (vv == 1) = false) (s2 : Sc) (hs2 : ⟨false, [], b + 1⟩ = s2) (w : World) (x : ScAt w g h ⟨true, xs, b⟩) (hT2 : HasTab w) :
    Calls Tryd.prog 26 #[.pointer (some ⟨g, 0, none⟩), nU8 y] w fun e w' => Apart g h w w' ∧ ScAt w' g h s2 ∧ e = .returned (.tuple #[pk0, .bool false]) := by
  have X := box x
  have HS2 := box hs2
  clear hs2
  have LG := x.lt
  have LH := x.lth
  have kA := (Below.refl w.heap.size w).alloc (Nat.le_refl _) (.cells #[.int .u8 0, .int .i64 0, .int .i64 0, .int .i64 0, .slice none 0 0] 24)
  have XB : Box (ScAt (w.alloc (.cells #[.int .u8 0, .int .i64 0, .int .i64 0, .int .i64 0, .slice none 0 0] 24)) g h ⟨true, xs, b⟩) := box (X.out.keep kA)
  have R : Box (Pk5 (w.alloc (.cells #[.int .u8 0, .int .i64 0, .int .i64 0, .int .i64 0, .slice none 0 0] 24)) w.heap.size (nU8 0) (.int .i64 0) (.int .i64 0) (.int .i64 0) (.slice none 0 0)) := box (pk5_new w 0 0 0 0 none 0 0 w.heap.size rfl)
  have KA := box kA
  have VV := value_any y hx256 (w.alloc (.cells #[.int .u8 0, .int .i64 0, .int .i64 0, .int .i64 0, .slice none 0 0] 24)) (hT2.below kA)
  rw [hv] at VV
  have VB := box VV
  have rg : w.heap.size ≠ g := Nat.ne_of_gt LG
  have rh : w.heap.size ≠ h := Nat.ne_of_gt LH
  have i1 := XB.out.c0
  clear hT2 x kA VV hv
  go_enter Tryd.func26, Tryd.ntmps26
  go_wp2_with fail
  refine VB.out.mono ?_
  rintro e w2 ⟨rfl, hw2⟩
  change w.alloc (.cells #[.int .u8 0, .int .i64 0, .int .i64 0, .int .i64 0, .slice none 0 0] 24) = w2 at hw2
  rw [hw2] at XB R KA i1
  clear hw2 VB
  go_wp2_with fail
  refine (discard_any g h ⟨true, xs, b⟩ hb w2 XB.out).mono ?_
  rintro e w4 ⟨rfl, x4, ap⟩
  rw [HS2.out] at x4
  obtain ⟨r0, r1, r2, r3, r4, rz⟩ := R.out.apart ap rg rh
  have R5 := box (R.out.apart ap rg rh)
  have KK := box ((Apart.ofBelow (g := g) (h := h) KA.out).trans ap)
  clear i1
  go_wp2_with fail
  have Y := pk5_put R5.out (nU8 0) (.int .i64 0) (.int .i64 0) (.int .i64 0) (.slice none 0 0)
  have A5 := (KK.out).put5 (Nat.le_refl _) (nU8 0) (.int .i64 0) (.int .i64 0) (.int .i64 0) (.slice none 0 0)
  have X5 := x4.far rg rh (nU8 0) (.int .i64 0) (.int .i64 0) (.int .i64 0) (.slice none 0 0)
  change bodyPost _ _ _ _ _ (put5 w4 w.heap.size (nU8 0) (.int .i64 0) (.int .i64 0) (.int .i64 0) (.slice none 0 0))
  generalize put5 w4 w.heap.size (nU8 0) (.int .i64 0) (.int .i64 0) (.int .i64 0) (.slice none 0 0) = w5 at Y A5 X5 ⊢
  clear r0 r1 r2 r3 r4 rz
  obtain ⟨z0, z1, z2, z3, z4, _⟩ := Y
  exact bodyPost_ret (v := .tuple #[pk0, .bool false]) (by simp [results, Tryd.results26, go_sem, z0, z1, z2, z3, z4]) rfl ⟨A5, X5, rfl⟩

set_option maxRecDepth 100000 in
set_option maxHeartbeats 8000000 in
theorem push_no (g h : Nat) (xs : List Nat) (b y : Nat) (hb : b < 1000000) (vv : Int) (hx256 : y < 256) (hv : valueV (idx y) = .tuple #[.int .i64 vv, .bool false, .int .i64 3]) (s2 : Sc) (hs2 : ⟨false, [], b + 1⟩ = s2) (w : World) (x : ScAt w g h ⟨true, xs, b⟩) (hT2 : HasTab w) :
    Calls Tryd.prog 26 #[.pointer (some ⟨g, 0, none⟩), nU8 y] w fun e w' => Apart g h w w' ∧ ScAt w' g h s2 ∧ e = .returned (.tuple #[pk0, .bool false]) := by
  have X := box x
  have HS2 := box hs2
  clear hs2
  have LG := x.lt
  have LH := x.lth
  have kA := (Below.refl w.heap.size w).alloc (Nat.le_refl _) (.cells #[.int .u8 0, .int .i64 0, .int .i64 0, .int .i64 0, .slice none 0 0] 24)
  have XB : Box (ScAt (w.alloc (.cells #[.int .u8 0, .int .i64 0, .int .i64 0, .int .i64 0, .slice none 0 0] 24)) g h ⟨true, xs, b⟩) := box (X.out.keep kA)
  have R : Box (Pk5 (w.alloc (.cells #[.int .u8 0, .int .i64 0, .int .i64 0, .int .i64 0, .slice none 0 0] 24)) w.heap.size (nU8 0) (.int .i64 0) (.int .i64 0) (.int .i64 0) (.slice none 0 0)) := box (pk5_new w 0 0 0 0 none 0 0 w.heap.size rfl)
  have KA := box kA
  have VV := value_any y hx256 (w.alloc (.cells #[.int .u8 0, .int .i64 0, .int .i64 0, .int .i64 0, .slice none 0 0] 24)) (hT2.below kA)
  rw [hv] at VV
  have VB := box VV
  have rg : w.heap.size ≠ g := Nat.ne_of_gt LG
  have rh : w.heap.size ≠ h := Nat.ne_of_gt LH
  have i1 := XB.out.c0
  clear hT2 x kA VV hv
  go_enter Tryd.func26, Tryd.ntmps26
  go_wp2_with fail
  refine VB.out.mono ?_
  rintro e w2 ⟨rfl, hw2⟩
  change w.alloc (.cells #[.int .u8 0, .int .i64 0, .int .i64 0, .int .i64 0, .slice none 0 0] 24) = w2 at hw2
  rw [hw2] at XB R KA i1
  clear hw2 VB
  go_wp2_with fail
  refine (discard_any g h ⟨true, xs, b⟩ hb w2 XB.out).mono ?_
  rintro e w4 ⟨rfl, x4, ap⟩
  rw [HS2.out] at x4
  obtain ⟨r0, r1, r2, r3, r4, rz⟩ := R.out.apart ap rg rh
  have R5 := box (R.out.apart ap rg rh)
  have KK := box ((Apart.ofBelow (g := g) (h := h) KA.out).trans ap)
  clear i1
  go_wp2_with fail
  have Y := pk5_put R5.out (nU8 0) (.int .i64 0) (.int .i64 0) (.int .i64 0) (.slice none 0 0)
  have A5 := (KK.out).put5 (Nat.le_refl _) (nU8 0) (.int .i64 0) (.int .i64 0) (.int .i64 0) (.slice none 0 0)
  have X5 := x4.far rg rh (nU8 0) (.int .i64 0) (.int .i64 0) (.int .i64 0) (.slice none 0 0)
  change bodyPost _ _ _ _ _ (put5 w4 w.heap.size (nU8 0) (.int .i64 0) (.int .i64 0) (.int .i64 0) (.slice none 0 0))
  generalize put5 w4 w.heap.size (nU8 0) (.int .i64 0) (.int .i64 0) (.int .i64 0) (.slice none 0 0) = w5 at Y A5 X5 ⊢
  clear r0 r1 r2 r3 r4 rz
  obtain ⟨z0, z1, z2, z3, z4, _⟩ := Y
  exact bodyPost_ret (v := .tuple #[pk0, .bool false]) (by simp [results, Tryd.results26, go_sem, z0, z1, z2, z3, z4]) rfl ⟨A5, X5, rfl⟩

end Go.Proofs.YthfoakomapmkeaaDoor
