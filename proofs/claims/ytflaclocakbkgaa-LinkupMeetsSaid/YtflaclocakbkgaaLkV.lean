/- One side of the call's own; awake. -/
import Derived.Test.YtflaclocakbkgaaLkU
namespace Go.Proofs.Ytflaclocakbkgaa
open Go.RowKit

/-- One side of the call's own. -/
structure S1 (B : Nat) (w0 w : World) (g : Nat) (s : Sv) : Prop where
  x : SdAt w g s
  bel : Below B w0 w
  sz : B ≤ w.heap.size
  bg : B ≤ g
theorem S1.keep {B : Nat} {w0 w w' : World} {g : Nat} {s : Sv} (x : S1 B w0 w g s) (b : Below w.heap.size w w') : S1 B w0 w' g s := ⟨x.x.keep b, x.bel.trans (b.mono x.sz), Nat.le_trans x.sz b.size, x.bg⟩
theorem S1.step {B : Nat} {w0 w w' : World} {g : Nat} {s s' : Sv} (x : S1 B w0 w g s) (x' : SdAt w' g s') (a : Apart g none w w') : S1 B w0 w' g s' := ⟨x', a.below x.bel x.sz x.bg (fun k hk => by cases hk), Nat.le_trans x.sz a.size, x.bg⟩
theorem S1.drew {B : Nat} {w0 w : World} {g : Nat} {s : Sv} (x : S1 B w0 w g s) : S1 B w0 w.drew g s := ⟨x.x.drew, ⟨x.bel.os, x.bel.tape, x.bel.output, x.bel.size, x.bel.block⟩, x.sz, x.bg⟩
theorem S1.drewN {B : Nat} {w0 w : World} {g : Nat} {s : Sv} (x : S1 B w0 w g s) (n : Nat) : S1 B w0 (w.drewN n) g s := ⟨x.x.same rfl, ⟨x.bel.os, x.bel.tape, x.bel.output, x.bel.size, x.bel.block⟩, x.sz, x.bg⟩
theorem S1.new {B : Nat} {w0 w w' : World} {g : Nat} {s : Sv} (k : Below B w0 w) (hB : B ≤ w.heap.size) (x : SdAt w' w.heap.size s) (b : Below w.heap.size w w') (hg : w.heap.size = g) : S1 B w0 w' g s := by
  subst hg
  exact ⟨x, k.trans (b.mono hB), Nat.le_trans hB b.size, hB⟩
section
variable {B : Nat} {w0 w : World} {g : Nat} {s : Sv}
theorem new_s (i d : Nat) (iI dI : Int) (hi : iI = i) (hd : dI = d) (h : 1 ≤ i ∧ i < MAXN ∧ 1 ≤ d ∧ d ≤ 1000) (k : Below B w0 w) (hB : B ≤ w.heap.size) (hg : w.heap.size = g) :
    Calls Try.prog 12 #[.int .i64 iI, .int .i64 dI] w fun e w' => e = .returned (.tuple #[.pointer (some ⟨g, 0, none⟩), .int .i64 0]) ∧ S1 B w0 w' g ⟨i, d, 0, 0, 0, 0, 0⟩ ∧ Below w.heap.size w w' := by
  subst hg
  exact (new_any i d iI dI hi hd h w).mono fun e w' h => ⟨h.1, S1.new k hB h.2.1 h.2.2 rfl, h.2.2⟩
theorem tick_s (x : S1 B w0 w g s) (hs : s.silent ≤ 1000) (hc : s.changes ≤ 1000000) : Calls Try.prog 17 #[.pointer (some ⟨g, 0, none⟩)] w fun e w' => e = .returned (.agg #[.int .i64 (s.mine : Int), .int .i64 (s.tickS.peer : Int)]) ∧ S1 B w0 w' g s.tickS ∧ Apart g none w w' :=
  (tick_any g s hs hc w x.x).mono fun _ _ h => ⟨h.1, x.step h.2.1 h.2.2, h.2.2⟩
theorem recv_s (x : S1 B w0 w g s) (hc : s.changes ≤ 1000000) (m y : Int) : Calls Try.prog 15 #[.pointer (some ⟨g, 0, none⟩), .agg #[.int .i64 m, .int .i64 y]] w fun e w' => e = .returned (.bool (s.recvB m y)) ∧ S1 B w0 w' g (s.recvS m y) ∧ Apart g none w w' :=
  (receive_any g s m y hc w x.x).mono fun _ _ h => ⟨h.1, x.step h.2.1 h.2.2, h.2.2⟩
theorem state_s (x : S1 B w0 w g s) : Calls Try.prog 18 #[.pointer (some ⟨g, 0, none⟩)] w fun e w' => e = .returned (.int .i64 (s.state : Int)) ∧ w = w' := state_any g s w x.x
theorem peer_s (x : S1 B w0 w g s) : Calls Try.prog 19 #[.pointer (some ⟨g, 0, none⟩)] w fun e w' => e = .returned (.int .i64 (s.peer : Int)) ∧ w = w' := peer_any g s w x.x
theorem changes_s (x : S1 B w0 w g s) : Calls Try.prog 20 #[.pointer (some ⟨g, 0, none⟩)] w fun e w' => e = .returned (.int .i64 (s.changes : Int)) ∧ w = w' := changes_any g s w x.x
theorem tick_l (x : S1 B w0 w g s) (hs : s.silent ≤ 1000) (hc : s.changes ≤ 1000000) (s' : Sv) (mi pi : Int) (h : s.tickS = s') (h1 : (s.mine : Int) = mi) (h2 : (s'.peer : Int) = pi) : Calls Try.prog 17 #[.pointer (some ⟨g, 0, none⟩)] w fun e w' => e = .returned (.agg #[.int .i64 mi, .int .i64 pi]) ∧ S1 B w0 w' g s' ∧ Apart g none w w' := by
  subst h h1 h2; exact tick_s x hs hc
theorem recv_l (x : S1 B w0 w g s) (hc : s.changes ≤ 1000000) (m y : Int) (s' : Sv) (b : Bool) (h : s.recvS m y = s') (hb : s.recvB m y = b) : Calls Try.prog 15 #[.pointer (some ⟨g, 0, none⟩), .agg #[.int .i64 m, .int .i64 y]] w fun e w' => e = .returned (.bool b) ∧ S1 B w0 w' g s' ∧ Apart g none w w' := by
  subst h hb; exact recv_s x hc m y
theorem state_l (x : S1 B w0 w g s) (n : Int) (h : (s.state : Int) = n) : Calls Try.prog 18 #[.pointer (some ⟨g, 0, none⟩)] w fun e w' => e = .returned (.int .i64 n) ∧ w = w' := by
  subst h; exact state_s x
theorem peer_l (x : S1 B w0 w g s) (n : Int) (h : (s.peer : Int) = n) : Calls Try.prog 19 #[.pointer (some ⟨g, 0, none⟩)] w fun e w' => e = .returned (.int .i64 n) ∧ w = w' := by
  subst h; exact peer_s x
theorem accepts_l (x : S1 B w0 w g s) (i : Int) (b : Bool) (h : decide (0 < s.peer ∧ (s.peer : Int) = i) = b) : Calls Try.prog 21 #[.pointer (some ⟨g, 0, none⟩), .int .i64 i] w fun e w' => e = .returned (.bool b) ∧ w = w' := by
  subst h; exact accepts_any g s w x.x i
end
set_option maxRecDepth 10000 in
set_option maxHeartbeats 4000000 in
theorem awake_any (w : World) : Calls Try.prog 11 #[] w fun e w' => e = .returned (.bool true) ∧ Below w.heap.size w w' := by
  obtain ⟨g, hg⟩ : ∃ g, w.heap.size = g := ⟨_, rfl⟩
  have NW := box (new_s 5 10 5 10 rfl rfl (by decide) (Below.refl w.heap.size w) (Nat.le_refl _) hg)
  clear hg
  have ES := eq_gr
  go_enter Try.func11, Try.ntmps11
  go_wp2_with fail
  refine NW.out.mono ?_
  rintro e w1 ⟨rfl, x, -⟩
  have X := box x
  clear x NW
  have CC := box (tick_l X.out (by decide) (by decide) ⟨5, 10, 0, 0, 0, 0, 0⟩ 5 0 rfl rfl rfl)
  go_wp2_with fail
  refine CC.out.mono ?_
  rintro e w2 ⟨rfl, x, -⟩
  replace X := box x
  clear x CC
  have CC := box (recv_l X.out (by decide) 7 0 ⟨5, 10, 7, 7, 1, 0, 1⟩ true rfl rfl)
  go_wp2_with fail
  refine CC.out.mono ?_
  rintro e w3 ⟨rfl, x, -⟩
  replace X := box x
  clear x CC
  have CC := box (tick_l X.out (by decide) (by decide) ⟨5, 10, 7, 7, 1, 1, 1⟩ 5 7 rfl rfl rfl)
  go_wp2_with fail
  refine CC.out.mono ?_
  rintro e w4 ⟨rfl, x, -⟩
  replace X := box x
  clear x CC
  have CC := box (recv_l X.out (by decide) 7 5 ⟨5, 10, 7, 7, 2, 0, 2⟩ true rfl rfl)
  go_wp2_with fail
  refine CC.out.mono ?_
  rintro e w5 ⟨rfl, x, -⟩
  replace X := box x
  clear x CC
  have CC := box (state_l X.out 2 rfl)
  go_wp2_with fail
  refine CC.out.mono ?_
  rintro e w6 ⟨rfl, rfl⟩
  clear CC
  have CC := box (recv_l X.out (by decide) 6 5 ⟨5, 10, 7, 7, 2, 0, 2⟩ false rfl rfl)
  go_wp2_with fail
  refine CC.out.mono ?_
  rintro e w7 ⟨rfl, x, -⟩
  replace X := box x
  clear x CC
  go_wp2_with fail
  go_ret
  exact ⟨rfl, X.out.bel⟩
end Go.Proofs.Ytflaclocakbkgaa
