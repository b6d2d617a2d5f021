/- A side as a value; the reference's functions. -/
import Derived.Test.YtflaclocakbkgaaLkA
import Derived.Deep.DeepCutAuto
namespace Go.Proofs.Ytflaclocakbkgaa
open Go.RowKit

/-- A side. -/
structure Sv where
  mine : Nat
  dead : Nat
  peer : Nat
  seen : Nat
  state : Nat
  silent : Nat
  changes : Nat
abbrev MAXN : Nat := 1099511627776
structure Sv.Ok (s : Sv) : Prop where
  m1 : 1 ≤ s.mine
  m2 : s.mine < MAXN
  d1 : 1 ≤ s.dead
  d2 : s.dead ≤ 1000
  ps : s.peer ≤ s.seen
  se : s.seen < MAXN
  st : s.state ≤ 2
  si : s.silent ≤ 1000
def Sv.setS (s : Sv) (st pr : Nat) : Sv := ⟨s.mine, s.dead, pr, s.seen, st, 0, if s.state ≠ st ∨ s.peer ≠ pr then s.changes + 1 else s.changes⟩
def Sv.tickS (s : Sv) : Sv := if s.peer = 0 then s else if s.dead ≤ s.silent + 1 then s.setS 0 0 else ⟨s.mine, s.dead, s.peer, s.seen, s.state, s.silent + 1, s.changes⟩
def Sv.recvS (s : Sv) (m y : Int) : Sv := if m < 1 ∨ 1099511627775 < m ∨ m < (s.seen : Int) then s else Sv.setS ⟨s.mine, s.dead, s.peer, m.toNat, s.state, s.silent, s.changes⟩ (if y = (s.mine : Int) then 2 else 1) m.toNat
theorem Sv.Ok.set {s : Sv} (h : s.Ok) (st pr : Nat) (h1 : st ≤ 2) (h2 : pr ≤ s.seen) : (s.setS st pr).Ok := ⟨h.m1, h.m2, h.d1, h.d2, h2, h.se, h1, Nat.zero_le _⟩
theorem Sv.Ok.tick {s : Sv} (h : s.Ok) : s.tickS.Ok := by
  unfold Sv.tickS
  split
  · exact h
  · split
    · exact h.set 0 0 (by omega) (Nat.zero_le _)
    · have := h.d2
      exact ⟨h.m1, h.m2, h.d1, h.d2, h.ps, h.se, h.st, by show s.silent + 1 ≤ 1000; omega⟩
theorem Sv.Ok.recv {s : Sv} (h : s.Ok) (m y : Int) : (s.recvS m y).Ok := by
  unfold Sv.recvS
  split
  · exact h
  · next hn =>
    have h2 : m.toNat < MAXN := by unfold MAXN; omega
    have hs : s.seen ≤ m.toNat := by omega
    have h' : Sv.Ok ⟨s.mine, s.dead, s.peer, m.toNat, s.state, s.silent, s.changes⟩ := ⟨h.m1, h.m2, h.d1, h.d2, by have := h.ps; show s.peer ≤ m.toNat; omega, h2, h.st, h.si⟩
    exact h'.set _ _ (by split <;> omega) (Nat.le_refl _)
theorem set_changes (s : Sv) (st pr : Nat) : (s.setS st pr).changes ≤ s.changes + 1 := by
  show (if s.state ≠ st ∨ s.peer ≠ pr then s.changes + 1 else s.changes) ≤ s.changes + 1
  by_cases h : s.state ≠ st ∨ s.peer ≠ pr
  · rw [if_pos h]; exact Nat.le_refl _
  · rw [if_neg h]; exact Nat.le_succ _
theorem tick_changes (s : Sv) : s.tickS.changes ≤ s.changes + 1 := by
  unfold Sv.tickS
  split
  · omega
  · split
    · exact set_changes s 0 0
    · show s.changes ≤ s.changes + 1; omega
theorem recv_changes (s : Sv) (m y : Int) : (s.recvS m y).changes ≤ s.changes + 1 := by
  unfold Sv.recvS
  split
  · omega
  · exact set_changes _ _ _

theorem unfrozen (w : World) (cs : Array Value) (t : TypeId) (j : Nat) : (w.alloc (.cells cs t)).frozen? ⟨w.heap.size, j, none⟩ = false := by
  unfold World.frozen?
  have h : (w.alloc (.cells cs t)).heap[w.heap.size]? = some (.cells cs t) := by show (w.heap.push _)[w.heap.size]? = _; simp
  rw [show (⟨w.heap.size, j, none⟩ : Addr).block = w.heap.size from rfl, h]
  simp
/-- 7 cells of a block. -/
structure R7 (w : World) (g : Nat) (y0 y1 y2 y3 y4 y5 y6 : Value) : Prop where
  q0 : w.cell? ⟨g, 0, none⟩ = some y0
  q1 : w.cell? ⟨g, 1, none⟩ = some y1
  q2 : w.cell? ⟨g, 2, none⟩ = some y2
  q3 : w.cell? ⟨g, 3, none⟩ = some y3
  q4 : w.cell? ⟨g, 4, none⟩ = some y4
  q5 : w.cell? ⟨g, 5, none⟩ = some y5
  q6 : w.cell? ⟨g, 6, none⟩ = some y6
  z : ∀ j, w.frozen? ⟨g, j, none⟩ = false
theorem R7.lt {w : World} {g : Nat} {y0 y1 y2 y3 y4 y5 y6 : Value} (h : R7 w g y0 y1 y2 y3 y4 y5 y6) : g < w.heap.size := World.block_lt_of_cell? w ⟨g, 0, none⟩ h.q0
theorem R7.same {w w' : World} {g : Nat} {y0 y1 y2 y3 y4 y5 y6 : Value} (h : R7 w g y0 y1 y2 y3 y4 y5 y6) (e : w'.heap[g]? = w.heap[g]?) : R7 w' g y0 y1 y2 y3 y4 y5 y6 :=
  ⟨(World.cell?_of_block (a := ⟨g, 0, none⟩) e).trans h.q0, (World.cell?_of_block (a := ⟨g, 1, none⟩) e).trans h.q1, (World.cell?_of_block (a := ⟨g, 2, none⟩) e).trans h.q2, (World.cell?_of_block (a := ⟨g, 3, none⟩) e).trans h.q3, (World.cell?_of_block (a := ⟨g, 4, none⟩) e).trans h.q4, (World.cell?_of_block (a := ⟨g, 5, none⟩) e).trans h.q5, (World.cell?_of_block (a := ⟨g, 6, none⟩) e).trans h.q6, fun j => (World.frozen?_of_block (a := ⟨g, j, none⟩) e).trans (h.z j)⟩
theorem R7.keep {w w' : World} {g : Nat} {y0 y1 y2 y3 y4 y5 y6 : Value} (h : R7 w g y0 y1 y2 y3 y4 y5 y6) (hb : Below w.heap.size w w') : R7 w' g y0 y1 y2 y3 y4 y5 y6 := h.same (hb.block g h.lt)
theorem R7.new (w : World) (y0 y1 y2 y3 y4 y5 y6 : Value) (t : TypeId) (g : Nat) (hg : g = w.heap.size) : R7 (w.alloc (.cells #[y0, y1, y2, y3, y4, y5, y6] t)) g y0 y1 y2 y3 y4 y5 y6 := by
  subst hg
  have q := World.cell?_alloc_mark w #[y0, y1, y2, y3, y4, y5, y6] t (0, 0)
  exact ⟨q 0, q 1, q 2, q 3, q 4, q 5, q 6, unfrozen w _ t⟩
theorem R7.set0 {w : World} {g : Nat} {y0 y1 y2 y3 y4 y5 y6 : Value} (h : R7 w g y0 y1 y2 y3 y4 y5 y6) (u : Value) : R7 (w.setCell ⟨g, 0, none⟩ u) g u y1 y2 y3 y4 y5 y6 :=
  ⟨cell_put h.q0 _, cell_else (by decide) h.q1 _, cell_else (by decide) h.q2 _, cell_else (by decide) h.q3 _, cell_else (by decide) h.q4 _, cell_else (by decide) h.q5 _, cell_else (by decide) h.q6 _, fun j => by rw [World.frozen?_setCell]; exact h.z j⟩
theorem R7.set1 {w : World} {g : Nat} {y0 y1 y2 y3 y4 y5 y6 : Value} (h : R7 w g y0 y1 y2 y3 y4 y5 y6) (u : Value) : R7 (w.setCell ⟨g, 1, none⟩ u) g y0 u y2 y3 y4 y5 y6 :=
  ⟨cell_else (by decide) h.q0 _, cell_put h.q1 _, cell_else (by decide) h.q2 _, cell_else (by decide) h.q3 _, cell_else (by decide) h.q4 _, cell_else (by decide) h.q5 _, cell_else (by decide) h.q6 _, fun j => by rw [World.frozen?_setCell]; exact h.z j⟩
theorem R7.set2 {w : World} {g : Nat} {y0 y1 y2 y3 y4 y5 y6 : Value} (h : R7 w g y0 y1 y2 y3 y4 y5 y6) (u : Value) : R7 (w.setCell ⟨g, 2, none⟩ u) g y0 y1 u y3 y4 y5 y6 :=
  ⟨cell_else (by decide) h.q0 _, cell_else (by decide) h.q1 _, cell_put h.q2 _, cell_else (by decide) h.q3 _, cell_else (by decide) h.q4 _, cell_else (by decide) h.q5 _, cell_else (by decide) h.q6 _, fun j => by rw [World.frozen?_setCell]; exact h.z j⟩
theorem R7.set3 {w : World} {g : Nat} {y0 y1 y2 y3 y4 y5 y6 : Value} (h : R7 w g y0 y1 y2 y3 y4 y5 y6) (u : Value) : R7 (w.setCell ⟨g, 3, none⟩ u) g y0 y1 y2 u y4 y5 y6 :=
  ⟨cell_else (by decide) h.q0 _, cell_else (by decide) h.q1 _, cell_else (by decide) h.q2 _, cell_put h.q3 _, cell_else (by decide) h.q4 _, cell_else (by decide) h.q5 _, cell_else (by decide) h.q6 _, fun j => by rw [World.frozen?_setCell]; exact h.z j⟩
theorem R7.set4 {w : World} {g : Nat} {y0 y1 y2 y3 y4 y5 y6 : Value} (h : R7 w g y0 y1 y2 y3 y4 y5 y6) (u : Value) : R7 (w.setCell ⟨g, 4, none⟩ u) g y0 y1 y2 y3 u y5 y6 :=
  ⟨cell_else (by decide) h.q0 _, cell_else (by decide) h.q1 _, cell_else (by decide) h.q2 _, cell_else (by decide) h.q3 _, cell_put h.q4 _, cell_else (by decide) h.q5 _, cell_else (by decide) h.q6 _, fun j => by rw [World.frozen?_setCell]; exact h.z j⟩
theorem R7.set5 {w : World} {g : Nat} {y0 y1 y2 y3 y4 y5 y6 : Value} (h : R7 w g y0 y1 y2 y3 y4 y5 y6) (u : Value) : R7 (w.setCell ⟨g, 5, none⟩ u) g y0 y1 y2 y3 y4 u y6 :=
  ⟨cell_else (by decide) h.q0 _, cell_else (by decide) h.q1 _, cell_else (by decide) h.q2 _, cell_else (by decide) h.q3 _, cell_else (by decide) h.q4 _, cell_put h.q5 _, cell_else (by decide) h.q6 _, fun j => by rw [World.frozen?_setCell]; exact h.z j⟩
theorem R7.set6 {w : World} {g : Nat} {y0 y1 y2 y3 y4 y5 y6 : Value} (h : R7 w g y0 y1 y2 y3 y4 y5 y6) (u : Value) : R7 (w.setCell ⟨g, 6, none⟩ u) g y0 y1 y2 y3 y4 y5 u :=
  ⟨cell_else (by decide) h.q0 _, cell_else (by decide) h.q1 _, cell_else (by decide) h.q2 _, cell_else (by decide) h.q3 _, cell_else (by decide) h.q4 _, cell_else (by decide) h.q5 _, cell_put h.q6 _, fun j => by rw [World.frozen?_setCell]; exact h.z j⟩
def put7 (w : World) (g : Nat) (u0 u1 u2 u3 u4 u5 u6 : Value) : World := (World.setCell (World.setCell (World.setCell (World.setCell (World.setCell (World.setCell (World.setCell w ⟨g, 0, none⟩ u0) ⟨g, 1, none⟩ u1) ⟨g, 2, none⟩ u2) ⟨g, 3, none⟩ u3) ⟨g, 4, none⟩ u4) ⟨g, 5, none⟩ u5) ⟨g, 6, none⟩ u6)
theorem R7.put {w : World} {g : Nat} {y0 y1 y2 y3 y4 y5 y6 : Value} (h : R7 w g y0 y1 y2 y3 y4 y5 y6) (u0 u1 u2 u3 u4 u5 u6 : Value) : R7 (put7 w g u0 u1 u2 u3 u4 u5 u6) g u0 u1 u2 u3 u4 u5 u6 := (R7.set6 (R7.set5 (R7.set4 (R7.set3 (R7.set2 (R7.set1 (R7.set0 h u0) u1) u2) u3) u4) u5) u6)
theorem put7_below {B : Nat} {w0 w : World} {g : Nat} (hb : Below B w0 w) (hg : B ≤ g) (u0 u1 u2 u3 u4 u5 u6 : Value) : Below B w0 (put7 w g u0 u1 u2 u3 u4 u5 u6) := (Below.setCell (p := ⟨g, 6, none⟩) (Below.setCell (p := ⟨g, 5, none⟩) (Below.setCell (p := ⟨g, 4, none⟩) (Below.setCell (p := ⟨g, 3, none⟩) (Below.setCell (p := ⟨g, 2, none⟩) (Below.setCell (p := ⟨g, 1, none⟩) (Below.setCell (p := ⟨g, 0, none⟩) hb hg u0) hg u1) hg u2) hg u3) hg u4) hg u5) hg u6)

def svV (s : Sv) : Value := .agg #[.int .i64 s.mine, .int .i64 s.dead, .int .i64 s.peer, .int .i64 s.seen, .int .i64 s.state, .int .i64 s.silent, .int .i64 s.changes]
set_option maxRecDepth 100000 in
set_option maxHeartbeats 4000000 in
theorem rset_any (s : Sv) (hc : s.changes ≤ 1000000) (st pr : Nat) (stI prI : Int) (hst : stI = st) (hpr : prI = pr) (w : World) :
    Calls Try.prog 23 #[.agg #[.int .i64 (s.mine : Int), .int .i64 (s.dead : Int), .int .i64 (s.peer : Int), .int .i64 (s.seen : Int), .int .i64 (s.state : Int), .int .i64 (s.silent : Int), .int .i64 (s.changes : Int)], .int .i64 stI, .int .i64 prI] w fun e w' => e = .returned (svV (s.setS st pr)) ∧ Below w.heap.size w w' := by
  subst hst hpr
  by_cases h1 : s.state ≠ st
  · have hb1 : ((s.state : Int) != (st : Int)) = true := by simp; omega
    have e2 : s.setS st pr = ⟨s.mine, s.dead, pr, s.seen, st, 0, s.changes + 1⟩ := by unfold Sv.setS; rw [if_pos (.inl h1)]
    rw [e2]
    clear e2 h1
    obtain ⟨m0, hm⟩ : ∃ m0, w.heap.size = m0 := ⟨_, rfl⟩
    have M1 := R7.new w (.int .i64 (s.mine : Int)) (.int .i64 (s.dead : Int)) (.int .i64 (s.peer : Int)) (.int .i64 (s.seen : Int)) (.int .i64 (s.state : Int)) (.int .i64 (s.silent : Int)) (.int .i64 (s.changes : Int)) 30 m0 hm.symm
    have k1 : Below w.heap.size w (w.alloc (.cells #[.int .i64 (s.mine : Int), .int .i64 (s.dead : Int), .int .i64 (s.peer : Int), .int .i64 (s.seen : Int), .int .i64 (s.state : Int), .int .i64 (s.silent : Int), .int .i64 (s.changes : Int)] 30)) := (Below.refl _ _).alloc (Nat.le_refl _) _
    have s1 := size_alloc' w (.cells #[.int .i64 (s.mine : Int), .int .i64 (s.dead : Int), .int .i64 (s.peer : Int), .int .i64 (s.seen : Int), .int .i64 (s.state : Int), .int .i64 (s.silent : Int), .int .i64 (s.changes : Int)] 30)
    have M2 := M1.keep (w' := (w.alloc (.cells #[.int .i64 (s.mine : Int), .int .i64 (s.dead : Int), .int .i64 (s.peer : Int), .int .i64 (s.seen : Int), .int .i64 (s.state : Int), .int .i64 (s.silent : Int), .int .i64 (s.changes : Int)] 30)).alloc (.cells #[.int .i64 0, .int .i64 0, .int .i64 0, .int .i64 0, .int .i64 0, .int .i64 0, .int .i64 0] 30)) ((Below.refl _ _).alloc (Nat.le_refl _) _)
    have T2 := R7.new (w.alloc (.cells #[.int .i64 (s.mine : Int), .int .i64 (s.dead : Int), .int .i64 (s.peer : Int), .int .i64 (s.seen : Int), .int .i64 (s.state : Int), .int .i64 (s.silent : Int), .int .i64 (s.changes : Int)] 30)) (.int .i64 0) (.int .i64 0) (.int .i64 0) (.int .i64 0) (.int .i64 0) (.int .i64 0) (.int .i64 0) 30 (m0 + 1) (by rw [s1, hm])
    have k2 : Below w.heap.size w ((w.alloc (.cells #[.int .i64 (s.mine : Int), .int .i64 (s.dead : Int), .int .i64 (s.peer : Int), .int .i64 (s.seen : Int), .int .i64 (s.state : Int), .int .i64 (s.silent : Int), .int .i64 (s.changes : Int)] 30)).alloc (.cells #[.int .i64 0, .int .i64 0, .int .i64 0, .int .i64 0, .int .i64 0, .int .i64 0, .int .i64 0] 30)) := k1.alloc k1.size _
    have MB := box M2
    have TB := box T2
    have K1 := box k2
    have HM := box hm
    clear M1 M2 T2 k1 k2 s1
    go_enter Try.func23, Try.ntmps23
    go_upto_region 1 with fail
    generalize (w.alloc (.cells #[.int .i64 (s.mine : Int), .int .i64 (s.dead : Int), .int .i64 (s.peer : Int), .int .i64 (s.seen : Int), .int .i64 (s.state : Int), .int .i64 (s.silent : Int), .int .i64 (s.changes : Int)] 30)).alloc (.cells #[.int .i64 0, .int .i64 0, .int .i64 0, .int .i64 0, .int .i64 0, .int .i64 0, .int .i64 0] 30) = w1 at MB TB K1 ⊢
    (try simp only [HM.out])
    clear hm
    obtain ⟨p0, p1, p2, p3, p4, p5, p6, pz⟩ := MB.out
    have hmm : m0 ≠ m0 + 1 := by omega
    replace TB := box (TB.out.same (w' := w1.setCell ⟨m0, 6, none⟩ (.int .i64 ((s.changes : Int) + 1))) (heap_else hmm _))
    replace MB := box (MB.out.set6 (.int .i64 ((s.changes : Int) + 1)))
    replace K1 := box (K1.out.setCell (p := ⟨m0, 6, none⟩) (by rw [HM.out]; exact Nat.le_refl _) (.int .i64 ((s.changes : Int) + 1)))
    go_upto_region 3 with fail
    generalize w1.setCell ⟨m0, 6, none⟩ (.int .i64 ((s.changes : Int) + 1)) = w2 at MB TB K1 ⊢
    clear p0 p1 p2 p3 p4 p5 p6 pz hmm
    obtain ⟨p0, p1, p2, p3, p4, p5, p6, pz⟩ := MB.out
    have hmm : m0 ≠ m0 + 1 := by omega
    replace TB := box (((TB.out.same (w' := w2.setCell ⟨m0, 4, none⟩ (.int .i64 (st : Int))) (heap_else hmm _)).same (w' := (w2.setCell ⟨m0, 4, none⟩ (.int .i64 (st : Int))).setCell ⟨m0, 2, none⟩ (.int .i64 (pr : Int))) (heap_else hmm _)).same (w' := (((w2.setCell ⟨m0, 4, none⟩ (.int .i64 (st : Int))).setCell ⟨m0, 2, none⟩ (.int .i64 (pr : Int))).setCell ⟨m0, 5, none⟩ (.int .i64 0))) (heap_else hmm _))
    replace MB := box (((MB.out.set4 (.int .i64 (st : Int))).set2 (.int .i64 (pr : Int))).set5 (.int .i64 0))
    replace K1 := box (((K1.out.setCell (p := ⟨m0, 4, none⟩) (by rw [HM.out]; exact Nat.le_refl _) (.int .i64 (st : Int))).setCell (p := ⟨m0, 2, none⟩) (by rw [HM.out]; exact Nat.le_refl _) (.int .i64 (pr : Int))).setCell (p := ⟨m0, 5, none⟩) (by rw [HM.out]; exact Nat.le_refl _) (.int .i64 0))
    go_upto_region 4 with fail
    generalize (((w2.setCell ⟨m0, 4, none⟩ (.int .i64 (st : Int))).setCell ⟨m0, 2, none⟩ (.int .i64 (pr : Int))).setCell ⟨m0, 5, none⟩ (.int .i64 0)) = w5 at MB TB K1 ⊢
    clear p0 p1 p2 p3 p4 p5 p6 pz hmm
    have PT := box (TB.out.put (.int .i64 (s.mine : Int)) (.int .i64 (s.dead : Int)) (.int .i64 (pr : Int)) (.int .i64 (s.seen : Int)) (.int .i64 (st : Int)) (.int .i64 0) (.int .i64 ((s.changes : Int) + 1)))
    have KF := box (put7_below K1.out (show w.heap.size ≤ m0 + 1 by rw [HM.out]; omega) (.int .i64 (s.mine : Int)) (.int .i64 (s.dead : Int)) (.int .i64 (pr : Int)) (.int .i64 (s.seen : Int)) (.int .i64 (st : Int)) (.int .i64 0) (.int .i64 ((s.changes : Int) + 1)))
    obtain ⟨p0, p1, p2, p3, p4, p5, p6, pz⟩ := MB.out
    obtain ⟨t0, t1, t2, t3, t4, t5, t6, tz⟩ := TB.out
    go_wp2_with fail
    change bodyPost _ _ _ _ _ (put7 w5 (m0 + 1) (.int .i64 (s.mine : Int)) (.int .i64 (s.dead : Int)) (.int .i64 (pr : Int)) (.int .i64 (s.seen : Int)) (.int .i64 (st : Int)) (.int .i64 0) (.int .i64 ((s.changes : Int) + 1)))
    generalize put7 w5 (m0 + 1) (.int .i64 (s.mine : Int)) (.int .i64 (s.dead : Int)) (.int .i64 (pr : Int)) (.int .i64 (s.seen : Int)) (.int .i64 (st : Int)) (.int .i64 0) (.int .i64 ((s.changes : Int) + 1)) = w9 at PT KF ⊢
    obtain ⟨o0, o1, o2, o3, o4, o5, o6, oz⟩ := PT.out
    refine bodyPost_ret (v := .agg #[.int .i64 (s.mine : Int), .int .i64 (s.dead : Int), .int .i64 (pr : Int), .int .i64 (s.seen : Int), .int .i64 (st : Int), .int .i64 0, .int .i64 ((s.changes : Int) + 1)]) (by simp [results, Try.results23, go_sem, o0, o1, o2, o3, o4, o5, o6]) rfl ⟨?_, KF.out⟩
    rfl
  · by_cases h2 : s.peer ≠ pr
    · have hb1 : ((s.state : Int) != (st : Int)) = false := by simp; omega
      have hb2 : ((s.peer : Int) != (pr : Int)) = true := by simp; omega
      have e2 : s.setS st pr = ⟨s.mine, s.dead, pr, s.seen, st, 0, s.changes + 1⟩ := by unfold Sv.setS; rw [if_pos (.inr h2)]
      rw [e2]
      clear e2 h1 h2
      obtain ⟨m0, hm⟩ : ∃ m0, w.heap.size = m0 := ⟨_, rfl⟩
      have M1 := R7.new w (.int .i64 (s.mine : Int)) (.int .i64 (s.dead : Int)) (.int .i64 (s.peer : Int)) (.int .i64 (s.seen : Int)) (.int .i64 (s.state : Int)) (.int .i64 (s.silent : Int)) (.int .i64 (s.changes : Int)) 30 m0 hm.symm
      have k1 : Below w.heap.size w (w.alloc (.cells #[.int .i64 (s.mine : Int), .int .i64 (s.dead : Int), .int .i64 (s.peer : Int), .int .i64 (s.seen : Int), .int .i64 (s.state : Int), .int .i64 (s.silent : Int), .int .i64 (s.changes : Int)] 30)) := (Below.refl _ _).alloc (Nat.le_refl _) _
      have s1 := size_alloc' w (.cells #[.int .i64 (s.mine : Int), .int .i64 (s.dead : Int), .int .i64 (s.peer : Int), .int .i64 (s.seen : Int), .int .i64 (s.state : Int), .int .i64 (s.silent : Int), .int .i64 (s.changes : Int)] 30)
      have M2 := M1.keep (w' := (w.alloc (.cells #[.int .i64 (s.mine : Int), .int .i64 (s.dead : Int), .int .i64 (s.peer : Int), .int .i64 (s.seen : Int), .int .i64 (s.state : Int), .int .i64 (s.silent : Int), .int .i64 (s.changes : Int)] 30)).alloc (.cells #[.int .i64 0, .int .i64 0, .int .i64 0, .int .i64 0, .int .i64 0, .int .i64 0, .int .i64 0] 30)) ((Below.refl _ _).alloc (Nat.le_refl _) _)
      have T2 := R7.new (w.alloc (.cells #[.int .i64 (s.mine : Int), .int .i64 (s.dead : Int), .int .i64 (s.peer : Int), .int .i64 (s.seen : Int), .int .i64 (s.state : Int), .int .i64 (s.silent : Int), .int .i64 (s.changes : Int)] 30)) (.int .i64 0) (.int .i64 0) (.int .i64 0) (.int .i64 0) (.int .i64 0) (.int .i64 0) (.int .i64 0) 30 (m0 + 1) (by rw [s1, hm])
      have k2 : Below w.heap.size w ((w.alloc (.cells #[.int .i64 (s.mine : Int), .int .i64 (s.dead : Int), .int .i64 (s.peer : Int), .int .i64 (s.seen : Int), .int .i64 (s.state : Int), .int .i64 (s.silent : Int), .int .i64 (s.changes : Int)] 30)).alloc (.cells #[.int .i64 0, .int .i64 0, .int .i64 0, .int .i64 0, .int .i64 0, .int .i64 0, .int .i64 0] 30)) := k1.alloc k1.size _
      have MB := box M2
      have TB := box T2
      have K1 := box k2
      have HM := box hm
      clear M1 M2 T2 k1 k2 s1
      go_enter Try.func23, Try.ntmps23
      go_upto_region 1 with fail
      generalize (w.alloc (.cells #[.int .i64 (s.mine : Int), .int .i64 (s.dead : Int), .int .i64 (s.peer : Int), .int .i64 (s.seen : Int), .int .i64 (s.state : Int), .int .i64 (s.silent : Int), .int .i64 (s.changes : Int)] 30)).alloc (.cells #[.int .i64 0, .int .i64 0, .int .i64 0, .int .i64 0, .int .i64 0, .int .i64 0, .int .i64 0] 30) = w1 at MB TB K1 ⊢
      (try simp only [HM.out])
      clear hm
      obtain ⟨p0, p1, p2, p3, p4, p5, p6, pz⟩ := MB.out
      have hmm : m0 ≠ m0 + 1 := by omega
      replace TB := box (TB.out.same (w' := w1.setCell ⟨m0, 6, none⟩ (.int .i64 ((s.changes : Int) + 1))) (heap_else hmm _))
      replace MB := box (MB.out.set6 (.int .i64 ((s.changes : Int) + 1)))
      replace K1 := box (K1.out.setCell (p := ⟨m0, 6, none⟩) (by rw [HM.out]; exact Nat.le_refl _) (.int .i64 ((s.changes : Int) + 1)))
      go_upto_region 3 with fail
      generalize w1.setCell ⟨m0, 6, none⟩ (.int .i64 ((s.changes : Int) + 1)) = w2 at MB TB K1 ⊢
      clear p0 p1 p2 p3 p4 p5 p6 pz hmm
      obtain ⟨p0, p1, p2, p3, p4, p5, p6, pz⟩ := MB.out
      have hmm : m0 ≠ m0 + 1 := by omega
      replace TB := box (((TB.out.same (w' := w2.setCell ⟨m0, 4, none⟩ (.int .i64 (st : Int))) (heap_else hmm _)).same (w' := (w2.setCell ⟨m0, 4, none⟩ (.int .i64 (st : Int))).setCell ⟨m0, 2, none⟩ (.int .i64 (pr : Int))) (heap_else hmm _)).same (w' := (((w2.setCell ⟨m0, 4, none⟩ (.int .i64 (st : Int))).setCell ⟨m0, 2, none⟩ (.int .i64 (pr : Int))).setCell ⟨m0, 5, none⟩ (.int .i64 0))) (heap_else hmm _))
      replace MB := box (((MB.out.set4 (.int .i64 (st : Int))).set2 (.int .i64 (pr : Int))).set5 (.int .i64 0))
      replace K1 := box (((K1.out.setCell (p := ⟨m0, 4, none⟩) (by rw [HM.out]; exact Nat.le_refl _) (.int .i64 (st : Int))).setCell (p := ⟨m0, 2, none⟩) (by rw [HM.out]; exact Nat.le_refl _) (.int .i64 (pr : Int))).setCell (p := ⟨m0, 5, none⟩) (by rw [HM.out]; exact Nat.le_refl _) (.int .i64 0))
      go_upto_region 4 with fail
      generalize (((w2.setCell ⟨m0, 4, none⟩ (.int .i64 (st : Int))).setCell ⟨m0, 2, none⟩ (.int .i64 (pr : Int))).setCell ⟨m0, 5, none⟩ (.int .i64 0)) = w5 at MB TB K1 ⊢
      clear p0 p1 p2 p3 p4 p5 p6 pz hmm
      have PT := box (TB.out.put (.int .i64 (s.mine : Int)) (.int .i64 (s.dead : Int)) (.int .i64 (pr : Int)) (.int .i64 (s.seen : Int)) (.int .i64 (st : Int)) (.int .i64 0) (.int .i64 ((s.changes : Int) + 1)))
      have KF := box (put7_below K1.out (show w.heap.size ≤ m0 + 1 by rw [HM.out]; omega) (.int .i64 (s.mine : Int)) (.int .i64 (s.dead : Int)) (.int .i64 (pr : Int)) (.int .i64 (s.seen : Int)) (.int .i64 (st : Int)) (.int .i64 0) (.int .i64 ((s.changes : Int) + 1)))
      obtain ⟨p0, p1, p2, p3, p4, p5, p6, pz⟩ := MB.out
      obtain ⟨t0, t1, t2, t3, t4, t5, t6, tz⟩ := TB.out
      go_wp2_with fail
      change bodyPost _ _ _ _ _ (put7 w5 (m0 + 1) (.int .i64 (s.mine : Int)) (.int .i64 (s.dead : Int)) (.int .i64 (pr : Int)) (.int .i64 (s.seen : Int)) (.int .i64 (st : Int)) (.int .i64 0) (.int .i64 ((s.changes : Int) + 1)))
      generalize put7 w5 (m0 + 1) (.int .i64 (s.mine : Int)) (.int .i64 (s.dead : Int)) (.int .i64 (pr : Int)) (.int .i64 (s.seen : Int)) (.int .i64 (st : Int)) (.int .i64 0) (.int .i64 ((s.changes : Int) + 1)) = w9 at PT KF ⊢
      obtain ⟨o0, o1, o2, o3, o4, o5, o6, oz⟩ := PT.out
      refine bodyPost_ret (v := .agg #[.int .i64 (s.mine : Int), .int .i64 (s.dead : Int), .int .i64 (pr : Int), .int .i64 (s.seen : Int), .int .i64 (st : Int), .int .i64 0, .int .i64 ((s.changes : Int) + 1)]) (by simp [results, Try.results23, go_sem, o0, o1, o2, o3, o4, o5, o6]) rfl ⟨?_, KF.out⟩
      rfl
    · have hb1 : ((s.state : Int) != (st : Int)) = false := by simp; omega
      have hb2 : ((s.peer : Int) != (pr : Int)) = false := by simp; omega
      have e2 : s.setS st pr = ⟨s.mine, s.dead, pr, s.seen, st, 0, s.changes⟩ := by unfold Sv.setS; rw [if_neg (by omega)]
      rw [e2]
      clear e2 h1 h2
      obtain ⟨m0, hm⟩ : ∃ m0, w.heap.size = m0 := ⟨_, rfl⟩
      have M1 := R7.new w (.int .i64 (s.mine : Int)) (.int .i64 (s.dead : Int)) (.int .i64 (s.peer : Int)) (.int .i64 (s.seen : Int)) (.int .i64 (s.state : Int)) (.int .i64 (s.silent : Int)) (.int .i64 (s.changes : Int)) 30 m0 hm.symm
      have k1 : Below w.heap.size w (w.alloc (.cells #[.int .i64 (s.mine : Int), .int .i64 (s.dead : Int), .int .i64 (s.peer : Int), .int .i64 (s.seen : Int), .int .i64 (s.state : Int), .int .i64 (s.silent : Int), .int .i64 (s.changes : Int)] 30)) := (Below.refl _ _).alloc (Nat.le_refl _) _
      have s1 := size_alloc' w (.cells #[.int .i64 (s.mine : Int), .int .i64 (s.dead : Int), .int .i64 (s.peer : Int), .int .i64 (s.seen : Int), .int .i64 (s.state : Int), .int .i64 (s.silent : Int), .int .i64 (s.changes : Int)] 30)
      have M2 := M1.keep (w' := (w.alloc (.cells #[.int .i64 (s.mine : Int), .int .i64 (s.dead : Int), .int .i64 (s.peer : Int), .int .i64 (s.seen : Int), .int .i64 (s.state : Int), .int .i64 (s.silent : Int), .int .i64 (s.changes : Int)] 30)).alloc (.cells #[.int .i64 0, .int .i64 0, .int .i64 0, .int .i64 0, .int .i64 0, .int .i64 0, .int .i64 0] 30)) ((Below.refl _ _).alloc (Nat.le_refl _) _)
      have T2 := R7.new (w.alloc (.cells #[.int .i64 (s.mine : Int), .int .i64 (s.dead : Int), .int .i64 (s.peer : Int), .int .i64 (s.seen : Int), .int .i64 (s.state : Int), .int .i64 (s.silent : Int), .int .i64 (s.changes : Int)] 30)) (.int .i64 0) (.int .i64 0) (.int .i64 0) (.int .i64 0) (.int .i64 0) (.int .i64 0) (.int .i64 0) 30 (m0 + 1) (by rw [s1, hm])
      have k2 : Below w.heap.size w ((w.alloc (.cells #[.int .i64 (s.mine : Int), .int .i64 (s.dead : Int), .int .i64 (s.peer : Int), .int .i64 (s.seen : Int), .int .i64 (s.state : Int), .int .i64 (s.silent : Int), .int .i64 (s.changes : Int)] 30)).alloc (.cells #[.int .i64 0, .int .i64 0, .int .i64 0, .int .i64 0, .int .i64 0, .int .i64 0, .int .i64 0] 30)) := k1.alloc k1.size _
      have MB := box M2
      have TB := box T2
      have K1 := box k2
      have HM := box hm
      clear M1 M2 T2 k1 k2 s1
      go_enter Try.func23, Try.ntmps23
      go_upto_region 1 with fail
      generalize (w.alloc (.cells #[.int .i64 (s.mine : Int), .int .i64 (s.dead : Int), .int .i64 (s.peer : Int), .int .i64 (s.seen : Int), .int .i64 (s.state : Int), .int .i64 (s.silent : Int), .int .i64 (s.changes : Int)] 30)).alloc (.cells #[.int .i64 0, .int .i64 0, .int .i64 0, .int .i64 0, .int .i64 0, .int .i64 0, .int .i64 0] 30) = w1 at MB TB K1 ⊢
      (try simp only [HM.out])
      clear hm
      obtain ⟨p0, p1, p2, p3, p4, p5, p6, pz⟩ := MB.out
      have hmm : m0 ≠ m0 + 1 := by omega
      replace TB := box (((TB.out.same (w' := w1.setCell ⟨m0, 4, none⟩ (.int .i64 (st : Int))) (heap_else hmm _)).same (w' := (w1.setCell ⟨m0, 4, none⟩ (.int .i64 (st : Int))).setCell ⟨m0, 2, none⟩ (.int .i64 (pr : Int))) (heap_else hmm _)).same (w' := (((w1.setCell ⟨m0, 4, none⟩ (.int .i64 (st : Int))).setCell ⟨m0, 2, none⟩ (.int .i64 (pr : Int))).setCell ⟨m0, 5, none⟩ (.int .i64 0))) (heap_else hmm _))
      replace MB := box (((MB.out.set4 (.int .i64 (st : Int))).set2 (.int .i64 (pr : Int))).set5 (.int .i64 0))
      replace K1 := box (((K1.out.setCell (p := ⟨m0, 4, none⟩) (by rw [HM.out]; exact Nat.le_refl _) (.int .i64 (st : Int))).setCell (p := ⟨m0, 2, none⟩) (by rw [HM.out]; exact Nat.le_refl _) (.int .i64 (pr : Int))).setCell (p := ⟨m0, 5, none⟩) (by rw [HM.out]; exact Nat.le_refl _) (.int .i64 0))
      go_upto_region 4 with fail
      generalize (((w1.setCell ⟨m0, 4, none⟩ (.int .i64 (st : Int))).setCell ⟨m0, 2, none⟩ (.int .i64 (pr : Int))).setCell ⟨m0, 5, none⟩ (.int .i64 0)) = w5 at MB TB K1 ⊢
      clear p0 p1 p2 p3 p4 p5 p6 pz hmm
      have PT := box (TB.out.put (.int .i64 (s.mine : Int)) (.int .i64 (s.dead : Int)) (.int .i64 (pr : Int)) (.int .i64 (s.seen : Int)) (.int .i64 (st : Int)) (.int .i64 0) (.int .i64 (s.changes : Int)))
      have KF := box (put7_below K1.out (show w.heap.size ≤ m0 + 1 by rw [HM.out]; omega) (.int .i64 (s.mine : Int)) (.int .i64 (s.dead : Int)) (.int .i64 (pr : Int)) (.int .i64 (s.seen : Int)) (.int .i64 (st : Int)) (.int .i64 0) (.int .i64 (s.changes : Int)))
      obtain ⟨p0, p1, p2, p3, p4, p5, p6, pz⟩ := MB.out
      obtain ⟨t0, t1, t2, t3, t4, t5, t6, tz⟩ := TB.out
      go_wp2_with fail
      change bodyPost _ _ _ _ _ (put7 w5 (m0 + 1) (.int .i64 (s.mine : Int)) (.int .i64 (s.dead : Int)) (.int .i64 (pr : Int)) (.int .i64 (s.seen : Int)) (.int .i64 (st : Int)) (.int .i64 0) (.int .i64 (s.changes : Int)))
      generalize put7 w5 (m0 + 1) (.int .i64 (s.mine : Int)) (.int .i64 (s.dead : Int)) (.int .i64 (pr : Int)) (.int .i64 (s.seen : Int)) (.int .i64 (st : Int)) (.int .i64 0) (.int .i64 (s.changes : Int)) = w9 at PT KF ⊢
      obtain ⟨o0, o1, o2, o3, o4, o5, o6, oz⟩ := PT.out
      refine bodyPost_ret (v := .agg #[.int .i64 (s.mine : Int), .int .i64 (s.dead : Int), .int .i64 (pr : Int), .int .i64 (s.seen : Int), .int .i64 (st : Int), .int .i64 0, .int .i64 (s.changes : Int)]) (by simp [results, Try.results23, go_sem, o0, o1, o2, o3, o4, o5, o6]) rfl ⟨?_, KF.out⟩
      rfl

set_option maxRecDepth 100000 in
set_option maxHeartbeats 4000000 in
theorem rtick_any (s : Sv) (ok : s.Ok) (hc : s.changes ≤ 1000000) (w : World) :
    Calls Try.prog 16 #[.agg #[.int .i64 (s.mine : Int), .int .i64 (s.dead : Int), .int .i64 (s.peer : Int), .int .i64 (s.seen : Int), .int .i64 (s.state : Int), .int .i64 (s.silent : Int), .int .i64 (s.changes : Int)]] w fun e w' => e = .returned (svV s.tickS) ∧ Below w.heap.size w w' := by
  have d2 := ok.d2
  have si := ok.si
  clear ok
  by_cases h1 : s.peer = 0
  · have hb : ((s.peer : Int) == 0) = true := by simp; omega
    have e2 : s.tickS = s := by unfold Sv.tickS; rw [if_pos h1]
    rw [e2]
    clear e2 h1
    obtain ⟨m0, hm⟩ : ∃ m0, w.heap.size = m0 := ⟨_, rfl⟩
    have M1 := R7.new w (.int .i64 (s.mine : Int)) (.int .i64 (s.dead : Int)) (.int .i64 (s.peer : Int)) (.int .i64 (s.seen : Int)) (.int .i64 (s.state : Int)) (.int .i64 (s.silent : Int)) (.int .i64 (s.changes : Int)) 30 m0 hm.symm
    have k1 : Below w.heap.size w (w.alloc (.cells #[.int .i64 (s.mine : Int), .int .i64 (s.dead : Int), .int .i64 (s.peer : Int), .int .i64 (s.seen : Int), .int .i64 (s.state : Int), .int .i64 (s.silent : Int), .int .i64 (s.changes : Int)] 30)) := (Below.refl _ _).alloc (Nat.le_refl _) _
    have s1 := size_alloc' w (.cells #[.int .i64 (s.mine : Int), .int .i64 (s.dead : Int), .int .i64 (s.peer : Int), .int .i64 (s.seen : Int), .int .i64 (s.state : Int), .int .i64 (s.silent : Int), .int .i64 (s.changes : Int)] 30)
    have M2 := M1.keep (w' := (w.alloc (.cells #[.int .i64 (s.mine : Int), .int .i64 (s.dead : Int), .int .i64 (s.peer : Int), .int .i64 (s.seen : Int), .int .i64 (s.state : Int), .int .i64 (s.silent : Int), .int .i64 (s.changes : Int)] 30)).alloc (.cells #[.int .i64 0, .int .i64 0, .int .i64 0, .int .i64 0, .int .i64 0, .int .i64 0, .int .i64 0] 30)) ((Below.refl _ _).alloc (Nat.le_refl _) _)
    have T2 := R7.new (w.alloc (.cells #[.int .i64 (s.mine : Int), .int .i64 (s.dead : Int), .int .i64 (s.peer : Int), .int .i64 (s.seen : Int), .int .i64 (s.state : Int), .int .i64 (s.silent : Int), .int .i64 (s.changes : Int)] 30)) (.int .i64 0) (.int .i64 0) (.int .i64 0) (.int .i64 0) (.int .i64 0) (.int .i64 0) (.int .i64 0) 30 (m0 + 1) (by rw [s1, hm])
    have k2 : Below w.heap.size w ((w.alloc (.cells #[.int .i64 (s.mine : Int), .int .i64 (s.dead : Int), .int .i64 (s.peer : Int), .int .i64 (s.seen : Int), .int .i64 (s.state : Int), .int .i64 (s.silent : Int), .int .i64 (s.changes : Int)] 30)).alloc (.cells #[.int .i64 0, .int .i64 0, .int .i64 0, .int .i64 0, .int .i64 0, .int .i64 0, .int .i64 0] 30)) := k1.alloc k1.size _
    have MB := box M2
    have TB := box T2
    have K1 := box k2
    have HM := box hm
    clear M1 M2 T2 k1 k2 s1
    go_enter Try.func16, Try.ntmps16
    go_upto_region 1 with fail
    generalize (w.alloc (.cells #[.int .i64 (s.mine : Int), .int .i64 (s.dead : Int), .int .i64 (s.peer : Int), .int .i64 (s.seen : Int), .int .i64 (s.state : Int), .int .i64 (s.silent : Int), .int .i64 (s.changes : Int)] 30)).alloc (.cells #[.int .i64 0, .int .i64 0, .int .i64 0, .int .i64 0, .int .i64 0, .int .i64 0, .int .i64 0] 30) = w1 at MB TB K1 ⊢
    (try simp only [HM.out])
    clear hm
    have PT := box (TB.out.put (.int .i64 (s.mine : Int)) (.int .i64 (s.dead : Int)) (.int .i64 (s.peer : Int)) (.int .i64 (s.seen : Int)) (.int .i64 (s.state : Int)) (.int .i64 (s.silent : Int)) (.int .i64 (s.changes : Int)))
    have KF := box (put7_below K1.out (show w.heap.size ≤ m0 + 1 by rw [HM.out]; omega) (.int .i64 (s.mine : Int)) (.int .i64 (s.dead : Int)) (.int .i64 (s.peer : Int)) (.int .i64 (s.seen : Int)) (.int .i64 (s.state : Int)) (.int .i64 (s.silent : Int)) (.int .i64 (s.changes : Int)))
    obtain ⟨p0, p1, p2, p3, p4, p5, p6, pz⟩ := MB.out
    obtain ⟨t0, t1, t2, t3, t4, t5, t6, tz⟩ := TB.out
    go_wp2_with fail
    change bodyPost _ _ _ _ _ (put7 w1 (m0 + 1) (.int .i64 (s.mine : Int)) (.int .i64 (s.dead : Int)) (.int .i64 (s.peer : Int)) (.int .i64 (s.seen : Int)) (.int .i64 (s.state : Int)) (.int .i64 (s.silent : Int)) (.int .i64 (s.changes : Int)))
    generalize put7 w1 (m0 + 1) (.int .i64 (s.mine : Int)) (.int .i64 (s.dead : Int)) (.int .i64 (s.peer : Int)) (.int .i64 (s.seen : Int)) (.int .i64 (s.state : Int)) (.int .i64 (s.silent : Int)) (.int .i64 (s.changes : Int)) = w9 at PT KF ⊢
    obtain ⟨o0, o1, o2, o3, o4, o5, o6, oz⟩ := PT.out
    refine bodyPost_ret (v := .agg #[.int .i64 (s.mine : Int), .int .i64 (s.dead : Int), .int .i64 (s.peer : Int), .int .i64 (s.seen : Int), .int .i64 (s.state : Int), .int .i64 (s.silent : Int), .int .i64 (s.changes : Int)]) (by simp [results, Try.results16, go_sem, o0, o1, o2, o3, o4, o5, o6]) rfl ⟨?_, KF.out⟩
    rfl
  · have hb : ((s.peer : Int) == 0) = false := by simp; omega
    by_cases h2 : s.dead ≤ s.silent + 1
    · have e2 : s.tickS = Sv.setS ⟨s.mine, s.dead, s.peer, s.seen, s.state, s.silent + 1, s.changes⟩ 0 0 := by unfold Sv.tickS; rw [if_neg h1, if_pos h2]; rfl
      rw [e2]
      clear e2 h1
      obtain ⟨m0, hm⟩ : ∃ m0, w.heap.size = m0 := ⟨_, rfl⟩
      have M1 := R7.new w (.int .i64 (s.mine : Int)) (.int .i64 (s.dead : Int)) (.int .i64 (s.peer : Int)) (.int .i64 (s.seen : Int)) (.int .i64 (s.state : Int)) (.int .i64 (s.silent : Int)) (.int .i64 (s.changes : Int)) 30 m0 hm.symm
      have k1 : Below w.heap.size w (w.alloc (.cells #[.int .i64 (s.mine : Int), .int .i64 (s.dead : Int), .int .i64 (s.peer : Int), .int .i64 (s.seen : Int), .int .i64 (s.state : Int), .int .i64 (s.silent : Int), .int .i64 (s.changes : Int)] 30)) := (Below.refl _ _).alloc (Nat.le_refl _) _
      have s1 := size_alloc' w (.cells #[.int .i64 (s.mine : Int), .int .i64 (s.dead : Int), .int .i64 (s.peer : Int), .int .i64 (s.seen : Int), .int .i64 (s.state : Int), .int .i64 (s.silent : Int), .int .i64 (s.changes : Int)] 30)
      have M2 := M1.keep (w' := (w.alloc (.cells #[.int .i64 (s.mine : Int), .int .i64 (s.dead : Int), .int .i64 (s.peer : Int), .int .i64 (s.seen : Int), .int .i64 (s.state : Int), .int .i64 (s.silent : Int), .int .i64 (s.changes : Int)] 30)).alloc (.cells #[.int .i64 0, .int .i64 0, .int .i64 0, .int .i64 0, .int .i64 0, .int .i64 0, .int .i64 0] 30)) ((Below.refl _ _).alloc (Nat.le_refl _) _)
      have T2 := R7.new (w.alloc (.cells #[.int .i64 (s.mine : Int), .int .i64 (s.dead : Int), .int .i64 (s.peer : Int), .int .i64 (s.seen : Int), .int .i64 (s.state : Int), .int .i64 (s.silent : Int), .int .i64 (s.changes : Int)] 30)) (.int .i64 0) (.int .i64 0) (.int .i64 0) (.int .i64 0) (.int .i64 0) (.int .i64 0) (.int .i64 0) 30 (m0 + 1) (by rw [s1, hm])
      have k2 : Below w.heap.size w ((w.alloc (.cells #[.int .i64 (s.mine : Int), .int .i64 (s.dead : Int), .int .i64 (s.peer : Int), .int .i64 (s.seen : Int), .int .i64 (s.state : Int), .int .i64 (s.silent : Int), .int .i64 (s.changes : Int)] 30)).alloc (.cells #[.int .i64 0, .int .i64 0, .int .i64 0, .int .i64 0, .int .i64 0, .int .i64 0, .int .i64 0] 30)) := k1.alloc k1.size _
      have MB := box M2
      have TB := box T2
      have K1 := box k2
      have HM := box hm
      clear M1 M2 T2 k1 k2 s1
      go_enter Try.func16, Try.ntmps16
      go_upto_region 1 with fail
      generalize (w.alloc (.cells #[.int .i64 (s.mine : Int), .int .i64 (s.dead : Int), .int .i64 (s.peer : Int), .int .i64 (s.seen : Int), .int .i64 (s.state : Int), .int .i64 (s.silent : Int), .int .i64 (s.changes : Int)] 30)).alloc (.cells #[.int .i64 0, .int .i64 0, .int .i64 0, .int .i64 0, .int .i64 0, .int .i64 0, .int .i64 0] 30) = w1 at MB TB K1 ⊢
      (try simp only [HM.out])
      clear hm
      obtain ⟨p0, p1, p2, p3, p4, p5, p6, pz⟩ := MB.out
      have hmm : m0 ≠ m0 + 1 := by omega
      replace TB := box (TB.out.same (w' := w1.setCell ⟨m0, 5, none⟩ (.int .i64 ((s.silent : Int) + 1))) (heap_else hmm _))
      replace MB := box (MB.out.set5 (.int .i64 ((s.silent : Int) + 1)))
      replace K1 := box (K1.out.setCell (p := ⟨m0, 5, none⟩) (by rw [HM.out]; exact Nat.le_refl _) (.int .i64 ((s.silent : Int) + 1)))
      go_upto_region 4 with fail
      generalize w1.setCell ⟨m0, 5, none⟩ (.int .i64 ((s.silent : Int) + 1)) = w2 at MB TB K1 ⊢
      clear p0 p1 p2 p3 p4 p5 p6 pz hmm
      have RS := rset_any ⟨s.mine, s.dead, s.peer, s.seen, s.state, s.silent + 1, s.changes⟩ (by show s.changes ≤ 1000000; omega) (0) (0) (0) (0) (by first | rfl | omega) (by first | rfl | omega) w2
      obtain ⟨r, hr⟩ : ∃ r, Sv.setS ⟨s.mine, s.dead, s.peer, s.seen, s.state, s.silent + 1, s.changes⟩ (0) (0) = r := ⟨_, rfl⟩
      have HR := box hr
      rw [hr] at RS
      unfold svV at RS
      clear hr
      obtain ⟨p0, p1, p2, p3, p4, p5, p6, pz⟩ := MB.out
      go_wp2_with fail
      refine RS.mono ?_
      rintro e w3 ⟨rfl, b2⟩
      replace MB := box (MB.out.keep b2)
      replace TB := box (TB.out.keep b2)
      replace K1 := box (K1.out.trans (b2.mono K1.out.size))
      clear b2 RS p0 p1 p2 p3 p4 p5 p6 pz
      have PT := box (TB.out.put (.int .i64 (r.mine : Int)) (.int .i64 (r.dead : Int)) (.int .i64 (r.peer : Int)) (.int .i64 (r.seen : Int)) (.int .i64 (r.state : Int)) (.int .i64 (r.silent : Int)) (.int .i64 (r.changes : Int)))
      have KF := box (put7_below K1.out (show w.heap.size ≤ m0 + 1 by rw [HM.out]; omega) (.int .i64 (r.mine : Int)) (.int .i64 (r.dead : Int)) (.int .i64 (r.peer : Int)) (.int .i64 (r.seen : Int)) (.int .i64 (r.state : Int)) (.int .i64 (r.silent : Int)) (.int .i64 (r.changes : Int)))
      obtain ⟨p0, p1, p2, p3, p4, p5, p6, pz⟩ := MB.out
      obtain ⟨t0, t1, t2, t3, t4, t5, t6, tz⟩ := TB.out
      go_wp2_with fail
      change bodyPost _ _ _ _ _ (put7 w3 (m0 + 1) (.int .i64 (r.mine : Int)) (.int .i64 (r.dead : Int)) (.int .i64 (r.peer : Int)) (.int .i64 (r.seen : Int)) (.int .i64 (r.state : Int)) (.int .i64 (r.silent : Int)) (.int .i64 (r.changes : Int)))
      generalize put7 w3 (m0 + 1) (.int .i64 (r.mine : Int)) (.int .i64 (r.dead : Int)) (.int .i64 (r.peer : Int)) (.int .i64 (r.seen : Int)) (.int .i64 (r.state : Int)) (.int .i64 (r.silent : Int)) (.int .i64 (r.changes : Int)) = w9 at PT KF ⊢
      obtain ⟨o0, o1, o2, o3, o4, o5, o6, oz⟩ := PT.out
      refine bodyPost_ret (v := .agg #[.int .i64 (r.mine : Int), .int .i64 (r.dead : Int), .int .i64 (r.peer : Int), .int .i64 (r.seen : Int), .int .i64 (r.state : Int), .int .i64 (r.silent : Int), .int .i64 (r.changes : Int)]) (by simp [results, Try.results16, go_sem, o0, o1, o2, o3, o4, o5, o6]) rfl ⟨?_, KF.out⟩
      rw [← HR.out]; rfl
    · have e2 : s.tickS = ⟨s.mine, s.dead, s.peer, s.seen, s.state, s.silent + 1, s.changes⟩ := by unfold Sv.tickS; rw [if_neg h1, if_neg h2]
      rw [e2]
      clear e2 h1
      obtain ⟨m0, hm⟩ : ∃ m0, w.heap.size = m0 := ⟨_, rfl⟩
      have M1 := R7.new w (.int .i64 (s.mine : Int)) (.int .i64 (s.dead : Int)) (.int .i64 (s.peer : Int)) (.int .i64 (s.seen : Int)) (.int .i64 (s.state : Int)) (.int .i64 (s.silent : Int)) (.int .i64 (s.changes : Int)) 30 m0 hm.symm
      have k1 : Below w.heap.size w (w.alloc (.cells #[.int .i64 (s.mine : Int), .int .i64 (s.dead : Int), .int .i64 (s.peer : Int), .int .i64 (s.seen : Int), .int .i64 (s.state : Int), .int .i64 (s.silent : Int), .int .i64 (s.changes : Int)] 30)) := (Below.refl _ _).alloc (Nat.le_refl _) _
      have s1 := size_alloc' w (.cells #[.int .i64 (s.mine : Int), .int .i64 (s.dead : Int), .int .i64 (s.peer : Int), .int .i64 (s.seen : Int), .int .i64 (s.state : Int), .int .i64 (s.silent : Int), .int .i64 (s.changes : Int)] 30)
      have M2 := M1.keep (w' := (w.alloc (.cells #[.int .i64 (s.mine : Int), .int .i64 (s.dead : Int), .int .i64 (s.peer : Int), .int .i64 (s.seen : Int), .int .i64 (s.state : Int), .int .i64 (s.silent : Int), .int .i64 (s.changes : Int)] 30)).alloc (.cells #[.int .i64 0, .int .i64 0, .int .i64 0, .int .i64 0, .int .i64 0, .int .i64 0, .int .i64 0] 30)) ((Below.refl _ _).alloc (Nat.le_refl _) _)
      have T2 := R7.new (w.alloc (.cells #[.int .i64 (s.mine : Int), .int .i64 (s.dead : Int), .int .i64 (s.peer : Int), .int .i64 (s.seen : Int), .int .i64 (s.state : Int), .int .i64 (s.silent : Int), .int .i64 (s.changes : Int)] 30)) (.int .i64 0) (.int .i64 0) (.int .i64 0) (.int .i64 0) (.int .i64 0) (.int .i64 0) (.int .i64 0) 30 (m0 + 1) (by rw [s1, hm])
      have k2 : Below w.heap.size w ((w.alloc (.cells #[.int .i64 (s.mine : Int), .int .i64 (s.dead : Int), .int .i64 (s.peer : Int), .int .i64 (s.seen : Int), .int .i64 (s.state : Int), .int .i64 (s.silent : Int), .int .i64 (s.changes : Int)] 30)).alloc (.cells #[.int .i64 0, .int .i64 0, .int .i64 0, .int .i64 0, .int .i64 0, .int .i64 0, .int .i64 0] 30)) := k1.alloc k1.size _
      have MB := box M2
      have TB := box T2
      have K1 := box k2
      have HM := box hm
      clear M1 M2 T2 k1 k2 s1
      go_enter Try.func16, Try.ntmps16
      go_upto_region 1 with fail
      generalize (w.alloc (.cells #[.int .i64 (s.mine : Int), .int .i64 (s.dead : Int), .int .i64 (s.peer : Int), .int .i64 (s.seen : Int), .int .i64 (s.state : Int), .int .i64 (s.silent : Int), .int .i64 (s.changes : Int)] 30)).alloc (.cells #[.int .i64 0, .int .i64 0, .int .i64 0, .int .i64 0, .int .i64 0, .int .i64 0, .int .i64 0] 30) = w1 at MB TB K1 ⊢
      (try simp only [HM.out])
      clear hm
      obtain ⟨p0, p1, p2, p3, p4, p5, p6, pz⟩ := MB.out
      have hmm : m0 ≠ m0 + 1 := by omega
      replace TB := box (TB.out.same (w' := w1.setCell ⟨m0, 5, none⟩ (.int .i64 ((s.silent : Int) + 1))) (heap_else hmm _))
      replace MB := box (MB.out.set5 (.int .i64 ((s.silent : Int) + 1)))
      replace K1 := box (K1.out.setCell (p := ⟨m0, 5, none⟩) (by rw [HM.out]; exact Nat.le_refl _) (.int .i64 ((s.silent : Int) + 1)))
      go_upto_region 4 with fail
      generalize w1.setCell ⟨m0, 5, none⟩ (.int .i64 ((s.silent : Int) + 1)) = w2 at MB TB K1 ⊢
      clear p0 p1 p2 p3 p4 p5 p6 pz hmm
      have PT := box (TB.out.put (.int .i64 (s.mine : Int)) (.int .i64 (s.dead : Int)) (.int .i64 (s.peer : Int)) (.int .i64 (s.seen : Int)) (.int .i64 (s.state : Int)) (.int .i64 ((s.silent : Int) + 1)) (.int .i64 (s.changes : Int)))
      have KF := box (put7_below K1.out (show w.heap.size ≤ m0 + 1 by rw [HM.out]; omega) (.int .i64 (s.mine : Int)) (.int .i64 (s.dead : Int)) (.int .i64 (s.peer : Int)) (.int .i64 (s.seen : Int)) (.int .i64 (s.state : Int)) (.int .i64 ((s.silent : Int) + 1)) (.int .i64 (s.changes : Int)))
      obtain ⟨p0, p1, p2, p3, p4, p5, p6, pz⟩ := MB.out
      obtain ⟨t0, t1, t2, t3, t4, t5, t6, tz⟩ := TB.out
      go_wp2_with fail
      change bodyPost _ _ _ _ _ (put7 w2 (m0 + 1) (.int .i64 (s.mine : Int)) (.int .i64 (s.dead : Int)) (.int .i64 (s.peer : Int)) (.int .i64 (s.seen : Int)) (.int .i64 (s.state : Int)) (.int .i64 ((s.silent : Int) + 1)) (.int .i64 (s.changes : Int)))
      generalize put7 w2 (m0 + 1) (.int .i64 (s.mine : Int)) (.int .i64 (s.dead : Int)) (.int .i64 (s.peer : Int)) (.int .i64 (s.seen : Int)) (.int .i64 (s.state : Int)) (.int .i64 ((s.silent : Int) + 1)) (.int .i64 (s.changes : Int)) = w9 at PT KF ⊢
      obtain ⟨o0, o1, o2, o3, o4, o5, o6, oz⟩ := PT.out
      refine bodyPost_ret (v := .agg #[.int .i64 (s.mine : Int), .int .i64 (s.dead : Int), .int .i64 (s.peer : Int), .int .i64 (s.seen : Int), .int .i64 (s.state : Int), .int .i64 ((s.silent : Int) + 1), .int .i64 (s.changes : Int)]) (by simp [results, Try.results16, go_sem, o0, o1, o2, o3, o4, o5, o6]) rfl ⟨?_, KF.out⟩
      rfl

set_option maxRecDepth 100000 in
set_option maxHeartbeats 4000000 in
theorem rrecv_any (s : Sv) (hc : s.changes ≤ 1000000) (m y : Int) (w : World) :
    Calls Try.prog 14 #[.agg #[.int .i64 (s.mine : Int), .int .i64 (s.dead : Int), .int .i64 (s.peer : Int), .int .i64 (s.seen : Int), .int .i64 (s.state : Int), .int .i64 (s.silent : Int), .int .i64 (s.changes : Int)], .int .i64 m, .int .i64 y] w fun e w' => e = .returned (svV (s.recvS m y)) ∧ Below w.heap.size w w' := by
  by_cases g1 : m < 1
  · have e2 : s.recvS m y = s := by unfold Sv.recvS; rw [if_pos (.inl g1)]
    rw [e2]
    clear e2
    obtain ⟨m0, hm⟩ : ∃ m0, w.heap.size = m0 := ⟨_, rfl⟩
    have M1 := R7.new w (.int .i64 (s.mine : Int)) (.int .i64 (s.dead : Int)) (.int .i64 (s.peer : Int)) (.int .i64 (s.seen : Int)) (.int .i64 (s.state : Int)) (.int .i64 (s.silent : Int)) (.int .i64 (s.changes : Int)) 30 m0 hm.symm
    have k1 : Below w.heap.size w (w.alloc (.cells #[.int .i64 (s.mine : Int), .int .i64 (s.dead : Int), .int .i64 (s.peer : Int), .int .i64 (s.seen : Int), .int .i64 (s.state : Int), .int .i64 (s.silent : Int), .int .i64 (s.changes : Int)] 30)) := (Below.refl _ _).alloc (Nat.le_refl _) _
    have s1 := size_alloc' w (.cells #[.int .i64 (s.mine : Int), .int .i64 (s.dead : Int), .int .i64 (s.peer : Int), .int .i64 (s.seen : Int), .int .i64 (s.state : Int), .int .i64 (s.silent : Int), .int .i64 (s.changes : Int)] 30)
    have M2 := M1.keep (w' := (w.alloc (.cells #[.int .i64 (s.mine : Int), .int .i64 (s.dead : Int), .int .i64 (s.peer : Int), .int .i64 (s.seen : Int), .int .i64 (s.state : Int), .int .i64 (s.silent : Int), .int .i64 (s.changes : Int)] 30)).alloc (.cells #[.int .i64 0, .int .i64 0, .int .i64 0, .int .i64 0, .int .i64 0, .int .i64 0, .int .i64 0] 30)) ((Below.refl _ _).alloc (Nat.le_refl _) _)
    have T2 := R7.new (w.alloc (.cells #[.int .i64 (s.mine : Int), .int .i64 (s.dead : Int), .int .i64 (s.peer : Int), .int .i64 (s.seen : Int), .int .i64 (s.state : Int), .int .i64 (s.silent : Int), .int .i64 (s.changes : Int)] 30)) (.int .i64 0) (.int .i64 0) (.int .i64 0) (.int .i64 0) (.int .i64 0) (.int .i64 0) (.int .i64 0) 30 (m0 + 1) (by rw [s1, hm])
    have k2 : Below w.heap.size w ((w.alloc (.cells #[.int .i64 (s.mine : Int), .int .i64 (s.dead : Int), .int .i64 (s.peer : Int), .int .i64 (s.seen : Int), .int .i64 (s.state : Int), .int .i64 (s.silent : Int), .int .i64 (s.changes : Int)] 30)).alloc (.cells #[.int .i64 0, .int .i64 0, .int .i64 0, .int .i64 0, .int .i64 0, .int .i64 0, .int .i64 0] 30)) := k1.alloc k1.size _
    have MB := box M2
    have TB := box T2
    have K1 := box k2
    have HM := box hm
    clear M1 M2 T2 k1 k2 s1
    go_enter Try.func14, Try.ntmps14
    go_upto_region 1 with fail
    generalize (w.alloc (.cells #[.int .i64 (s.mine : Int), .int .i64 (s.dead : Int), .int .i64 (s.peer : Int), .int .i64 (s.seen : Int), .int .i64 (s.state : Int), .int .i64 (s.silent : Int), .int .i64 (s.changes : Int)] 30)).alloc (.cells #[.int .i64 0, .int .i64 0, .int .i64 0, .int .i64 0, .int .i64 0, .int .i64 0, .int .i64 0] 30) = w1 at MB TB K1 ⊢
    (try simp only [HM.out])
    clear hm
    have PT := box (TB.out.put (.int .i64 (s.mine : Int)) (.int .i64 (s.dead : Int)) (.int .i64 (s.peer : Int)) (.int .i64 (s.seen : Int)) (.int .i64 (s.state : Int)) (.int .i64 (s.silent : Int)) (.int .i64 (s.changes : Int)))
    have KF := box (put7_below K1.out (show w.heap.size ≤ m0 + 1 by rw [HM.out]; omega) (.int .i64 (s.mine : Int)) (.int .i64 (s.dead : Int)) (.int .i64 (s.peer : Int)) (.int .i64 (s.seen : Int)) (.int .i64 (s.state : Int)) (.int .i64 (s.silent : Int)) (.int .i64 (s.changes : Int)))
    obtain ⟨p0, p1, p2, p3, p4, p5, p6, pz⟩ := MB.out
    obtain ⟨t0, t1, t2, t3, t4, t5, t6, tz⟩ := TB.out
    go_wp2_with fail
    change bodyPost _ _ _ _ _ (put7 w1 (m0 + 1) (.int .i64 (s.mine : Int)) (.int .i64 (s.dead : Int)) (.int .i64 (s.peer : Int)) (.int .i64 (s.seen : Int)) (.int .i64 (s.state : Int)) (.int .i64 (s.silent : Int)) (.int .i64 (s.changes : Int)))
    generalize put7 w1 (m0 + 1) (.int .i64 (s.mine : Int)) (.int .i64 (s.dead : Int)) (.int .i64 (s.peer : Int)) (.int .i64 (s.seen : Int)) (.int .i64 (s.state : Int)) (.int .i64 (s.silent : Int)) (.int .i64 (s.changes : Int)) = w9 at PT KF ⊢
    obtain ⟨o0, o1, o2, o3, o4, o5, o6, oz⟩ := PT.out
    refine bodyPost_ret (v := .agg #[.int .i64 (s.mine : Int), .int .i64 (s.dead : Int), .int .i64 (s.peer : Int), .int .i64 (s.seen : Int), .int .i64 (s.state : Int), .int .i64 (s.silent : Int), .int .i64 (s.changes : Int)]) (by simp [results, Try.results14, go_sem, o0, o1, o2, o3, o4, o5, o6]) rfl ⟨?_, KF.out⟩
    rfl
  by_cases g2 : 1099511627775 < m
  · have e2 : s.recvS m y = s := by unfold Sv.recvS; rw [if_pos (.inr (.inl g2))]
    rw [e2]
    have g3 : 1099511627776 ≤ m := by omega
    clear e2
    obtain ⟨m0, hm⟩ : ∃ m0, w.heap.size = m0 := ⟨_, rfl⟩
    have M1 := R7.new w (.int .i64 (s.mine : Int)) (.int .i64 (s.dead : Int)) (.int .i64 (s.peer : Int)) (.int .i64 (s.seen : Int)) (.int .i64 (s.state : Int)) (.int .i64 (s.silent : Int)) (.int .i64 (s.changes : Int)) 30 m0 hm.symm
    have k1 : Below w.heap.size w (w.alloc (.cells #[.int .i64 (s.mine : Int), .int .i64 (s.dead : Int), .int .i64 (s.peer : Int), .int .i64 (s.seen : Int), .int .i64 (s.state : Int), .int .i64 (s.silent : Int), .int .i64 (s.changes : Int)] 30)) := (Below.refl _ _).alloc (Nat.le_refl _) _
    have s1 := size_alloc' w (.cells #[.int .i64 (s.mine : Int), .int .i64 (s.dead : Int), .int .i64 (s.peer : Int), .int .i64 (s.seen : Int), .int .i64 (s.state : Int), .int .i64 (s.silent : Int), .int .i64 (s.changes : Int)] 30)
    have M2 := M1.keep (w' := (w.alloc (.cells #[.int .i64 (s.mine : Int), .int .i64 (s.dead : Int), .int .i64 (s.peer : Int), .int .i64 (s.seen : Int), .int .i64 (s.state : Int), .int .i64 (s.silent : Int), .int .i64 (s.changes : Int)] 30)).alloc (.cells #[.int .i64 0, .int .i64 0, .int .i64 0, .int .i64 0, .int .i64 0, .int .i64 0, .int .i64 0] 30)) ((Below.refl _ _).alloc (Nat.le_refl _) _)
    have T2 := R7.new (w.alloc (.cells #[.int .i64 (s.mine : Int), .int .i64 (s.dead : Int), .int .i64 (s.peer : Int), .int .i64 (s.seen : Int), .int .i64 (s.state : Int), .int .i64 (s.silent : Int), .int .i64 (s.changes : Int)] 30)) (.int .i64 0) (.int .i64 0) (.int .i64 0) (.int .i64 0) (.int .i64 0) (.int .i64 0) (.int .i64 0) 30 (m0 + 1) (by rw [s1, hm])
    have k2 : Below w.heap.size w ((w.alloc (.cells #[.int .i64 (s.mine : Int), .int .i64 (s.dead : Int), .int .i64 (s.peer : Int), .int .i64 (s.seen : Int), .int .i64 (s.state : Int), .int .i64 (s.silent : Int), .int .i64 (s.changes : Int)] 30)).alloc (.cells #[.int .i64 0, .int .i64 0, .int .i64 0, .int .i64 0, .int .i64 0, .int .i64 0, .int .i64 0] 30)) := k1.alloc k1.size _
    have MB := box M2
    have TB := box T2
    have K1 := box k2
    have HM := box hm
    clear M1 M2 T2 k1 k2 s1
    go_enter Try.func14, Try.ntmps14
    go_upto_region 1 with fail
    generalize (w.alloc (.cells #[.int .i64 (s.mine : Int), .int .i64 (s.dead : Int), .int .i64 (s.peer : Int), .int .i64 (s.seen : Int), .int .i64 (s.state : Int), .int .i64 (s.silent : Int), .int .i64 (s.changes : Int)] 30)).alloc (.cells #[.int .i64 0, .int .i64 0, .int .i64 0, .int .i64 0, .int .i64 0, .int .i64 0, .int .i64 0] 30) = w1 at MB TB K1 ⊢
    (try simp only [HM.out])
    clear hm
    have PT := box (TB.out.put (.int .i64 (s.mine : Int)) (.int .i64 (s.dead : Int)) (.int .i64 (s.peer : Int)) (.int .i64 (s.seen : Int)) (.int .i64 (s.state : Int)) (.int .i64 (s.silent : Int)) (.int .i64 (s.changes : Int)))
    have KF := box (put7_below K1.out (show w.heap.size ≤ m0 + 1 by rw [HM.out]; omega) (.int .i64 (s.mine : Int)) (.int .i64 (s.dead : Int)) (.int .i64 (s.peer : Int)) (.int .i64 (s.seen : Int)) (.int .i64 (s.state : Int)) (.int .i64 (s.silent : Int)) (.int .i64 (s.changes : Int)))
    obtain ⟨p0, p1, p2, p3, p4, p5, p6, pz⟩ := MB.out
    obtain ⟨t0, t1, t2, t3, t4, t5, t6, tz⟩ := TB.out
    go_wp2_with fail
    change bodyPost _ _ _ _ _ (put7 w1 (m0 + 1) (.int .i64 (s.mine : Int)) (.int .i64 (s.dead : Int)) (.int .i64 (s.peer : Int)) (.int .i64 (s.seen : Int)) (.int .i64 (s.state : Int)) (.int .i64 (s.silent : Int)) (.int .i64 (s.changes : Int)))
    generalize put7 w1 (m0 + 1) (.int .i64 (s.mine : Int)) (.int .i64 (s.dead : Int)) (.int .i64 (s.peer : Int)) (.int .i64 (s.seen : Int)) (.int .i64 (s.state : Int)) (.int .i64 (s.silent : Int)) (.int .i64 (s.changes : Int)) = w9 at PT KF ⊢
    obtain ⟨o0, o1, o2, o3, o4, o5, o6, oz⟩ := PT.out
    refine bodyPost_ret (v := .agg #[.int .i64 (s.mine : Int), .int .i64 (s.dead : Int), .int .i64 (s.peer : Int), .int .i64 (s.seen : Int), .int .i64 (s.state : Int), .int .i64 (s.silent : Int), .int .i64 (s.changes : Int)]) (by simp [results, Try.results14, go_sem, o0, o1, o2, o3, o4, o5, o6]) rfl ⟨?_, KF.out⟩
    rfl
  by_cases g3 : m < (s.seen : Int)
  · have e2 : s.recvS m y = s := by unfold Sv.recvS; rw [if_pos (.inr (.inr g3))]
    rw [e2]
    have g4 : m < 1099511627776 := by omega
    clear e2
    obtain ⟨m0, hm⟩ : ∃ m0, w.heap.size = m0 := ⟨_, rfl⟩
    have M1 := R7.new w (.int .i64 (s.mine : Int)) (.int .i64 (s.dead : Int)) (.int .i64 (s.peer : Int)) (.int .i64 (s.seen : Int)) (.int .i64 (s.state : Int)) (.int .i64 (s.silent : Int)) (.int .i64 (s.changes : Int)) 30 m0 hm.symm
    have k1 : Below w.heap.size w (w.alloc (.cells #[.int .i64 (s.mine : Int), .int .i64 (s.dead : Int), .int .i64 (s.peer : Int), .int .i64 (s.seen : Int), .int .i64 (s.state : Int), .int .i64 (s.silent : Int), .int .i64 (s.changes : Int)] 30)) := (Below.refl _ _).alloc (Nat.le_refl _) _
    have s1 := size_alloc' w (.cells #[.int .i64 (s.mine : Int), .int .i64 (s.dead : Int), .int .i64 (s.peer : Int), .int .i64 (s.seen : Int), .int .i64 (s.state : Int), .int .i64 (s.silent : Int), .int .i64 (s.changes : Int)] 30)
    have M2 := M1.keep (w' := (w.alloc (.cells #[.int .i64 (s.mine : Int), .int .i64 (s.dead : Int), .int .i64 (s.peer : Int), .int .i64 (s.seen : Int), .int .i64 (s.state : Int), .int .i64 (s.silent : Int), .int .i64 (s.changes : Int)] 30)).alloc (.cells #[.int .i64 0, .int .i64 0, .int .i64 0, .int .i64 0, .int .i64 0, .int .i64 0, .int .i64 0] 30)) ((Below.refl _ _).alloc (Nat.le_refl _) _)
    have T2 := R7.new (w.alloc (.cells #[.int .i64 (s.mine : Int), .int .i64 (s.dead : Int), .int .i64 (s.peer : Int), .int .i64 (s.seen : Int), .int .i64 (s.state : Int), .int .i64 (s.silent : Int), .int .i64 (s.changes : Int)] 30)) (.int .i64 0) (.int .i64 0) (.int .i64 0) (.int .i64 0) (.int .i64 0) (.int .i64 0) (.int .i64 0) 30 (m0 + 1) (by rw [s1, hm])
    have k2 : Below w.heap.size w ((w.alloc (.cells #[.int .i64 (s.mine : Int), .int .i64 (s.dead : Int), .int .i64 (s.peer : Int), .int .i64 (s.seen : Int), .int .i64 (s.state : Int), .int .i64 (s.silent : Int), .int .i64 (s.changes : Int)] 30)).alloc (.cells #[.int .i64 0, .int .i64 0, .int .i64 0, .int .i64 0, .int .i64 0, .int .i64 0, .int .i64 0] 30)) := k1.alloc k1.size _
    have MB := box M2
    have TB := box T2
    have K1 := box k2
    have HM := box hm
    clear M1 M2 T2 k1 k2 s1
    go_enter Try.func14, Try.ntmps14
    go_upto_region 1 with fail
    generalize (w.alloc (.cells #[.int .i64 (s.mine : Int), .int .i64 (s.dead : Int), .int .i64 (s.peer : Int), .int .i64 (s.seen : Int), .int .i64 (s.state : Int), .int .i64 (s.silent : Int), .int .i64 (s.changes : Int)] 30)).alloc (.cells #[.int .i64 0, .int .i64 0, .int .i64 0, .int .i64 0, .int .i64 0, .int .i64 0, .int .i64 0] 30) = w1 at MB TB K1 ⊢
    (try simp only [HM.out])
    clear hm
    have PT := box (TB.out.put (.int .i64 (s.mine : Int)) (.int .i64 (s.dead : Int)) (.int .i64 (s.peer : Int)) (.int .i64 (s.seen : Int)) (.int .i64 (s.state : Int)) (.int .i64 (s.silent : Int)) (.int .i64 (s.changes : Int)))
    have KF := box (put7_below K1.out (show w.heap.size ≤ m0 + 1 by rw [HM.out]; omega) (.int .i64 (s.mine : Int)) (.int .i64 (s.dead : Int)) (.int .i64 (s.peer : Int)) (.int .i64 (s.seen : Int)) (.int .i64 (s.state : Int)) (.int .i64 (s.silent : Int)) (.int .i64 (s.changes : Int)))
    obtain ⟨p0, p1, p2, p3, p4, p5, p6, pz⟩ := MB.out
    obtain ⟨t0, t1, t2, t3, t4, t5, t6, tz⟩ := TB.out
    go_wp2_with fail
    change bodyPost _ _ _ _ _ (put7 w1 (m0 + 1) (.int .i64 (s.mine : Int)) (.int .i64 (s.dead : Int)) (.int .i64 (s.peer : Int)) (.int .i64 (s.seen : Int)) (.int .i64 (s.state : Int)) (.int .i64 (s.silent : Int)) (.int .i64 (s.changes : Int)))
    generalize put7 w1 (m0 + 1) (.int .i64 (s.mine : Int)) (.int .i64 (s.dead : Int)) (.int .i64 (s.peer : Int)) (.int .i64 (s.seen : Int)) (.int .i64 (s.state : Int)) (.int .i64 (s.silent : Int)) (.int .i64 (s.changes : Int)) = w9 at PT KF ⊢
    obtain ⟨o0, o1, o2, o3, o4, o5, o6, oz⟩ := PT.out
    refine bodyPost_ret (v := .agg #[.int .i64 (s.mine : Int), .int .i64 (s.dead : Int), .int .i64 (s.peer : Int), .int .i64 (s.seen : Int), .int .i64 (s.state : Int), .int .i64 (s.silent : Int), .int .i64 (s.changes : Int)]) (by simp [results, Try.results14, go_sem, o0, o1, o2, o3, o4, o5, o6]) rfl ⟨?_, KF.out⟩
    rfl
  obtain ⟨mn, hmn⟩ : ∃ mn : Nat, (mn : Int) = m := ⟨m.toNat, by omega⟩
  have g4 : m < 1099511627776 := by omega
  have HMN := box hmn
  have ht : m.toNat = mn := by omega
  by_cases hy : y = (s.mine : Int)
  · have e2 : s.recvS m y = Sv.setS ⟨s.mine, s.dead, s.peer, mn, s.state, s.silent, s.changes⟩ 2 mn := by unfold Sv.recvS; rw [if_neg (by omega), if_pos hy, ht]
    rw [e2]
    have hb : (y == (s.mine : Int)) = true := by simp [hy]
    clear e2 hy ht hmn
    obtain ⟨m0, hm⟩ : ∃ m0, w.heap.size = m0 := ⟨_, rfl⟩
    have M1 := R7.new w (.int .i64 (s.mine : Int)) (.int .i64 (s.dead : Int)) (.int .i64 (s.peer : Int)) (.int .i64 (s.seen : Int)) (.int .i64 (s.state : Int)) (.int .i64 (s.silent : Int)) (.int .i64 (s.changes : Int)) 30 m0 hm.symm
    have k1 : Below w.heap.size w (w.alloc (.cells #[.int .i64 (s.mine : Int), .int .i64 (s.dead : Int), .int .i64 (s.peer : Int), .int .i64 (s.seen : Int), .int .i64 (s.state : Int), .int .i64 (s.silent : Int), .int .i64 (s.changes : Int)] 30)) := (Below.refl _ _).alloc (Nat.le_refl _) _
    have s1 := size_alloc' w (.cells #[.int .i64 (s.mine : Int), .int .i64 (s.dead : Int), .int .i64 (s.peer : Int), .int .i64 (s.seen : Int), .int .i64 (s.state : Int), .int .i64 (s.silent : Int), .int .i64 (s.changes : Int)] 30)
    have M2 := M1.keep (w' := (w.alloc (.cells #[.int .i64 (s.mine : Int), .int .i64 (s.dead : Int), .int .i64 (s.peer : Int), .int .i64 (s.seen : Int), .int .i64 (s.state : Int), .int .i64 (s.silent : Int), .int .i64 (s.changes : Int)] 30)).alloc (.cells #[.int .i64 0, .int .i64 0, .int .i64 0, .int .i64 0, .int .i64 0, .int .i64 0, .int .i64 0] 30)) ((Below.refl _ _).alloc (Nat.le_refl _) _)
    have T2 := R7.new (w.alloc (.cells #[.int .i64 (s.mine : Int), .int .i64 (s.dead : Int), .int .i64 (s.peer : Int), .int .i64 (s.seen : Int), .int .i64 (s.state : Int), .int .i64 (s.silent : Int), .int .i64 (s.changes : Int)] 30)) (.int .i64 0) (.int .i64 0) (.int .i64 0) (.int .i64 0) (.int .i64 0) (.int .i64 0) (.int .i64 0) 30 (m0 + 1) (by rw [s1, hm])
    have k2 : Below w.heap.size w ((w.alloc (.cells #[.int .i64 (s.mine : Int), .int .i64 (s.dead : Int), .int .i64 (s.peer : Int), .int .i64 (s.seen : Int), .int .i64 (s.state : Int), .int .i64 (s.silent : Int), .int .i64 (s.changes : Int)] 30)).alloc (.cells #[.int .i64 0, .int .i64 0, .int .i64 0, .int .i64 0, .int .i64 0, .int .i64 0, .int .i64 0] 30)) := k1.alloc k1.size _
    have MB := box M2
    have TB := box T2
    have K1 := box k2
    have HM := box hm
    clear M1 M2 T2 k1 k2 s1
    go_enter Try.func14, Try.ntmps14
    go_upto_region 1 with fail
    generalize (w.alloc (.cells #[.int .i64 (s.mine : Int), .int .i64 (s.dead : Int), .int .i64 (s.peer : Int), .int .i64 (s.seen : Int), .int .i64 (s.state : Int), .int .i64 (s.silent : Int), .int .i64 (s.changes : Int)] 30)).alloc (.cells #[.int .i64 0, .int .i64 0, .int .i64 0, .int .i64 0, .int .i64 0, .int .i64 0, .int .i64 0] 30) = w1 at MB TB K1 ⊢
    (try simp only [HM.out])
    clear hm
    obtain ⟨p0, p1, p2, p3, p4, p5, p6, pz⟩ := MB.out
    have hmm : m0 ≠ m0 + 1 := by omega
    replace TB := box (TB.out.same (w' := w1.setCell ⟨m0, 3, none⟩ (.int .i64 m)) (heap_else hmm _))
    replace MB := box (MB.out.set3 (.int .i64 m))
    replace K1 := box (K1.out.setCell (p := ⟨m0, 3, none⟩) (by rw [HM.out]; exact Nat.le_refl _) (.int .i64 m))
    go_upto_region 4 with fail
    generalize w1.setCell ⟨m0, 3, none⟩ (.int .i64 m) = w2 at MB TB K1 ⊢
    clear p0 p1 p2 p3 p4 p5 p6 pz hmm
    have RS := rset_any ⟨s.mine, s.dead, s.peer, mn, s.state, s.silent, s.changes⟩ (by show s.changes ≤ 1000000; omega) (2) (mn) (2) (m) (by first | rfl | omega) HMN.out.symm w2
    obtain ⟨r, hr⟩ : ∃ r, Sv.setS ⟨s.mine, s.dead, s.peer, mn, s.state, s.silent, s.changes⟩ (2) (mn) = r := ⟨_, rfl⟩
    have HR := box hr
    rw [hr] at RS
    unfold svV at RS
    clear hr
    simp only [HMN.out] at RS
    obtain ⟨p0, p1, p2, p3, p4, p5, p6, pz⟩ := MB.out
    go_wp2_with fail
    refine RS.mono ?_
    rintro e w3 ⟨rfl, b2⟩
    replace MB := box (MB.out.keep b2)
    replace TB := box (TB.out.keep b2)
    replace K1 := box (K1.out.trans (b2.mono K1.out.size))
    clear b2 RS p0 p1 p2 p3 p4 p5 p6 pz
    have PT := box (TB.out.put (.int .i64 (r.mine : Int)) (.int .i64 (r.dead : Int)) (.int .i64 (r.peer : Int)) (.int .i64 (r.seen : Int)) (.int .i64 (r.state : Int)) (.int .i64 (r.silent : Int)) (.int .i64 (r.changes : Int)))
    have KF := box (put7_below K1.out (show w.heap.size ≤ m0 + 1 by rw [HM.out]; omega) (.int .i64 (r.mine : Int)) (.int .i64 (r.dead : Int)) (.int .i64 (r.peer : Int)) (.int .i64 (r.seen : Int)) (.int .i64 (r.state : Int)) (.int .i64 (r.silent : Int)) (.int .i64 (r.changes : Int)))
    obtain ⟨p0, p1, p2, p3, p4, p5, p6, pz⟩ := MB.out
    obtain ⟨t0, t1, t2, t3, t4, t5, t6, tz⟩ := TB.out
    go_wp2_with fail
    change bodyPost _ _ _ _ _ (put7 w3 (m0 + 1) (.int .i64 (r.mine : Int)) (.int .i64 (r.dead : Int)) (.int .i64 (r.peer : Int)) (.int .i64 (r.seen : Int)) (.int .i64 (r.state : Int)) (.int .i64 (r.silent : Int)) (.int .i64 (r.changes : Int)))
    generalize put7 w3 (m0 + 1) (.int .i64 (r.mine : Int)) (.int .i64 (r.dead : Int)) (.int .i64 (r.peer : Int)) (.int .i64 (r.seen : Int)) (.int .i64 (r.state : Int)) (.int .i64 (r.silent : Int)) (.int .i64 (r.changes : Int)) = w9 at PT KF ⊢
    obtain ⟨o0, o1, o2, o3, o4, o5, o6, oz⟩ := PT.out
    refine bodyPost_ret (v := .agg #[.int .i64 (r.mine : Int), .int .i64 (r.dead : Int), .int .i64 (r.peer : Int), .int .i64 (r.seen : Int), .int .i64 (r.state : Int), .int .i64 (r.silent : Int), .int .i64 (r.changes : Int)]) (by simp [results, Try.results14, go_sem, o0, o1, o2, o3, o4, o5, o6]) rfl ⟨?_, KF.out⟩
    rw [← HR.out]; rfl
  · have e2 : s.recvS m y = Sv.setS ⟨s.mine, s.dead, s.peer, mn, s.state, s.silent, s.changes⟩ 1 mn := by unfold Sv.recvS; rw [if_neg (by omega), if_neg hy, ht]
    rw [e2]
    have hb : (y == (s.mine : Int)) = false := by simp [hy]
    clear e2 hy ht hmn
    obtain ⟨m0, hm⟩ : ∃ m0, w.heap.size = m0 := ⟨_, rfl⟩
    have M1 := R7.new w (.int .i64 (s.mine : Int)) (.int .i64 (s.dead : Int)) (.int .i64 (s.peer : Int)) (.int .i64 (s.seen : Int)) (.int .i64 (s.state : Int)) (.int .i64 (s.silent : Int)) (.int .i64 (s.changes : Int)) 30 m0 hm.symm
    have k1 : Below w.heap.size w (w.alloc (.cells #[.int .i64 (s.mine : Int), .int .i64 (s.dead : Int), .int .i64 (s.peer : Int), .int .i64 (s.seen : Int), .int .i64 (s.state : Int), .int .i64 (s.silent : Int), .int .i64 (s.changes : Int)] 30)) := (Below.refl _ _).alloc (Nat.le_refl _) _
    have s1 := size_alloc' w (.cells #[.int .i64 (s.mine : Int), .int .i64 (s.dead : Int), .int .i64 (s.peer : Int), .int .i64 (s.seen : Int), .int .i64 (s.state : Int), .int .i64 (s.silent : Int), .int .i64 (s.changes : Int)] 30)
    have M2 := M1.keep (w' := (w.alloc (.cells #[.int .i64 (s.mine : Int), .int .i64 (s.dead : Int), .int .i64 (s.peer : Int), .int .i64 (s.seen : Int), .int .i64 (s.state : Int), .int .i64 (s.silent : Int), .int .i64 (s.changes : Int)] 30)).alloc (.cells #[.int .i64 0, .int .i64 0, .int .i64 0, .int .i64 0, .int .i64 0, .int .i64 0, .int .i64 0] 30)) ((Below.refl _ _).alloc (Nat.le_refl _) _)
    have T2 := R7.new (w.alloc (.cells #[.int .i64 (s.mine : Int), .int .i64 (s.dead : Int), .int .i64 (s.peer : Int), .int .i64 (s.seen : Int), .int .i64 (s.state : Int), .int .i64 (s.silent : Int), .int .i64 (s.changes : Int)] 30)) (.int .i64 0) (.int .i64 0) (.int .i64 0) (.int .i64 0) (.int .i64 0) (.int .i64 0) (.int .i64 0) 30 (m0 + 1) (by rw [s1, hm])
    have k2 : Below w.heap.size w ((w.alloc (.cells #[.int .i64 (s.mine : Int), .int .i64 (s.dead : Int), .int .i64 (s.peer : Int), .int .i64 (s.seen : Int), .int .i64 (s.state : Int), .int .i64 (s.silent : Int), .int .i64 (s.changes : Int)] 30)).alloc (.cells #[.int .i64 0, .int .i64 0, .int .i64 0, .int .i64 0, .int .i64 0, .int .i64 0, .int .i64 0] 30)) := k1.alloc k1.size _
    have MB := box M2
    have TB := box T2
    have K1 := box k2
    have HM := box hm
    clear M1 M2 T2 k1 k2 s1
    go_enter Try.func14, Try.ntmps14
    go_upto_region 1 with fail
    generalize (w.alloc (.cells #[.int .i64 (s.mine : Int), .int .i64 (s.dead : Int), .int .i64 (s.peer : Int), .int .i64 (s.seen : Int), .int .i64 (s.state : Int), .int .i64 (s.silent : Int), .int .i64 (s.changes : Int)] 30)).alloc (.cells #[.int .i64 0, .int .i64 0, .int .i64 0, .int .i64 0, .int .i64 0, .int .i64 0, .int .i64 0] 30) = w1 at MB TB K1 ⊢
    (try simp only [HM.out])
    clear hm
    obtain ⟨p0, p1, p2, p3, p4, p5, p6, pz⟩ := MB.out
    have hmm : m0 ≠ m0 + 1 := by omega
    replace TB := box (TB.out.same (w' := w1.setCell ⟨m0, 3, none⟩ (.int .i64 m)) (heap_else hmm _))
    replace MB := box (MB.out.set3 (.int .i64 m))
    replace K1 := box (K1.out.setCell (p := ⟨m0, 3, none⟩) (by rw [HM.out]; exact Nat.le_refl _) (.int .i64 m))
    go_upto_region 4 with fail
    generalize w1.setCell ⟨m0, 3, none⟩ (.int .i64 m) = w2 at MB TB K1 ⊢
    clear p0 p1 p2 p3 p4 p5 p6 pz hmm
    have RS := rset_any ⟨s.mine, s.dead, s.peer, mn, s.state, s.silent, s.changes⟩ (by show s.changes ≤ 1000000; omega) (1) (mn) (1) (m) (by first | rfl | omega) HMN.out.symm w2
    obtain ⟨r, hr⟩ : ∃ r, Sv.setS ⟨s.mine, s.dead, s.peer, mn, s.state, s.silent, s.changes⟩ (1) (mn) = r := ⟨_, rfl⟩
    have HR := box hr
    rw [hr] at RS
    unfold svV at RS
    clear hr
    simp only [HMN.out] at RS
    obtain ⟨p0, p1, p2, p3, p4, p5, p6, pz⟩ := MB.out
    go_wp2_with fail
    refine RS.mono ?_
    rintro e w3 ⟨rfl, b2⟩
    replace MB := box (MB.out.keep b2)
    replace TB := box (TB.out.keep b2)
    replace K1 := box (K1.out.trans (b2.mono K1.out.size))
    clear b2 RS p0 p1 p2 p3 p4 p5 p6 pz
    have PT := box (TB.out.put (.int .i64 (r.mine : Int)) (.int .i64 (r.dead : Int)) (.int .i64 (r.peer : Int)) (.int .i64 (r.seen : Int)) (.int .i64 (r.state : Int)) (.int .i64 (r.silent : Int)) (.int .i64 (r.changes : Int)))
    have KF := box (put7_below K1.out (show w.heap.size ≤ m0 + 1 by rw [HM.out]; omega) (.int .i64 (r.mine : Int)) (.int .i64 (r.dead : Int)) (.int .i64 (r.peer : Int)) (.int .i64 (r.seen : Int)) (.int .i64 (r.state : Int)) (.int .i64 (r.silent : Int)) (.int .i64 (r.changes : Int)))
    obtain ⟨p0, p1, p2, p3, p4, p5, p6, pz⟩ := MB.out
    obtain ⟨t0, t1, t2, t3, t4, t5, t6, tz⟩ := TB.out
    go_wp2_with fail
    change bodyPost _ _ _ _ _ (put7 w3 (m0 + 1) (.int .i64 (r.mine : Int)) (.int .i64 (r.dead : Int)) (.int .i64 (r.peer : Int)) (.int .i64 (r.seen : Int)) (.int .i64 (r.state : Int)) (.int .i64 (r.silent : Int)) (.int .i64 (r.changes : Int)))
    generalize put7 w3 (m0 + 1) (.int .i64 (r.mine : Int)) (.int .i64 (r.dead : Int)) (.int .i64 (r.peer : Int)) (.int .i64 (r.seen : Int)) (.int .i64 (r.state : Int)) (.int .i64 (r.silent : Int)) (.int .i64 (r.changes : Int)) = w9 at PT KF ⊢
    obtain ⟨o0, o1, o2, o3, o4, o5, o6, oz⟩ := PT.out
    refine bodyPost_ret (v := .agg #[.int .i64 (r.mine : Int), .int .i64 (r.dead : Int), .int .i64 (r.peer : Int), .int .i64 (r.seen : Int), .int .i64 (r.state : Int), .int .i64 (r.silent : Int), .int .i64 (r.changes : Int)]) (by simp [results, Try.results14, go_sem, o0, o1, o2, o3, o4, o5, o6]) rfl ⟨?_, KF.out⟩
    rw [← HR.out]; rfl

def Val (i d : Int) : Prop := 1 ≤ i ∧ i < 1099511627776 ∧ 1 ≤ d ∧ d ≤ 1000
instance (i d : Int) : Decidable (Val i d) := by unfold Val; infer_instance
set_option maxHeartbeats 2000000 in
theorem valid_any (i d : Int) (w : World) :
    Calls Try.prog 13 #[.int .i64 i, .int .i64 d] w fun e w' => e = .returned (.bool (decide (Val i d))) ∧ w = w' := by
  by_cases g0 : 1 ≤ i
  case neg =>
    have hF := box (show ¬ Val i d from fun h => g0 (by unfold Val at h; omega))
    go_enter Try.func13, Try.ntmps13
    go_wp2_with fail
    go_ret
    exact ⟨by rw [decide_eq_false hF.out]; first | rfl | exact congrArg (fun b => Ending.returned (Value.bool b)) (show decide (d ≤ 1000) = false from decide_eq_false (by omega)), rfl⟩
  by_cases g1 : i < 1099511627776
  case neg =>
    have hF := box (show ¬ Val i d from fun h => g1 (by unfold Val at h; omega))
    go_enter Try.func13, Try.ntmps13
    go_wp2_with fail
    go_ret
    exact ⟨by rw [decide_eq_false hF.out]; first | rfl | exact congrArg (fun b => Ending.returned (Value.bool b)) (show decide (d ≤ 1000) = false from decide_eq_false (by omega)), rfl⟩
  by_cases g2 : 1 ≤ d
  case neg =>
    have hF := box (show ¬ Val i d from fun h => g2 (by unfold Val at h; omega))
    go_enter Try.func13, Try.ntmps13
    go_wp2_with fail
    go_ret
    exact ⟨by rw [decide_eq_false hF.out]; first | rfl | exact congrArg (fun b => Ending.returned (Value.bool b)) (show decide (d ≤ 1000) = false from decide_eq_false (by omega)), rfl⟩
  by_cases g3 : d ≤ 1000
  case neg =>
    have hF := box (show ¬ Val i d from fun h => g3 (by unfold Val at h; omega))
    go_enter Try.func13, Try.ntmps13
    go_wp2_with fail
    go_ret
    exact ⟨by rw [decide_eq_false hF.out]; first | rfl | exact congrArg (fun b => Ending.returned (Value.bool b)) (show decide (d ≤ 1000) = false from decide_eq_false (by omega)), rfl⟩
  have hF := box (show Val i d from ⟨g0, g1, g2, g3⟩)
  go_enter Try.func13, Try.ntmps13
  go_wp2_with fail
  go_ret
  exact ⟨by rw [decide_eq_true hF.out]; first | rfl | exact congrArg (fun b => Ending.returned (Value.bool b)) (show decide (d ≤ 1000) = true from decide_eq_true (by omega)), rfl⟩
end Go.Proofs.Ytflaclocakbkgaa
