/- The reference's functions. -/
import Derived.Test.YtoolphpideicoaaCreH
import Derived.Deep.DeepCutAuto
namespace Go.Proofs.Ytoolphpideicoaa
open Go.RowKit

/-- 2 cells of a block. -/
structure R2 (w : World) (g : Nat) (y0 y1 : Value) : Prop where
  q0 : w.cell? ⟨g, 0, none⟩ = some y0
  q1 : w.cell? ⟨g, 1, none⟩ = some y1
  z : ∀ j, w.frozen? ⟨g, j, none⟩ = false
theorem R2.lt {w : World} {g : Nat} {y0 y1 : Value} (h : R2 w g y0 y1) : g < w.heap.size := World.block_lt_of_cell? w ⟨g, 0, none⟩ h.q0
theorem R2.same {w w' : World} {g : Nat} {y0 y1 : Value} (h : R2 w g y0 y1) (e : w'.heap[g]? = w.heap[g]?) : R2 w' g y0 y1 :=
  ⟨(World.cell?_of_block (a := ⟨g, 0, none⟩) e).trans h.q0, (World.cell?_of_block (a := ⟨g, 1, none⟩) e).trans h.q1, fun j => (World.frozen?_of_block (a := ⟨g, j, none⟩) e).trans (h.z j)⟩
theorem R2.keep {w w' : World} {g : Nat} {y0 y1 : Value} (h : R2 w g y0 y1) (hb : Below w.heap.size w w') : R2 w' g y0 y1 := h.same (hb.block g h.lt)
theorem R2.new (w : World) (y0 y1 : Value) (t : TypeId) (g : Nat) (hg : g = w.heap.size) : R2 (w.alloc (.cells #[y0, y1] t)) g y0 y1 := by
  subst hg
  have q := World.cell?_alloc_mark w #[y0, y1] t (0, 0)
  exact ⟨q 0, q 1, unfrozen w _ t⟩
theorem R2.set0 {w : World} {g : Nat} {y0 y1 : Value} (h : R2 w g y0 y1) (u : Value) : R2 (w.setCell ⟨g, 0, none⟩ u) g u y1 :=
  ⟨cell_put h.q0 _, cell_else (by decide) h.q1 _, fun j => by rw [World.frozen?_setCell]; exact h.z j⟩
theorem R2.set1 {w : World} {g : Nat} {y0 y1 : Value} (h : R2 w g y0 y1) (u : Value) : R2 (w.setCell ⟨g, 1, none⟩ u) g y0 u :=
  ⟨cell_else (by decide) h.q0 _, cell_put h.q1 _, fun j => by rw [World.frozen?_setCell]; exact h.z j⟩
def put2 (w : World) (g : Nat) (u0 u1 : Value) : World := (World.setCell (World.setCell w ⟨g, 0, none⟩ u0) ⟨g, 1, none⟩ u1)
theorem R2.put {w : World} {g : Nat} {y0 y1 : Value} (h : R2 w g y0 y1) (u0 u1 : Value) : R2 (put2 w g u0 u1) g u0 u1 := (R2.set1 (R2.set0 h u0) u1)
theorem put2_below {B : Nat} {w0 w : World} {g : Nat} (hb : Below B w0 w) (hg : B ≤ g) (u0 u1 : Value) : Below B w0 (put2 w g u0 u1) := (Below.setCell (p := ⟨g, 1, none⟩) (Below.setCell (p := ⟨g, 0, none⟩) hb hg u0) hg u1)
/-- 3 cells of a block. -/
structure R3 (w : World) (g : Nat) (y0 y1 y2 : Value) : Prop where
  q0 : w.cell? ⟨g, 0, none⟩ = some y0
  q1 : w.cell? ⟨g, 1, none⟩ = some y1
  q2 : w.cell? ⟨g, 2, none⟩ = some y2
  z : ∀ j, w.frozen? ⟨g, j, none⟩ = false
theorem R3.lt {w : World} {g : Nat} {y0 y1 y2 : Value} (h : R3 w g y0 y1 y2) : g < w.heap.size := World.block_lt_of_cell? w ⟨g, 0, none⟩ h.q0
theorem R3.same {w w' : World} {g : Nat} {y0 y1 y2 : Value} (h : R3 w g y0 y1 y2) (e : w'.heap[g]? = w.heap[g]?) : R3 w' g y0 y1 y2 :=
  ⟨(World.cell?_of_block (a := ⟨g, 0, none⟩) e).trans h.q0, (World.cell?_of_block (a := ⟨g, 1, none⟩) e).trans h.q1, (World.cell?_of_block (a := ⟨g, 2, none⟩) e).trans h.q2, fun j => (World.frozen?_of_block (a := ⟨g, j, none⟩) e).trans (h.z j)⟩
theorem R3.keep {w w' : World} {g : Nat} {y0 y1 y2 : Value} (h : R3 w g y0 y1 y2) (hb : Below w.heap.size w w') : R3 w' g y0 y1 y2 := h.same (hb.block g h.lt)
theorem R3.new (w : World) (y0 y1 y2 : Value) (t : TypeId) (g : Nat) (hg : g = w.heap.size) : R3 (w.alloc (.cells #[y0, y1, y2] t)) g y0 y1 y2 := by
  subst hg
  have q := World.cell?_alloc_mark w #[y0, y1, y2] t (0, 0)
  exact ⟨q 0, q 1, q 2, unfrozen w _ t⟩
theorem R3.set0 {w : World} {g : Nat} {y0 y1 y2 : Value} (h : R3 w g y0 y1 y2) (u : Value) : R3 (w.setCell ⟨g, 0, none⟩ u) g u y1 y2 :=
  ⟨cell_put h.q0 _, cell_else (by decide) h.q1 _, cell_else (by decide) h.q2 _, fun j => by rw [World.frozen?_setCell]; exact h.z j⟩
theorem R3.set1 {w : World} {g : Nat} {y0 y1 y2 : Value} (h : R3 w g y0 y1 y2) (u : Value) : R3 (w.setCell ⟨g, 1, none⟩ u) g y0 u y2 :=
  ⟨cell_else (by decide) h.q0 _, cell_put h.q1 _, cell_else (by decide) h.q2 _, fun j => by rw [World.frozen?_setCell]; exact h.z j⟩
theorem R3.set2 {w : World} {g : Nat} {y0 y1 y2 : Value} (h : R3 w g y0 y1 y2) (u : Value) : R3 (w.setCell ⟨g, 2, none⟩ u) g y0 y1 u :=
  ⟨cell_else (by decide) h.q0 _, cell_else (by decide) h.q1 _, cell_put h.q2 _, fun j => by rw [World.frozen?_setCell]; exact h.z j⟩
def put3 (w : World) (g : Nat) (u0 u1 u2 : Value) : World := (World.setCell (World.setCell (World.setCell w ⟨g, 0, none⟩ u0) ⟨g, 1, none⟩ u1) ⟨g, 2, none⟩ u2)
theorem R3.put {w : World} {g : Nat} {y0 y1 y2 : Value} (h : R3 w g y0 y1 y2) (u0 u1 u2 : Value) : R3 (put3 w g u0 u1 u2) g u0 u1 u2 := (R3.set2 (R3.set1 (R3.set0 h u0) u1) u2)
theorem put3_below {B : Nat} {w0 w : World} {g : Nat} (hb : Below B w0 w) (hg : B ≤ g) (u0 u1 u2 : Value) : Below B w0 (put3 w g u0 u1 u2) := (Below.setCell (p := ⟨g, 2, none⟩) (Below.setCell (p := ⟨g, 1, none⟩) (Below.setCell (p := ⟨g, 0, none⟩) hb hg u0) hg u1) hg u2)

def gcV (c : Gc) : Value := .agg #[.int .i64 c.r, .int .i64 c.v, .int .i64 c.f]
def tcV (c : Tc) : Value := .agg #[.int .i64 c.s, .int .i64 c.l]
set_option maxRecDepth 100000 in
set_option maxHeartbeats 2000000 in
theorem rrecv_any (c : Gc) (ok : c.Ok) (hs : c.r + c.f ≤ 1000000) (w : World) :
    Calls Try.prog 24 #[.agg #[.int .i64 (c.r : Int), .int .i64 (c.v : Int), .int .i64 (c.f : Int)]] w fun e w' => e = .returned (.tuple #[gcV c.recvC, .int .i64 c.recvE]) ∧ Below w.heap.size w w' := by
  have lc := lim_small hs
  obtain ⟨a1, a2, a3, a4, a5⟩ := ok
  by_cases hl : c.v - c.f = c.r
  · have e1 : c.recvE = 5 := if_pos (by omega)
    have e2 : c.recvC = c := if_pos (by omega)
    have hd : ((c.v : Int) - (c.f : Int)) = (c.r : Int) := by omega
    rw [e1, e2]
    clear e1 e2 lc
    obtain ⟨m, hm⟩ : ∃ m, w.heap.size = m := ⟨_, rfl⟩
    have M1 := R3.new w (.int .i64 (c.r : Int)) (.int .i64 (c.v : Int)) (.int .i64 (c.f : Int)) 41 m hm.symm
    have k1 : Below w.heap.size w (w.alloc (.cells #[.int .i64 (c.r : Int), .int .i64 (c.v : Int), .int .i64 (c.f : Int)] 41)) := (Below.refl _ _).alloc (Nat.le_refl _) _
    have s1 := size_alloc' w (.cells #[.int .i64 (c.r : Int), .int .i64 (c.v : Int), .int .i64 (c.f : Int)] 41)
    have M2 := M1.keep (w' := (w.alloc (.cells #[.int .i64 (c.r : Int), .int .i64 (c.v : Int), .int .i64 (c.f : Int)] 41)).alloc (.cells #[.int .i64 0, .int .i64 0, .int .i64 0] 41)) ((Below.refl _ _).alloc (Nat.le_refl _) _)
    have T2 := R3.new (w.alloc (.cells #[.int .i64 (c.r : Int), .int .i64 (c.v : Int), .int .i64 (c.f : Int)] 41)) (.int .i64 0) (.int .i64 0) (.int .i64 0) 41 (m + 1) (by rw [s1, hm])
    have k2 : Below w.heap.size w ((w.alloc (.cells #[.int .i64 (c.r : Int), .int .i64 (c.v : Int), .int .i64 (c.f : Int)] 41)).alloc (.cells #[.int .i64 0, .int .i64 0, .int .i64 0] 41)) := k1.alloc k1.size _
    have MB := box M2
    have TB := box T2
    have K1 := box k2
    have HM := box hm
    clear M1 M2 T2 k1 k2 s1
    go_enter Try.func24, Try.ntmps24
    go_upto_region 1 with fail
    generalize (w.alloc (.cells #[.int .i64 (c.r : Int), .int .i64 (c.v : Int), .int .i64 (c.f : Int)] 41)).alloc (.cells #[.int .i64 0, .int .i64 0, .int .i64 0] 41) = w1 at MB TB K1 ⊢
    (try simp only [HM.out])
    clear hm
    have PT := box (TB.out.put (.int .i64 (c.r : Int)) (.int .i64 (c.v : Int)) (.int .i64 (c.f : Int)))
    have KF := box (put3_below K1.out (show w.heap.size ≤ m + 1 by rw [HM.out]; omega) (.int .i64 (c.r : Int)) (.int .i64 (c.v : Int)) (.int .i64 (c.f : Int)))
    obtain ⟨p0, p1, p2, pz⟩ := MB.out
    obtain ⟨t0, t1, t2, tz⟩ := TB.out
    go_wp2_with fail
    change bodyPost _ _ _ _ _ (put3 w1 (m + 1) (.int .i64 (c.r : Int)) (.int .i64 (c.v : Int)) (.int .i64 (c.f : Int)))
    generalize put3 w1 (m + 1) (.int .i64 (c.r : Int)) (.int .i64 (c.v : Int)) (.int .i64 (c.f : Int)) = w9 at PT KF ⊢
    obtain ⟨o0, o1, o2, oz⟩ := PT.out
    refine bodyPost_ret (v := .tuple #[.agg #[.int .i64 (c.r : Int), .int .i64 (c.v : Int), .int .i64 (c.f : Int)], .int .i64 5]) (by simp [results, Try.results24, go_sem, o0, o1, o2]) rfl ⟨?_, KF.out⟩
    rfl
  · have e1 : c.recvE = 0 := if_neg (by omega)
    have e2 : c.recvC = ⟨c.r, c.v + 1, c.f⟩ := if_neg (by omega)
    have hd : ¬ ((c.v : Int) - (c.f : Int)) = (c.r : Int) := by omega
    rw [e1, e2]
    clear e1 e2 lc
    obtain ⟨m, hm⟩ : ∃ m, w.heap.size = m := ⟨_, rfl⟩
    have M1 := R3.new w (.int .i64 (c.r : Int)) (.int .i64 (c.v : Int)) (.int .i64 (c.f : Int)) 41 m hm.symm
    have k1 : Below w.heap.size w (w.alloc (.cells #[.int .i64 (c.r : Int), .int .i64 (c.v : Int), .int .i64 (c.f : Int)] 41)) := (Below.refl _ _).alloc (Nat.le_refl _) _
    have s1 := size_alloc' w (.cells #[.int .i64 (c.r : Int), .int .i64 (c.v : Int), .int .i64 (c.f : Int)] 41)
    have M2 := M1.keep (w' := (w.alloc (.cells #[.int .i64 (c.r : Int), .int .i64 (c.v : Int), .int .i64 (c.f : Int)] 41)).alloc (.cells #[.int .i64 0, .int .i64 0, .int .i64 0] 41)) ((Below.refl _ _).alloc (Nat.le_refl _) _)
    have T2 := R3.new (w.alloc (.cells #[.int .i64 (c.r : Int), .int .i64 (c.v : Int), .int .i64 (c.f : Int)] 41)) (.int .i64 0) (.int .i64 0) (.int .i64 0) 41 (m + 1) (by rw [s1, hm])
    have k2 : Below w.heap.size w ((w.alloc (.cells #[.int .i64 (c.r : Int), .int .i64 (c.v : Int), .int .i64 (c.f : Int)] 41)).alloc (.cells #[.int .i64 0, .int .i64 0, .int .i64 0] 41)) := k1.alloc k1.size _
    have MB := box M2
    have TB := box T2
    have K1 := box k2
    have HM := box hm
    clear M1 M2 T2 k1 k2 s1
    go_enter Try.func24, Try.ntmps24
    go_upto_region 1 with fail
    generalize (w.alloc (.cells #[.int .i64 (c.r : Int), .int .i64 (c.v : Int), .int .i64 (c.f : Int)] 41)).alloc (.cells #[.int .i64 0, .int .i64 0, .int .i64 0] 41) = w1 at MB TB K1 ⊢
    (try simp only [HM.out])
    clear hm
    obtain ⟨p0, p1, p2, pz⟩ := MB.out
    have hmm : m ≠ m + 1 := by omega
    replace TB := box (TB.out.same (w' := w1.setCell ⟨m, 1, none⟩ (.int .i64 ((c.v : Int) + 1))) (heap_else hmm _))
    replace MB := box (MB.out.set1 (.int .i64 ((c.v : Int) + 1)))
    replace K1 := box (K1.out.setCell (p := ⟨m, 1, none⟩) (by rw [HM.out]; exact Nat.le_refl _) (.int .i64 ((c.v : Int) + 1)))
    go_upto_region 4 with fail
    generalize w1.setCell ⟨m, 1, none⟩ (.int .i64 ((c.v : Int) + 1)) = w2 at MB TB K1 ⊢
    clear p0 p1 p2 pz hmm
    have PT := box (TB.out.put (.int .i64 (c.r : Int)) (.int .i64 ((c.v : Int) + 1)) (.int .i64 (c.f : Int)))
    have KF := box (put3_below K1.out (show w.heap.size ≤ m + 1 by rw [HM.out]; omega) (.int .i64 (c.r : Int)) (.int .i64 ((c.v : Int) + 1)) (.int .i64 (c.f : Int)))
    obtain ⟨p0, p1, p2, pz⟩ := MB.out
    obtain ⟨t0, t1, t2, tz⟩ := TB.out
    go_wp2_with fail
    change bodyPost _ _ _ _ _ (put3 w2 (m + 1) (.int .i64 (c.r : Int)) (.int .i64 ((c.v : Int) + 1)) (.int .i64 (c.f : Int)))
    generalize put3 w2 (m + 1) (.int .i64 (c.r : Int)) (.int .i64 ((c.v : Int) + 1)) (.int .i64 (c.f : Int)) = w9 at PT KF ⊢
    obtain ⟨o0, o1, o2, oz⟩ := PT.out
    refine bodyPost_ret (v := .tuple #[.agg #[.int .i64 (c.r : Int), .int .i64 ((c.v : Int) + 1), .int .i64 (c.f : Int)], .int .i64 0]) (by simp [results, Try.results24, go_sem, o0, o1, o2]) rfl ⟨?_, KF.out⟩
    rfl
set_option maxRecDepth 100000 in
set_option maxHeartbeats 2000000 in
theorem rfree_any (c : Gc) (ok : c.Ok) (hs : c.r + c.f ≤ 1000000) (w : World) :
    Calls Try.prog 25 #[.agg #[.int .i64 (c.r : Int), .int .i64 (c.v : Int), .int .i64 (c.f : Int)]] w fun e w' => e = .returned (.tuple #[gcV c.freeC, .int .i64 c.freeE]) ∧ Below w.heap.size w w' := by
  have lc := lim_small hs
  obtain ⟨a1, a2, a3, a4, a5⟩ := ok
  by_cases hl : c.v = c.f
  · have e1 : c.freeE = 7 := if_pos hl
    have e2 : c.freeC = c := if_pos hl
    rw [e1, e2]
    have HL := box hl
    rw [hl]
    rw [hl] at a3 a4 a5
    clear e1 e2 lc hl
    obtain ⟨m, hm⟩ : ∃ m, w.heap.size = m := ⟨_, rfl⟩
    have M1 := R3.new w (.int .i64 (c.r : Int)) (.int .i64 (c.f : Int)) (.int .i64 (c.f : Int)) 41 m hm.symm
    have k1 : Below w.heap.size w (w.alloc (.cells #[.int .i64 (c.r : Int), .int .i64 (c.f : Int), .int .i64 (c.f : Int)] 41)) := (Below.refl _ _).alloc (Nat.le_refl _) _
    have s1 := size_alloc' w (.cells #[.int .i64 (c.r : Int), .int .i64 (c.f : Int), .int .i64 (c.f : Int)] 41)
    have M2 := M1.keep (w' := (w.alloc (.cells #[.int .i64 (c.r : Int), .int .i64 (c.f : Int), .int .i64 (c.f : Int)] 41)).alloc (.cells #[.int .i64 0, .int .i64 0, .int .i64 0] 41)) ((Below.refl _ _).alloc (Nat.le_refl _) _)
    have T2 := R3.new (w.alloc (.cells #[.int .i64 (c.r : Int), .int .i64 (c.f : Int), .int .i64 (c.f : Int)] 41)) (.int .i64 0) (.int .i64 0) (.int .i64 0) 41 (m + 1) (by rw [s1, hm])
    have k2 : Below w.heap.size w ((w.alloc (.cells #[.int .i64 (c.r : Int), .int .i64 (c.f : Int), .int .i64 (c.f : Int)] 41)).alloc (.cells #[.int .i64 0, .int .i64 0, .int .i64 0] 41)) := k1.alloc k1.size _
    have MB := box M2
    have TB := box T2
    have K1 := box k2
    have HM := box hm
    clear M1 M2 T2 k1 k2 s1
    go_enter Try.func25, Try.ntmps25
    go_upto_region 1 with fail
    generalize (w.alloc (.cells #[.int .i64 (c.r : Int), .int .i64 (c.f : Int), .int .i64 (c.f : Int)] 41)).alloc (.cells #[.int .i64 0, .int .i64 0, .int .i64 0] 41) = w1 at MB TB K1 ⊢
    (try simp only [HM.out])
    clear hm
    have PT := box (TB.out.put (.int .i64 (c.r : Int)) (.int .i64 (c.f : Int)) (.int .i64 (c.f : Int)))
    have KF := box (put3_below K1.out (show w.heap.size ≤ m + 1 by rw [HM.out]; omega) (.int .i64 (c.r : Int)) (.int .i64 (c.f : Int)) (.int .i64 (c.f : Int)))
    obtain ⟨p0, p1, p2, pz⟩ := MB.out
    obtain ⟨t0, t1, t2, tz⟩ := TB.out
    go_wp2_with fail
    change bodyPost _ _ _ _ _ (put3 w1 (m + 1) (.int .i64 (c.r : Int)) (.int .i64 (c.f : Int)) (.int .i64 (c.f : Int)))
    generalize put3 w1 (m + 1) (.int .i64 (c.r : Int)) (.int .i64 (c.f : Int)) (.int .i64 (c.f : Int)) = w9 at PT KF ⊢
    obtain ⟨o0, o1, o2, oz⟩ := PT.out
    refine bodyPost_ret (v := .tuple #[.agg #[.int .i64 (c.r : Int), .int .i64 (c.f : Int), .int .i64 (c.f : Int)], .int .i64 7]) (by simp [results, Try.results25, go_sem, o0, o1, o2]) rfl ⟨?_, KF.out⟩
    unfold gcV; rw [HL.out]
  · have e1 : c.freeE = 0 := if_neg hl
    have e2 : c.freeC = ⟨c.r, c.v, c.f + 1⟩ := if_neg hl
    rw [e1, e2]
    clear e1 e2 lc
    obtain ⟨m, hm⟩ : ∃ m, w.heap.size = m := ⟨_, rfl⟩
    have M1 := R3.new w (.int .i64 (c.r : Int)) (.int .i64 (c.v : Int)) (.int .i64 (c.f : Int)) 41 m hm.symm
    have k1 : Below w.heap.size w (w.alloc (.cells #[.int .i64 (c.r : Int), .int .i64 (c.v : Int), .int .i64 (c.f : Int)] 41)) := (Below.refl _ _).alloc (Nat.le_refl _) _
    have s1 := size_alloc' w (.cells #[.int .i64 (c.r : Int), .int .i64 (c.v : Int), .int .i64 (c.f : Int)] 41)
    have M2 := M1.keep (w' := (w.alloc (.cells #[.int .i64 (c.r : Int), .int .i64 (c.v : Int), .int .i64 (c.f : Int)] 41)).alloc (.cells #[.int .i64 0, .int .i64 0, .int .i64 0] 41)) ((Below.refl _ _).alloc (Nat.le_refl _) _)
    have T2 := R3.new (w.alloc (.cells #[.int .i64 (c.r : Int), .int .i64 (c.v : Int), .int .i64 (c.f : Int)] 41)) (.int .i64 0) (.int .i64 0) (.int .i64 0) 41 (m + 1) (by rw [s1, hm])
    have k2 : Below w.heap.size w ((w.alloc (.cells #[.int .i64 (c.r : Int), .int .i64 (c.v : Int), .int .i64 (c.f : Int)] 41)).alloc (.cells #[.int .i64 0, .int .i64 0, .int .i64 0] 41)) := k1.alloc k1.size _
    have MB := box M2
    have TB := box T2
    have K1 := box k2
    have HM := box hm
    clear M1 M2 T2 k1 k2 s1
    go_enter Try.func25, Try.ntmps25
    go_upto_region 1 with fail
    generalize (w.alloc (.cells #[.int .i64 (c.r : Int), .int .i64 (c.v : Int), .int .i64 (c.f : Int)] 41)).alloc (.cells #[.int .i64 0, .int .i64 0, .int .i64 0] 41) = w1 at MB TB K1 ⊢
    (try simp only [HM.out])
    clear hm
    obtain ⟨p0, p1, p2, pz⟩ := MB.out
    have hmm : m ≠ m + 1 := by omega
    replace TB := box (TB.out.same (w' := w1.setCell ⟨m, 2, none⟩ (.int .i64 ((c.f : Int) + 1))) (heap_else hmm _))
    replace MB := box (MB.out.set2 (.int .i64 ((c.f : Int) + 1)))
    replace K1 := box (K1.out.setCell (p := ⟨m, 2, none⟩) (by rw [HM.out]; exact Nat.le_refl _) (.int .i64 ((c.f : Int) + 1)))
    go_upto_region 4 with fail
    generalize w1.setCell ⟨m, 2, none⟩ (.int .i64 ((c.f : Int) + 1)) = w2 at MB TB K1 ⊢
    clear p0 p1 p2 pz hmm
    have PT := box (TB.out.put (.int .i64 (c.r : Int)) (.int .i64 (c.v : Int)) (.int .i64 ((c.f : Int) + 1)))
    have KF := box (put3_below K1.out (show w.heap.size ≤ m + 1 by rw [HM.out]; omega) (.int .i64 (c.r : Int)) (.int .i64 (c.v : Int)) (.int .i64 ((c.f : Int) + 1)))
    obtain ⟨p0, p1, p2, pz⟩ := MB.out
    obtain ⟨t0, t1, t2, tz⟩ := TB.out
    go_wp2_with fail
    change bodyPost _ _ _ _ _ (put3 w2 (m + 1) (.int .i64 (c.r : Int)) (.int .i64 (c.v : Int)) (.int .i64 ((c.f : Int) + 1)))
    generalize put3 w2 (m + 1) (.int .i64 (c.r : Int)) (.int .i64 (c.v : Int)) (.int .i64 ((c.f : Int) + 1)) = w9 at PT KF ⊢
    obtain ⟨o0, o1, o2, oz⟩ := PT.out
    refine bodyPost_ret (v := .tuple #[.agg #[.int .i64 (c.r : Int), .int .i64 (c.v : Int), .int .i64 ((c.f : Int) + 1)], .int .i64 0]) (by simp [results, Try.results25, go_sem, o0, o1, o2]) rfl ⟨?_, KF.out⟩
    rfl
set_option maxHeartbeats 2000000 in
theorem rlimit_any (c : Gc) (ok : c.Ok) (hs : c.r + c.f ≤ 1000000) (w : World) :
    Calls Try.prog 27 #[.agg #[.int .i64 (c.r : Int), .int .i64 (c.v : Int), .int .i64 (c.f : Int)]] w fun e w' => e = .returned (.int .i64 (c.lim : Int)) ∧ Below w.heap.size w w' := by
  have lc : (c.lim : Int) = (c.r : Int) + (c.f : Int) := by rw [lim_small hs]; omega
  rw [lc]
  obtain ⟨a1, a2, a3, a4, a5⟩ := ok
  have KA := box (show Below w.heap.size w (w.alloc (.cells #[.int .i64 (c.r : Int), .int .i64 (c.v : Int), .int .i64 (c.f : Int)] 41)) from (Below.refl _ _).alloc (Nat.le_refl _) _)
  obtain ⟨q0, q1, q2, qz⟩ := R3.new w (.int .i64 (c.r : Int)) (.int .i64 (c.v : Int)) (.int .i64 (c.f : Int)) 41 w.heap.size rfl
  clear lc
  go_enter Try.func27, Try.ntmps27
  go_wp2_with fail
  go_ret
  exact ⟨rfl, KA.out⟩
set_option maxRecDepth 100000 in
set_option maxHeartbeats 2000000 in
theorem rtake_any (c : Tc) (ok : c.Ok) (w : World) :
    Calls Try.prog 29 #[.agg #[.int .i64 (c.s : Int), .int .i64 (c.l : Int)]] w fun e w' => e = .returned (.tuple #[tcV c.tkC, .int .i64 c.tkE]) ∧ Below w.heap.size w w' := by
  obtain ⟨a1, a2⟩ := ok
  unfold LIM at a2
  by_cases hl : c.l ≤ c.s
  · have e1 : c.tkE = 5 := if_pos hl
    have e2 : c.tkC = c := if_pos hl
    rw [e1, e2]
    clear e1 e2
    obtain ⟨m, hm⟩ : ∃ m, w.heap.size = m := ⟨_, rfl⟩
    have M1 := R2.new w (.int .i64 (c.s : Int)) (.int .i64 (c.l : Int)) 52 m hm.symm
    have k1 : Below w.heap.size w (w.alloc (.cells #[.int .i64 (c.s : Int), .int .i64 (c.l : Int)] 52)) := (Below.refl _ _).alloc (Nat.le_refl _) _
    have s1 := size_alloc' w (.cells #[.int .i64 (c.s : Int), .int .i64 (c.l : Int)] 52)
    have M2 := M1.keep (w' := (w.alloc (.cells #[.int .i64 (c.s : Int), .int .i64 (c.l : Int)] 52)).alloc (.cells #[.int .i64 0, .int .i64 0] 52)) ((Below.refl _ _).alloc (Nat.le_refl _) _)
    have T2 := R2.new (w.alloc (.cells #[.int .i64 (c.s : Int), .int .i64 (c.l : Int)] 52)) (.int .i64 0) (.int .i64 0) 52 (m + 1) (by rw [s1, hm])
    have k2 : Below w.heap.size w ((w.alloc (.cells #[.int .i64 (c.s : Int), .int .i64 (c.l : Int)] 52)).alloc (.cells #[.int .i64 0, .int .i64 0] 52)) := k1.alloc k1.size _
    have MB := box M2
    have TB := box T2
    have K1 := box k2
    have HM := box hm
    clear M1 M2 T2 k1 k2 s1
    go_enter Try.func29, Try.ntmps29
    go_upto_region 1 with fail
    generalize (w.alloc (.cells #[.int .i64 (c.s : Int), .int .i64 (c.l : Int)] 52)).alloc (.cells #[.int .i64 0, .int .i64 0] 52) = w1 at MB TB K1 ⊢
    (try simp only [HM.out])
    clear hm
    have PT := box (TB.out.put (.int .i64 (c.s : Int)) (.int .i64 (c.l : Int)))
    have KF := box (put2_below K1.out (show w.heap.size ≤ m + 1 by rw [HM.out]; omega) (.int .i64 (c.s : Int)) (.int .i64 (c.l : Int)))
    obtain ⟨p0, p1, pz⟩ := MB.out
    obtain ⟨t0, t1, tz⟩ := TB.out
    go_wp2_with fail
    change bodyPost _ _ _ _ _ (put2 w1 (m + 1) (.int .i64 (c.s : Int)) (.int .i64 (c.l : Int)))
    generalize put2 w1 (m + 1) (.int .i64 (c.s : Int)) (.int .i64 (c.l : Int)) = w9 at PT KF ⊢
    obtain ⟨o0, o1, oz⟩ := PT.out
    refine bodyPost_ret (v := .tuple #[.agg #[.int .i64 (c.s : Int), .int .i64 (c.l : Int)], .int .i64 5]) (by simp [results, Try.results29, go_sem, o0, o1]) rfl ⟨?_, KF.out⟩
    rfl
  · have e1 : c.tkE = 0 := if_neg hl
    have e2 : c.tkC = ⟨c.l, c.s + 1⟩ := if_neg hl
    rw [e1, e2]
    clear e1 e2
    obtain ⟨m, hm⟩ : ∃ m, w.heap.size = m := ⟨_, rfl⟩
    have M1 := R2.new w (.int .i64 (c.s : Int)) (.int .i64 (c.l : Int)) 52 m hm.symm
    have k1 : Below w.heap.size w (w.alloc (.cells #[.int .i64 (c.s : Int), .int .i64 (c.l : Int)] 52)) := (Below.refl _ _).alloc (Nat.le_refl _) _
    have s1 := size_alloc' w (.cells #[.int .i64 (c.s : Int), .int .i64 (c.l : Int)] 52)
    have M2 := M1.keep (w' := (w.alloc (.cells #[.int .i64 (c.s : Int), .int .i64 (c.l : Int)] 52)).alloc (.cells #[.int .i64 0, .int .i64 0] 52)) ((Below.refl _ _).alloc (Nat.le_refl _) _)
    have T2 := R2.new (w.alloc (.cells #[.int .i64 (c.s : Int), .int .i64 (c.l : Int)] 52)) (.int .i64 0) (.int .i64 0) 52 (m + 1) (by rw [s1, hm])
    have k2 : Below w.heap.size w ((w.alloc (.cells #[.int .i64 (c.s : Int), .int .i64 (c.l : Int)] 52)).alloc (.cells #[.int .i64 0, .int .i64 0] 52)) := k1.alloc k1.size _
    have MB := box M2
    have TB := box T2
    have K1 := box k2
    have HM := box hm
    clear M1 M2 T2 k1 k2 s1
    go_enter Try.func29, Try.ntmps29
    go_upto_region 1 with fail
    generalize (w.alloc (.cells #[.int .i64 (c.s : Int), .int .i64 (c.l : Int)] 52)).alloc (.cells #[.int .i64 0, .int .i64 0] 52) = w1 at MB TB K1 ⊢
    (try simp only [HM.out])
    clear hm
    obtain ⟨p0, p1, pz⟩ := MB.out
    have hmm : m ≠ m + 1 := by omega
    replace TB := box (TB.out.same (w' := w1.setCell ⟨m, 0, none⟩ (.int .i64 ((c.s : Int) + 1))) (heap_else hmm _))
    replace MB := box (MB.out.set0 (.int .i64 ((c.s : Int) + 1)))
    replace K1 := box (K1.out.setCell (p := ⟨m, 0, none⟩) (by rw [HM.out]; exact Nat.le_refl _) (.int .i64 ((c.s : Int) + 1)))
    go_upto_region 4 with fail
    generalize w1.setCell ⟨m, 0, none⟩ (.int .i64 ((c.s : Int) + 1)) = w2 at MB TB K1 ⊢
    clear p0 p1 pz hmm
    have PT := box (TB.out.put (.int .i64 ((c.s : Int) + 1)) (.int .i64 (c.l : Int)))
    have KF := box (put2_below K1.out (show w.heap.size ≤ m + 1 by rw [HM.out]; omega) (.int .i64 ((c.s : Int) + 1)) (.int .i64 (c.l : Int)))
    obtain ⟨p0, p1, pz⟩ := MB.out
    obtain ⟨t0, t1, tz⟩ := TB.out
    go_wp2_with fail
    change bodyPost _ _ _ _ _ (put2 w2 (m + 1) (.int .i64 ((c.s : Int) + 1)) (.int .i64 (c.l : Int)))
    generalize put2 w2 (m + 1) (.int .i64 ((c.s : Int) + 1)) (.int .i64 (c.l : Int)) = w9 at PT KF ⊢
    obtain ⟨o0, o1, oz⟩ := PT.out
    refine bodyPost_ret (v := .tuple #[.agg #[.int .i64 ((c.s : Int) + 1), .int .i64 (c.l : Int)], .int .i64 0]) (by simp [results, Try.results29, go_sem, o0, o1]) rfl ⟨?_, KF.out⟩
    rfl
set_option maxRecDepth 100000 in
set_option maxHeartbeats 2000000 in
theorem rraise_any (c : Tc) (ok : c.Ok) (y : Int) (w : World) :
    Calls Try.prog 28 #[.agg #[.int .i64 (c.s : Int), .int .i64 (c.l : Int)], .int .i64 y] w fun e w' => e = .returned (.tuple #[tcV (c.rsC y), .int .i64 (Tc.rsE y)]) ∧ Below w.heap.size w w' := by
  obtain ⟨a1, a2⟩ := ok
  unfold LIM at a2
  by_cases h1 : y < 0
  · have e1 : Tc.rsE y = 2 := if_pos (.inl h1)
    have e2 : c.rsC y = c := if_pos (.inl h1)
    rw [e1, e2]
    clear e1 e2
    obtain ⟨m, hm⟩ : ∃ m, w.heap.size = m := ⟨_, rfl⟩
    have M1 := R2.new w (.int .i64 (c.s : Int)) (.int .i64 (c.l : Int)) 52 m hm.symm
    have k1 : Below w.heap.size w (w.alloc (.cells #[.int .i64 (c.s : Int), .int .i64 (c.l : Int)] 52)) := (Below.refl _ _).alloc (Nat.le_refl _) _
    have s1 := size_alloc' w (.cells #[.int .i64 (c.s : Int), .int .i64 (c.l : Int)] 52)
    have M2 := M1.keep (w' := (w.alloc (.cells #[.int .i64 (c.s : Int), .int .i64 (c.l : Int)] 52)).alloc (.cells #[.int .i64 0, .int .i64 0] 52)) ((Below.refl _ _).alloc (Nat.le_refl _) _)
    have T2 := R2.new (w.alloc (.cells #[.int .i64 (c.s : Int), .int .i64 (c.l : Int)] 52)) (.int .i64 0) (.int .i64 0) 52 (m + 1) (by rw [s1, hm])
    have k2 : Below w.heap.size w ((w.alloc (.cells #[.int .i64 (c.s : Int), .int .i64 (c.l : Int)] 52)).alloc (.cells #[.int .i64 0, .int .i64 0] 52)) := k1.alloc k1.size _
    have MB := box M2
    have TB := box T2
    have K1 := box k2
    have HM := box hm
    clear M1 M2 T2 k1 k2 s1
    go_enter Try.func28, Try.ntmps28
    go_upto_region 1 with fail
    generalize (w.alloc (.cells #[.int .i64 (c.s : Int), .int .i64 (c.l : Int)] 52)).alloc (.cells #[.int .i64 0, .int .i64 0] 52) = w1 at MB TB K1 ⊢
    (try simp only [HM.out])
    clear hm
    have PT := box (TB.out.put (.int .i64 (c.s : Int)) (.int .i64 (c.l : Int)))
    have KF := box (put2_below K1.out (show w.heap.size ≤ m + 1 by rw [HM.out]; omega) (.int .i64 (c.s : Int)) (.int .i64 (c.l : Int)))
    obtain ⟨p0, p1, pz⟩ := MB.out
    obtain ⟨t0, t1, tz⟩ := TB.out
    go_wp2_with fail
    change bodyPost _ _ _ _ _ (put2 w1 (m + 1) (.int .i64 (c.s : Int)) (.int .i64 (c.l : Int)))
    generalize put2 w1 (m + 1) (.int .i64 (c.s : Int)) (.int .i64 (c.l : Int)) = w9 at PT KF ⊢
    obtain ⟨o0, o1, oz⟩ := PT.out
    refine bodyPost_ret (v := .tuple #[.agg #[.int .i64 (c.s : Int), .int .i64 (c.l : Int)], .int .i64 2]) (by simp [results, Try.results28, go_sem, o0, o1]) rfl ⟨?_, KF.out⟩
    rfl
  by_cases h2 : 1099511627776 < y
  · have e1 : Tc.rsE y = 2 := if_pos (.inr h2)
    have e2 : c.rsC y = c := if_pos (.inr h2)
    rw [e1, e2]
    clear e1 e2
    obtain ⟨m, hm⟩ : ∃ m, w.heap.size = m := ⟨_, rfl⟩
    have M1 := R2.new w (.int .i64 (c.s : Int)) (.int .i64 (c.l : Int)) 52 m hm.symm
    have k1 : Below w.heap.size w (w.alloc (.cells #[.int .i64 (c.s : Int), .int .i64 (c.l : Int)] 52)) := (Below.refl _ _).alloc (Nat.le_refl _) _
    have s1 := size_alloc' w (.cells #[.int .i64 (c.s : Int), .int .i64 (c.l : Int)] 52)
    have M2 := M1.keep (w' := (w.alloc (.cells #[.int .i64 (c.s : Int), .int .i64 (c.l : Int)] 52)).alloc (.cells #[.int .i64 0, .int .i64 0] 52)) ((Below.refl _ _).alloc (Nat.le_refl _) _)
    have T2 := R2.new (w.alloc (.cells #[.int .i64 (c.s : Int), .int .i64 (c.l : Int)] 52)) (.int .i64 0) (.int .i64 0) 52 (m + 1) (by rw [s1, hm])
    have k2 : Below w.heap.size w ((w.alloc (.cells #[.int .i64 (c.s : Int), .int .i64 (c.l : Int)] 52)).alloc (.cells #[.int .i64 0, .int .i64 0] 52)) := k1.alloc k1.size _
    have MB := box M2
    have TB := box T2
    have K1 := box k2
    have HM := box hm
    clear M1 M2 T2 k1 k2 s1
    go_enter Try.func28, Try.ntmps28
    go_upto_region 1 with fail
    generalize (w.alloc (.cells #[.int .i64 (c.s : Int), .int .i64 (c.l : Int)] 52)).alloc (.cells #[.int .i64 0, .int .i64 0] 52) = w1 at MB TB K1 ⊢
    (try simp only [HM.out])
    clear hm
    have PT := box (TB.out.put (.int .i64 (c.s : Int)) (.int .i64 (c.l : Int)))
    have KF := box (put2_below K1.out (show w.heap.size ≤ m + 1 by rw [HM.out]; omega) (.int .i64 (c.s : Int)) (.int .i64 (c.l : Int)))
    obtain ⟨p0, p1, pz⟩ := MB.out
    obtain ⟨t0, t1, tz⟩ := TB.out
    go_wp2_with fail
    change bodyPost _ _ _ _ _ (put2 w1 (m + 1) (.int .i64 (c.s : Int)) (.int .i64 (c.l : Int)))
    generalize put2 w1 (m + 1) (.int .i64 (c.s : Int)) (.int .i64 (c.l : Int)) = w9 at PT KF ⊢
    obtain ⟨o0, o1, oz⟩ := PT.out
    refine bodyPost_ret (v := .tuple #[.agg #[.int .i64 (c.s : Int), .int .i64 (c.l : Int)], .int .i64 2]) (by simp [results, Try.results28, go_sem, o0, o1]) rfl ⟨?_, KF.out⟩
    rfl
  have e1 : Tc.rsE y = 0 := if_neg (by omega)
  have e2 : c.rsC y = ⟨max c.l y.toNat, c.s⟩ := if_neg (by omega)
  rw [e1, e2]
  clear e1 e2
  by_cases h3 : y ≤ (c.l : Int)
  · rw [show max c.l y.toNat = c.l by omega]
    obtain ⟨m, hm⟩ : ∃ m, w.heap.size = m := ⟨_, rfl⟩
    have M1 := R2.new w (.int .i64 (c.s : Int)) (.int .i64 (c.l : Int)) 52 m hm.symm
    have k1 : Below w.heap.size w (w.alloc (.cells #[.int .i64 (c.s : Int), .int .i64 (c.l : Int)] 52)) := (Below.refl _ _).alloc (Nat.le_refl _) _
    have s1 := size_alloc' w (.cells #[.int .i64 (c.s : Int), .int .i64 (c.l : Int)] 52)
    have M2 := M1.keep (w' := (w.alloc (.cells #[.int .i64 (c.s : Int), .int .i64 (c.l : Int)] 52)).alloc (.cells #[.int .i64 0, .int .i64 0] 52)) ((Below.refl _ _).alloc (Nat.le_refl _) _)
    have T2 := R2.new (w.alloc (.cells #[.int .i64 (c.s : Int), .int .i64 (c.l : Int)] 52)) (.int .i64 0) (.int .i64 0) 52 (m + 1) (by rw [s1, hm])
    have k2 : Below w.heap.size w ((w.alloc (.cells #[.int .i64 (c.s : Int), .int .i64 (c.l : Int)] 52)).alloc (.cells #[.int .i64 0, .int .i64 0] 52)) := k1.alloc k1.size _
    have MB := box M2
    have TB := box T2
    have K1 := box k2
    have HM := box hm
    clear M1 M2 T2 k1 k2 s1
    go_enter Try.func28, Try.ntmps28
    go_upto_region 1 with fail
    generalize (w.alloc (.cells #[.int .i64 (c.s : Int), .int .i64 (c.l : Int)] 52)).alloc (.cells #[.int .i64 0, .int .i64 0] 52) = w1 at MB TB K1 ⊢
    (try simp only [HM.out])
    clear hm
    obtain ⟨p0, p1, pz⟩ := MB.out
    have hmm : m ≠ m + 1 := by omega
    replace TB := box (TB.out.same (w' := w1.setCell ⟨m, 1, none⟩ (.int .i64 (c.l : Int))) (heap_else hmm _))
    replace MB := box (MB.out.set1 (.int .i64 (c.l : Int)))
    replace K1 := box (K1.out.setCell (p := ⟨m, 1, none⟩) (by rw [HM.out]; exact Nat.le_refl _) (.int .i64 (c.l : Int)))
    go_upto_region 4 with fail
    generalize w1.setCell ⟨m, 1, none⟩ (.int .i64 (c.l : Int)) = w2 at MB TB K1 ⊢
    clear p0 p1 pz hmm
    have PT := box (TB.out.put (.int .i64 (c.s : Int)) (.int .i64 (c.l : Int)))
    have KF := box (put2_below K1.out (show w.heap.size ≤ m + 1 by rw [HM.out]; omega) (.int .i64 (c.s : Int)) (.int .i64 (c.l : Int)))
    obtain ⟨p0, p1, pz⟩ := MB.out
    obtain ⟨t0, t1, tz⟩ := TB.out
    go_wp2_with fail
    change bodyPost _ _ _ _ _ (put2 w2 (m + 1) (.int .i64 (c.s : Int)) (.int .i64 (c.l : Int)))
    generalize put2 w2 (m + 1) (.int .i64 (c.s : Int)) (.int .i64 (c.l : Int)) = w9 at PT KF ⊢
    obtain ⟨o0, o1, oz⟩ := PT.out
    refine bodyPost_ret (v := .tuple #[.agg #[.int .i64 (c.s : Int), .int .i64 (c.l : Int)], .int .i64 0]) (by simp [results, Try.results28, go_sem, o0, o1]) rfl ⟨?_, KF.out⟩
    rfl
  · rw [show max c.l y.toNat = y.toNat by omega]
    have hy : ((y.toNat : Nat) : Int) = y := by omega
    obtain ⟨yn, hyn⟩ : ∃ yn, y.toNat = yn := ⟨_, rfl⟩
    rw [hyn] at hy ⊢
    clear hyn
    subst hy
    obtain ⟨m, hm⟩ : ∃ m, w.heap.size = m := ⟨_, rfl⟩
    have M1 := R2.new w (.int .i64 (c.s : Int)) (.int .i64 (c.l : Int)) 52 m hm.symm
    have k1 : Below w.heap.size w (w.alloc (.cells #[.int .i64 (c.s : Int), .int .i64 (c.l : Int)] 52)) := (Below.refl _ _).alloc (Nat.le_refl _) _
    have s1 := size_alloc' w (.cells #[.int .i64 (c.s : Int), .int .i64 (c.l : Int)] 52)
    have M2 := M1.keep (w' := (w.alloc (.cells #[.int .i64 (c.s : Int), .int .i64 (c.l : Int)] 52)).alloc (.cells #[.int .i64 0, .int .i64 0] 52)) ((Below.refl _ _).alloc (Nat.le_refl _) _)
    have T2 := R2.new (w.alloc (.cells #[.int .i64 (c.s : Int), .int .i64 (c.l : Int)] 52)) (.int .i64 0) (.int .i64 0) 52 (m + 1) (by rw [s1, hm])
    have k2 : Below w.heap.size w ((w.alloc (.cells #[.int .i64 (c.s : Int), .int .i64 (c.l : Int)] 52)).alloc (.cells #[.int .i64 0, .int .i64 0] 52)) := k1.alloc k1.size _
    have MB := box M2
    have TB := box T2
    have K1 := box k2
    have HM := box hm
    clear M1 M2 T2 k1 k2 s1
    go_enter Try.func28, Try.ntmps28
    go_upto_region 1 with fail
    generalize (w.alloc (.cells #[.int .i64 (c.s : Int), .int .i64 (c.l : Int)] 52)).alloc (.cells #[.int .i64 0, .int .i64 0] 52) = w1 at MB TB K1 ⊢
    (try simp only [HM.out])
    clear hm
    obtain ⟨p0, p1, pz⟩ := MB.out
    have hmm : m ≠ m + 1 := by omega
    replace TB := box (TB.out.same (w' := w1.setCell ⟨m, 1, none⟩ (.int .i64 (yn : Int))) (heap_else hmm _))
    replace MB := box (MB.out.set1 (.int .i64 (yn : Int)))
    replace K1 := box (K1.out.setCell (p := ⟨m, 1, none⟩) (by rw [HM.out]; exact Nat.le_refl _) (.int .i64 (yn : Int)))
    go_upto_region 4 with fail
    generalize w1.setCell ⟨m, 1, none⟩ (.int .i64 (yn : Int)) = w2 at MB TB K1 ⊢
    clear p0 p1 pz hmm
    have PT := box (TB.out.put (.int .i64 (c.s : Int)) (.int .i64 (yn : Int)))
    have KF := box (put2_below K1.out (show w.heap.size ≤ m + 1 by rw [HM.out]; omega) (.int .i64 (c.s : Int)) (.int .i64 (yn : Int)))
    obtain ⟨p0, p1, pz⟩ := MB.out
    obtain ⟨t0, t1, tz⟩ := TB.out
    go_wp2_with fail
    change bodyPost _ _ _ _ _ (put2 w2 (m + 1) (.int .i64 (c.s : Int)) (.int .i64 (yn : Int)))
    generalize put2 w2 (m + 1) (.int .i64 (c.s : Int)) (.int .i64 (yn : Int)) = w9 at PT KF ⊢
    obtain ⟨o0, o1, oz⟩ := PT.out
    refine bodyPost_ret (v := .tuple #[.agg #[.int .i64 (c.s : Int), .int .i64 (yn : Int)], .int .i64 0]) (by simp [results, Try.results28, go_sem, o0, o1]) rfl ⟨?_, KF.out⟩
    rfl
set_option maxRecDepth 100000 in
set_option maxHeartbeats 4000000 in
theorem raudit_any (c : Gc) (ok : c.Ok) (hs : c.r + c.f ≤ 1000000) (y : Int) (w : World) :
    Calls Try.prog 26 #[.agg #[.int .i64 (c.r : Int), .int .i64 (c.v : Int), .int .i64 (c.f : Int)], .int .i64 y] w fun e w' => e = .returned (.tuple #[gcV (c.audC y), .int .i64 (c.audN y), .int .i64 (c.audE y)]) ∧ Below w.heap.size w w' := by
  have RL := fun w => box (rlimit_any c ok hs w)
  have lc := lim_small hs
  obtain ⟨a1, a2, a3, a4, a5⟩ := ok
  by_cases h1 : y < (c.v : Int)
  · obtain ⟨e1, e2, e3⟩ := aud_no c y (.inl h1)
    rw [e1, e2, e3]
    clear e1 e2 e3
    obtain ⟨m, hm⟩ : ∃ m, w.heap.size = m := ⟨_, rfl⟩
    have M1 := R3.new w (.int .i64 (c.r : Int)) (.int .i64 (c.v : Int)) (.int .i64 (c.f : Int)) 41 m hm.symm
    have k1 : Below w.heap.size w (w.alloc (.cells #[.int .i64 (c.r : Int), .int .i64 (c.v : Int), .int .i64 (c.f : Int)] 41)) := (Below.refl _ _).alloc (Nat.le_refl _) _
    have s1 := size_alloc' w (.cells #[.int .i64 (c.r : Int), .int .i64 (c.v : Int), .int .i64 (c.f : Int)] 41)
    have M2 := M1.keep (w' := (w.alloc (.cells #[.int .i64 (c.r : Int), .int .i64 (c.v : Int), .int .i64 (c.f : Int)] 41)).alloc (.cells #[.int .i64 0, .int .i64 0, .int .i64 0] 41)) ((Below.refl _ _).alloc (Nat.le_refl _) _)
    have T2 := R3.new (w.alloc (.cells #[.int .i64 (c.r : Int), .int .i64 (c.v : Int), .int .i64 (c.f : Int)] 41)) (.int .i64 0) (.int .i64 0) (.int .i64 0) 41 (m + 1) (by rw [s1, hm])
    have k2 : Below w.heap.size w ((w.alloc (.cells #[.int .i64 (c.r : Int), .int .i64 (c.v : Int), .int .i64 (c.f : Int)] 41)).alloc (.cells #[.int .i64 0, .int .i64 0, .int .i64 0] 41)) := k1.alloc k1.size _
    have MB := box M2
    have TB := box T2
    have K1 := box k2
    have HM := box hm
    clear M1 M2 T2 k1 k2 s1
    go_enter Try.func26, Try.ntmps26
    go_upto_region 1 with fail
    generalize (w.alloc (.cells #[.int .i64 (c.r : Int), .int .i64 (c.v : Int), .int .i64 (c.f : Int)] 41)).alloc (.cells #[.int .i64 0, .int .i64 0, .int .i64 0] 41) = w1 at MB TB K1 ⊢
    (try simp only [HM.out])
    clear hm
    have PT := box (TB.out.put (.int .i64 (c.r : Int)) (.int .i64 (c.v : Int)) (.int .i64 (c.f : Int)))
    have KF := box (put3_below K1.out (show w.heap.size ≤ m + 1 by rw [HM.out]; omega) (.int .i64 (c.r : Int)) (.int .i64 (c.v : Int)) (.int .i64 (c.f : Int)))
    obtain ⟨p0, p1, p2, pz⟩ := MB.out
    obtain ⟨t0, t1, t2, tz⟩ := TB.out
    go_wp2_with fail
    change bodyPost _ _ _ _ _ (put3 w1 (m + 1) (.int .i64 (c.r : Int)) (.int .i64 (c.v : Int)) (.int .i64 (c.f : Int)))
    generalize put3 w1 (m + 1) (.int .i64 (c.r : Int)) (.int .i64 (c.v : Int)) (.int .i64 (c.f : Int)) = w9 at PT KF ⊢
    obtain ⟨o0, o1, o2, oz⟩ := PT.out
    refine bodyPost_ret (v := .tuple #[.agg #[.int .i64 (c.r : Int), .int .i64 (c.v : Int), .int .i64 (c.f : Int)], .int .i64 0, .int .i64 2]) (by simp [results, Try.results26, go_sem, o0, o1, o2]) rfl ⟨?_, KF.out⟩
    rfl
  by_cases h2 : (c.lim : Int) < y
  · obtain ⟨e1, e2, e3⟩ := aud_no c y (.inr h2)
    rw [e1, e2, e3]
    clear e1 e2 e3
    obtain ⟨m, hm⟩ : ∃ m, w.heap.size = m := ⟨_, rfl⟩
    have M1 := R3.new w (.int .i64 (c.r : Int)) (.int .i64 (c.v : Int)) (.int .i64 (c.f : Int)) 41 m hm.symm
    have k1 : Below w.heap.size w (w.alloc (.cells #[.int .i64 (c.r : Int), .int .i64 (c.v : Int), .int .i64 (c.f : Int)] 41)) := (Below.refl _ _).alloc (Nat.le_refl _) _
    have s1 := size_alloc' w (.cells #[.int .i64 (c.r : Int), .int .i64 (c.v : Int), .int .i64 (c.f : Int)] 41)
    have M2 := M1.keep (w' := (w.alloc (.cells #[.int .i64 (c.r : Int), .int .i64 (c.v : Int), .int .i64 (c.f : Int)] 41)).alloc (.cells #[.int .i64 0, .int .i64 0, .int .i64 0] 41)) ((Below.refl _ _).alloc (Nat.le_refl _) _)
    have T2 := R3.new (w.alloc (.cells #[.int .i64 (c.r : Int), .int .i64 (c.v : Int), .int .i64 (c.f : Int)] 41)) (.int .i64 0) (.int .i64 0) (.int .i64 0) 41 (m + 1) (by rw [s1, hm])
    have k2 : Below w.heap.size w ((w.alloc (.cells #[.int .i64 (c.r : Int), .int .i64 (c.v : Int), .int .i64 (c.f : Int)] 41)).alloc (.cells #[.int .i64 0, .int .i64 0, .int .i64 0] 41)) := k1.alloc k1.size _
    have MB := box M2
    have TB := box T2
    have K1 := box k2
    have HM := box hm
    clear M1 M2 T2 k1 k2 s1
    go_enter Try.func26, Try.ntmps26
    go_upto_region 1 with fail
    generalize (w.alloc (.cells #[.int .i64 (c.r : Int), .int .i64 (c.v : Int), .int .i64 (c.f : Int)] 41)).alloc (.cells #[.int .i64 0, .int .i64 0, .int .i64 0] 41) = w1 at MB TB K1 ⊢
    (try simp only [HM.out])
    clear hm
    obtain ⟨p0, p1, p2, pz⟩ := MB.out
    go_wp2_with fail
    refine (RL _).out.mono ?_
    rintro e w2 ⟨rfl, b2⟩
    replace MB := box (MB.out.keep b2)
    replace TB := box (TB.out.keep b2)
    replace K1 := box (K1.out.trans (b2.mono K1.out.size))
    clear b2 p0 p1 p2 pz
    have PT := box (TB.out.put (.int .i64 (c.r : Int)) (.int .i64 (c.v : Int)) (.int .i64 (c.f : Int)))
    have KF := box (put3_below K1.out (show w.heap.size ≤ m + 1 by rw [HM.out]; omega) (.int .i64 (c.r : Int)) (.int .i64 (c.v : Int)) (.int .i64 (c.f : Int)))
    obtain ⟨p0, p1, p2, pz⟩ := MB.out
    obtain ⟨t0, t1, t2, tz⟩ := TB.out
    go_wp2_with fail
    change bodyPost _ _ _ _ _ (put3 w2 (m + 1) (.int .i64 (c.r : Int)) (.int .i64 (c.v : Int)) (.int .i64 (c.f : Int)))
    generalize put3 w2 (m + 1) (.int .i64 (c.r : Int)) (.int .i64 (c.v : Int)) (.int .i64 (c.f : Int)) = w9 at PT KF ⊢
    obtain ⟨o0, o1, o2, oz⟩ := PT.out
    refine bodyPost_ret (v := .tuple #[.agg #[.int .i64 (c.r : Int), .int .i64 (c.v : Int), .int .i64 (c.f : Int)], .int .i64 0, .int .i64 2]) (by simp [results, Try.results26, go_sem, o0, o1, o2]) rfl ⟨?_, KF.out⟩
    rfl
  obtain ⟨q, hq⟩ : ∃ q : Nat, y = (c.v : Int) + q := ⟨(y - c.v).toNat, by omega⟩
  obtain ⟨e1, e2, e3⟩ := aud_eq c y q hq (by omega)
  rw [e1, e2, e3]
  clear e1 e2 e3
  have hq2 : y - (c.v : Int) = (q : Int) := by omega
  have hq3 : q ≤ 2000000 := by omega
  have h3 : (c.lim : Int) ≤ 1000000 := by omega
  have h4 : 0 ≤ y := by omega
  have h5 : y ≤ (c.lim : Int) := by omega
  have h6 : (c.v : Int) ≤ y := by omega
  clear hq lc
  obtain ⟨m, hm⟩ : ∃ m, w.heap.size = m := ⟨_, rfl⟩
  have M1 := R3.new w (.int .i64 (c.r : Int)) (.int .i64 (c.v : Int)) (.int .i64 (c.f : Int)) 41 m hm.symm
  have k1 : Below w.heap.size w (w.alloc (.cells #[.int .i64 (c.r : Int), .int .i64 (c.v : Int), .int .i64 (c.f : Int)] 41)) := (Below.refl _ _).alloc (Nat.le_refl _) _
  have s1 := size_alloc' w (.cells #[.int .i64 (c.r : Int), .int .i64 (c.v : Int), .int .i64 (c.f : Int)] 41)
  have M2 := M1.keep (w' := (w.alloc (.cells #[.int .i64 (c.r : Int), .int .i64 (c.v : Int), .int .i64 (c.f : Int)] 41)).alloc (.cells #[.int .i64 0, .int .i64 0, .int .i64 0] 41)) ((Below.refl _ _).alloc (Nat.le_refl _) _)
  have T2 := R3.new (w.alloc (.cells #[.int .i64 (c.r : Int), .int .i64 (c.v : Int), .int .i64 (c.f : Int)] 41)) (.int .i64 0) (.int .i64 0) (.int .i64 0) 41 (m + 1) (by rw [s1, hm])
  have k2 : Below w.heap.size w ((w.alloc (.cells #[.int .i64 (c.r : Int), .int .i64 (c.v : Int), .int .i64 (c.f : Int)] 41)).alloc (.cells #[.int .i64 0, .int .i64 0, .int .i64 0] 41)) := k1.alloc k1.size _
  have MB := box M2
  have TB := box T2
  have K1 := box k2
  have HM := box hm
  clear M1 M2 T2 k1 k2 s1
  go_enter Try.func26, Try.ntmps26
  go_upto_region 1 with fail
  generalize (w.alloc (.cells #[.int .i64 (c.r : Int), .int .i64 (c.v : Int), .int .i64 (c.f : Int)] 41)).alloc (.cells #[.int .i64 0, .int .i64 0, .int .i64 0] 41) = w1 at MB TB K1 ⊢
  (try simp only [HM.out])
  clear hm
  obtain ⟨p0, p1, p2, pz⟩ := MB.out
  go_wp2_with fail
  refine (RL _).out.mono ?_
  rintro e w2 ⟨rfl, b2⟩
  replace MB := box (MB.out.keep b2)
  replace TB := box (TB.out.keep b2)
  replace K1 := box (K1.out.trans (b2.mono K1.out.size))
  clear b2 p0 p1 p2 pz
  obtain ⟨p0, p1, p2, pz⟩ := MB.out
  have hmm : m ≠ m + 1 := by omega
  replace TB := box ((TB.out.same (w' := w2.setCell ⟨m, 1, none⟩ (.int .i64 ((c.v : Int) + (q : Int)))) (heap_else hmm _)).same (w' := (w2.setCell ⟨m, 1, none⟩ (.int .i64 ((c.v : Int) + (q : Int)))).setCell ⟨m, 2, none⟩ (.int .i64 ((c.f : Int) + (q : Int)))) (heap_else hmm _))
  replace MB := box ((MB.out.set1 (.int .i64 ((c.v : Int) + (q : Int)))).set2 (.int .i64 ((c.f : Int) + (q : Int))))
  replace K1 := box ((K1.out.setCell (p := ⟨m, 1, none⟩) (by rw [HM.out]; exact Nat.le_refl _) (.int .i64 ((c.v : Int) + (q : Int)))).setCell (p := ⟨m, 2, none⟩) (by rw [HM.out]; exact Nat.le_refl _) (.int .i64 ((c.f : Int) + (q : Int))))
  go_upto_region 5 with fail
  generalize (w2.setCell ⟨m, 1, none⟩ (.int .i64 ((c.v : Int) + (q : Int)))).setCell ⟨m, 2, none⟩ (.int .i64 ((c.f : Int) + (q : Int))) = w3 at MB TB K1 ⊢
  clear p0 p1 p2 pz hmm
  have PT := box (TB.out.put (.int .i64 (c.r : Int)) (.int .i64 ((c.v : Int) + (q : Int))) (.int .i64 ((c.f : Int) + (q : Int))))
  have KF := box (put3_below K1.out (show w.heap.size ≤ m + 1 by rw [HM.out]; omega) (.int .i64 (c.r : Int)) (.int .i64 ((c.v : Int) + (q : Int))) (.int .i64 ((c.f : Int) + (q : Int))))
  obtain ⟨p0, p1, p2, pz⟩ := MB.out
  obtain ⟨t0, t1, t2, tz⟩ := TB.out
  go_wp2_with fail
  change bodyPost _ _ _ _ _ (put3 w3 (m + 1) (.int .i64 (c.r : Int)) (.int .i64 ((c.v : Int) + (q : Int))) (.int .i64 ((c.f : Int) + (q : Int))))
  generalize put3 w3 (m + 1) (.int .i64 (c.r : Int)) (.int .i64 ((c.v : Int) + (q : Int))) (.int .i64 ((c.f : Int) + (q : Int))) = w9 at PT KF ⊢
  obtain ⟨o0, o1, o2, oz⟩ := PT.out
  refine bodyPost_ret (v := .tuple #[.agg #[.int .i64 (c.r : Int), .int .i64 ((c.v : Int) + (q : Int)), .int .i64 ((c.f : Int) + (q : Int))], .int .i64 (q : Int), .int .i64 0]) (by simp [results, Try.results26, go_sem, o0, o1, o2]) rfl ⟨?_, KF.out⟩
  rfl
end Go.Proofs.Ytoolphpideicoaa
