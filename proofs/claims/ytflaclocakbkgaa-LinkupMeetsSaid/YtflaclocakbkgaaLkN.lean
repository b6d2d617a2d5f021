/- New, and the steps of a side. -/
import Derived.Test.YtflaclocakbkgaaLkP
import Derived.Laws.StructEq
namespace Go.Proofs.Ytflaclocakbkgaa
open Go.RowKit

/-- 2 cells of a block. -/
structure R2 (w : World) (g : Nat) (y0 y1 : Value) : Prop where
  q0 : w.cell? ⟨g, 0, none⟩ = some y0
  q1 : w.cell? ⟨g, 1, none⟩ = some y1
  z : ∀ j, w.frozen? ⟨g, j, none⟩ = false
theorem R2.lt {w : World} {g : Nat} {y0 y1 : Value} (h : R2 w g y0 y1) : g < w.heap.size := World.block_lt_of_cell? w ⟨g, 0, none⟩ h.q0
theorem R2.same {w w' : World} {g : Nat} {y0 y1 : Value} (h : R2 w g y0 y1) (e : w'.heap[g]? = w.heap[g]?) : R2 w' g y0 y1 :=
  ⟨(World.cell?_of_block (a := ⟨g, 0, none⟩) e).trans h.q0, (World.cell?_of_block (a := ⟨g, 1, none⟩) e).trans h.q1, fun j => (World.frozen?_of_block (a := ⟨g, j, none⟩) e).trans (h.z j)⟩
theorem R2.keep {w w' : World} {g : Nat} {y0 y1 : Value} (h : R2 w g y0 y1) (hb : Below w.heap.size w w') : R2 w' g y0 y1 := h.same (hb.block g h.lt)
theorem R2.new (w : World) (y0 y1 : Value) (t : TypeId) (g : Nat) (hg : g = w.heap.size) : R2 (w.alloc (.cells #[y0, y1] t)) g y0 y1 := by
  subst hg
  have q := World.cell?_alloc_mark w #[y0, y1] t (0, 0)
  exact ⟨q 0, q 1, unfrozen w _ t⟩
theorem R2.set0 {w : World} {g : Nat} {y0 y1 : Value} (h : R2 w g y0 y1) (u : Value) : R2 (w.setCell ⟨g, 0, none⟩ u) g u y1 :=
  ⟨cell_put h.q0 _, cell_else (by decide) h.q1 _, fun j => by rw [World.frozen?_setCell]; exact h.z j⟩
theorem R2.set1 {w : World} {g : Nat} {y0 y1 : Value} (h : R2 w g y0 y1) (u : Value) : R2 (w.setCell ⟨g, 1, none⟩ u) g y0 u :=
  ⟨cell_else (by decide) h.q0 _, cell_put h.q1 _, fun j => by rw [World.frozen?_setCell]; exact h.z j⟩
def put2 (w : World) (g : Nat) (u0 u1 : Value) : World := (World.setCell (World.setCell w ⟨g, 0, none⟩ u0) ⟨g, 1, none⟩ u1)
theorem R2.put {w : World} {g : Nat} {y0 y1 : Value} (h : R2 w g y0 y1) (u0 u1 : Value) : R2 (put2 w g u0 u1) g u0 u1 := (R2.set1 (R2.set0 h u0) u1)
theorem put2_below {B : Nat} {w0 w : World} {g : Nat} (hb : Below B w0 w) (hg : B ≤ g) (u0 u1 : Value) : Below B w0 (put2 w g u0 u1) := (Below.setCell (p := ⟨g, 1, none⟩) (Below.setCell (p := ⟨g, 0, none⟩) hb hg u0) hg u1)

/-- A valid incarnation. -/
def okInc (n : Int) : Bool := decide (1 ≤ n) && decide (n < 1099511627776)
theorem isinc_any (n : Int) (w : World) : Calls Try.prog 22 #[.int .i64 n] w fun e w' => e = .returned (.bool (okInc n)) ∧ w = w' := by
  by_cases h1 : 1 ≤ n
  · by_cases h2 : n < 1099511627776
    · have hb : okInc n = true := by unfold okInc; simp [h1, h2]
      rw [hb]; clear hb
      go_enter Try.func22, Try.ntmps22
      go_wp2_with fail
      go_ret
      exact ⟨rfl, rfl⟩
    · have hb : okInc n = false := by unfold okInc; simp [h2]
      rw [hb]; clear hb
      go_enter Try.func22, Try.ntmps22
      go_wp2_with fail
      go_ret
      exact ⟨rfl, rfl⟩
  · have hb : okInc n = false := by unfold okInc; simp [h1]
    rw [hb]; clear hb
    go_enter Try.func22, Try.ntmps22
    go_wp2_with fail
    go_ret
    exact ⟨rfl, rfl⟩

theorem cells_new (w : World) (i d : Nat) (g : Nat) (hg : g = w.heap.size) : SdAt (w.alloc (.cells #[.int .i64 (i : Int), .int .i64 (d : Int), .int .i64 0, .int .i64 0, .int .i64 0, .int .i64 0, .int .i64 0] 58)) g ⟨i, d, 0, 0, 0, 0, 0⟩ := by
  subst hg
  have q := World.cell?_alloc_mark w #[.int .i64 (i : Int), .int .i64 (d : Int), .int .i64 0, .int .i64 0, .int .i64 0, .int .i64 0, .int .i64 0] 58 (0, 0)
  exact ⟨q 0, q 1, q 2, q 3, q 4, q 5, q 6, unfrozen w _ _⟩
/-- Which sides are made. -/
def okNew (i d : Int) : Bool := okInc i && decide (1 ≤ d) && decide (d ≤ 1000)
set_option maxHeartbeats 2000000 in
theorem new_any (i d : Nat) (iI dI : Int) (hi : iI = i) (hd : dI = d) (h : 1 ≤ i ∧ i < MAXN ∧ 1 ≤ d ∧ d ≤ 1000) (w : World) :
    Calls Try.prog 12 #[.int .i64 iI, .int .i64 dI] w fun e w' => e = .returned (.tuple #[.pointer (some ⟨w.heap.size, 0, none⟩), .int .i64 0]) ∧ SdAt w' w.heap.size ⟨i, d, 0, 0, 0, 0, 0⟩ ∧ Below w.heap.size w w' := by
  subst hi hd
  obtain ⟨h1, h2, h3, h4⟩ := h
  unfold MAXN at h2
  have IN := isinc_any (i : Int) w
  have hb : okInc (i : Int) = true := by unfold okInc; simp; omega
  rw [hb] at IN
  clear hb
  go_enter Try.func12, Try.ntmps12
  go_wp2_with fail
  refine IN.mono ?_
  rintro e w1 ⟨rfl, rfl⟩
  clear IN
  go_wp2_with fail
  go_ret2
  exact ⟨rfl, cells_new w i d _ rfl, (Below.refl _ _).alloc (Nat.le_refl _) _⟩
set_option maxHeartbeats 2000000 in
theorem new_bad (i d : Int) (h : okNew i d = false) (w : World) :
    Calls Try.prog 12 #[.int .i64 i, .int .i64 d] w fun e w' => e = .returned (.tuple #[.pointer none, .int .i64 2]) ∧ w = w' := by
  have IN := isinc_any i w
  by_cases hb : okInc i = true
  · rw [hb] at IN
    by_cases h1 : d < 1
    · clear h hb
      go_enter Try.func12, Try.ntmps12
      go_wp2_with fail
      refine IN.mono ?_
      rintro e w1 ⟨rfl, rfl⟩
      go_wp2_with fail
      go_ret2
      exact ⟨rfl, rfl⟩
    · have h2 : 1000 < d := by unfold okNew at h; rw [hb] at h; simp at h; omega
      clear h hb
      go_enter Try.func12, Try.ntmps12
      go_wp2_with fail
      refine IN.mono ?_
      rintro e w1 ⟨rfl, rfl⟩
      go_wp2_with fail
      go_ret2
      exact ⟨rfl, rfl⟩
  · rw [show okInc i = false by simpa using hb] at IN
    clear h hb
    go_enter Try.func12, Try.ntmps12
    go_wp2_with fail
    refine IN.mono ?_
    rintro e w1 ⟨rfl, rfl⟩
    go_wp2_with fail
    go_ret2
    exact ⟨rfl, rfl⟩

theorem eq_st (a b c d : Int) (w : World) : (Op.equalIn 10000 56 (.agg #[.int .i64 a, .int .i64 b]) (.agg #[.int .i64 c, .int .i64 d])).run Try.prog w = .ok (a == c && b == d) w := by
  have u3 := Try.underlying3
  have a3 := Try.isAgg3
  have z3 := Try.sizeOf3
  have hS : Try.prog.underlying 56 = some (.struct (Try.prog.fieldsOf 56)) := by kernel_rfl
  rw [show (10000 : Nat) = 9999 + 1 from rfl, run_equalIn_agg w 9999 56 _ _ hS (by kernel_rfl)]
  simp only [Program.fieldsOf, Try.underlying56]
  go_simp
  by_cases h1 : a = c <;> by_cases h2 : b = d <;> simp [h1, h2]
theorem eq_gr (a b c d : Int) (w : World) : (Op.equalIn 10000 32 (.agg #[.int .i64 a, .int .i64 b]) (.agg #[.int .i64 c, .int .i64 d])).run Try.prog w = .ok (a == c && b == d) w := by
  have u3 := Try.underlying3
  have a3 := Try.isAgg3
  have z3 := Try.sizeOf3
  have hS : Try.prog.underlying 32 = some (.struct (Try.prog.fieldsOf 32)) := by kernel_rfl
  rw [show (10000 : Nat) = 9999 + 1 from rfl, run_equalIn_agg w 9999 32 _ _ hS (by kernel_rfl)]
  simp only [Program.fieldsOf, Try.underlying32]
  go_simp
  by_cases h1 : a = c <;> by_cases h2 : b = d <;> simp [h1, h2]

theorem SdAt.r {w : World} {g : Nat} {s : Sv} (x : SdAt w g s) : R7 w g (.int .i64 (s.mine : Int)) (.int .i64 (s.dead : Int)) (.int .i64 (s.seen : Int)) (.int .i64 (s.silent : Int)) (.int .i64 (s.state : Int)) (.int .i64 (s.peer : Int)) (.int .i64 (s.changes : Int)) := ⟨x.mine, x.dead, x.seen, x.silent, x.state, x.peer, x.changes, x.z⟩
theorem R7.sd {w : World} {g : Nat} {i d p e t l c : Nat} (h : R7 w g (.int .i64 (i : Int)) (.int .i64 (d : Int)) (.int .i64 (e : Int)) (.int .i64 (l : Int)) (.int .i64 (t : Int)) (.int .i64 (p : Int)) (.int .i64 (c : Int))) : SdAt w g ⟨i, d, p, e, t, l, c⟩ := ⟨h.q0, h.q1, h.q2, h.q3, h.q4, h.q5, h.q6, h.z⟩
theorem Apart.drew {g : Nat} {r : Option Nat} {w w' : World} (x : Apart g r w w') : Apart g r w w'.drew := ⟨x.os, x.tape, x.output, x.size, x.block⟩
theorem SdAt.drew {w : World} {g : Nat} {s : Sv} (x : SdAt w g s) : SdAt w.drew g s := x.same rfl

/-- What become makes of a side. -/
def Sv.becS (s : Sv) (st pr : Nat) : Sv := ⟨s.mine, s.dead, pr, s.seen, st, s.silent, if s.state ≠ st ∨ s.peer ≠ pr then s.changes + 1 else s.changes⟩
set_option maxHeartbeats 4000000 in
theorem become_any (g : Nat) (s : Sv) (st pr : Nat) (stI prI : Int) (hst : stI = st) (hpr : prI = pr) (hc : s.changes ≤ 1000000) (w : World) (x : SdAt w g s) :
    Calls Try.prog 24 #[.pointer (some ⟨g, 0, none⟩), .agg #[.int .i64 stI, .int .i64 prI]] w fun e w' => e = .returned (.bool (decide (s.state ≠ st ∨ s.peer ≠ pr))) ∧ SdAt w' g (s.becS st pr) ∧ Apart g none w w' := by
  subst hst hpr
  obtain ⟨m0, hm⟩ : ∃ m0, w.heap.size = m0 := ⟨_, rfl⟩
  have hlt : g < m0 := by rw [← hm]; exact x.lt
  have M := box (R2.new w (.int .i64 (st : Int)) (.int .i64 (pr : Int)) 56 m0 hm.symm)
  have k1 : Below w.heap.size w (w.alloc (.cells #[.int .i64 (st : Int), .int .i64 (pr : Int)] 56)) := (Below.refl _ _).alloc (Nat.le_refl _) _
  have X := box (x.keep k1)
  have K := box (Apart.ofBelow (g := g) (r := none) k1)
  have HM := box hm
  have HLT := box hlt
  clear k1 x hlt
  obtain ⟨bb, hbb⟩ : ∃ bb, ((st : Int) == (s.state : Int) && (pr : Int) == (s.peer : Int)) = bb := ⟨_, rfl⟩
  go_enter Try.func24, Try.ntmps24
  go_upto_region 1 with fail
  generalize w.alloc (.cells #[.int .i64 (st : Int), .int .i64 (pr : Int)] 56) = wa at M X K ⊢
  (try simp only [HM.out])
  clear hm
  have HBB := box hbb
  obtain ⟨q0, q1, q2, q3, q4, q5, q6, qz⟩ := X.out
  obtain ⟨p0, p1, pz⟩ := M.out
  have ES := eq_st
  go_region
  clear q0 q1 q2 q3 q4 q5 q6 qz p0 p1 pz ES
  (try simp only [hbb])
  clear hbb
  replace X := box X.out.drew
  replace M := box (M.out.same (w' := wa.drew) rfl)
  replace K := box K.out.drew
  generalize wa.drew = wb at X M K ⊢
  cases bb with
  | true =>
    have hq := HBB.out
    simp at hq
    have hq : s.state = st ∧ s.peer = pr := by omega
    have FIN := box (show ∀ w', wb = w' → (Ending.returned (.bool false) = Ending.returned (.bool (decide (s.state ≠ st ∨ s.peer ≠ pr))) ∧ SdAt w' g (s.becS st pr) ∧ Apart g none w w') from fun w' e => by
      subst e
      rw [decide_eq_false (by omega)]
      refine ⟨rfl, ?_, K.out⟩
      have e2 : s.becS st pr = s := by unfold Sv.becS; rw [if_neg (by omega), ← hq.1, ← hq.2]
      rw [e2]; exact X.out)
    clear hq HBB
    go_wp2_with fail
    go_ret
    exact FIN.out _ rfl
  | false =>
    have hq := HBB.out
    simp at hq
    have hq : ¬ (s.state = st ∧ s.peer = pr) := by omega
    have FIN := box (show ∀ w', (((wb.setCell ⟨g, 4, none⟩ (.int .i64 (st : Int))).setCell ⟨g, 5, none⟩ (.int .i64 (pr : Int))).setCell ⟨g, 6, none⟩ (.int .i64 ((s.changes : Int) + 1))) = w' → (Ending.returned (.bool true) = Ending.returned (.bool (decide (s.state ≠ st ∨ s.peer ≠ pr))) ∧ SdAt w' g (s.becS st pr) ∧ Apart g none w w') from fun w' e => by
      subst e
      rw [decide_eq_true (by omega)]
      refine ⟨rfl, ?_, (((K.out.setCell 4 _).setCell 5 _).setCell 6 _)⟩
      unfold Sv.becS
      rw [if_pos (by omega)]
      exact R7.sd (((X.out.r.set4 _).set5 _).set6 _))
    have Y1 := box ((X.out.r.set4 (.int .i64 (st : Int))).set5 (.int .i64 (pr : Int)))
    clear hq HBB
    have hc2 : (s.changes : Int) ≤ 1000000 := by omega
    have hsz : m0 ≠ g := by have := HLT.out; omega
    have N1 := box (((M.out.same (w' := wb.setCell ⟨g, 4, none⟩ (.int .i64 (st : Int))) (heap_else hsz.symm _)).same (w' := (wb.setCell ⟨g, 4, none⟩ (.int .i64 (st : Int))).setCell ⟨g, 5, none⟩ (.int .i64 (pr : Int))) (heap_else hsz.symm _)))
    obtain ⟨q0, q1, q2, q3, q4, q5, q6, qz⟩ := X.out
    obtain ⟨p0, p1, pz⟩ := M.out
    go_upto_region 4 with fail
    clear q0 q1 q2 q3 q4 q5 q6 qz p0 p1 pz
    obtain ⟨q0, q1, q2, q3, q4, q5, q6, qz⟩ := Y1.out
    go_wp2_with fail
    go_ret
    exact FIN.out _ rfl
end Go.Proofs.Ytflaclocakbkgaa
