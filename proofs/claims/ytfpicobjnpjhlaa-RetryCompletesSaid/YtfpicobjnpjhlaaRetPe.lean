/- RetryPrefix, RetryCompletes: their walks. -/
import Derived.Test.YtfpicobjnpjhlaaRetPd
import Derived.Test.YtfpicobjnpjhlaaRetAw
namespace Go.Proofs.Ytfpicobjnpjhlaa
open Go.RowKit

/-- Which conversations the laws speak of. -/
def Fits (W τ d : Int) (l1 l2 l3 : Nat) : Prop := 1 ≤ W ∧ W ≤ 16 ∧ 1 ≤ τ ∧ τ ≤ 40 ∧ 0 ≤ d ∧ d ≤ 6 ∧ l1 ≤ 60 ∧ l2 ≤ 60 ∧ l3 ≤ 60
instance (W τ d : Int) (l1 l2 l3 : Nat) : Decidable (Fits W τ d l1 l2 l3) := by unfold Fits; infer_instance
/-- Seven cells of a block. -/
structure TkIn (w : World) (b : Nat) (W τ d : Int) (a1 : Option Addr) (l1 c1 : Nat) (a2 : Option Addr) (l2 c2 : Nat) (a3 : Option Addr) (l3 c3 : Nat) (nk : Bool) : Prop where
  q0 : w.cell? ⟨b, 0, none⟩ = some (.int .i64 W)
  q1 : w.cell? ⟨b, 1, none⟩ = some (.int .i64 τ)
  q2 : w.cell? ⟨b, 2, none⟩ = some (.int .i64 d)
  q3 : w.cell? ⟨b, 3, none⟩ = some (.slice a1 l1 c1)
  q4 : w.cell? ⟨b, 4, none⟩ = some (.slice a2 l2 c2)
  q5 : w.cell? ⟨b, 5, none⟩ = some (.slice a3 l3 c3)
  q6 : w.cell? ⟨b, 6, none⟩ = some (.bool nk)
theorem TkIn.new (W τ d : Int) (a1 : Option Addr) (l1 c1 : Nat) (a2 : Option Addr) (l2 c2 : Nat) (a3 : Option Addr) (l3 c3 : Nat) (nk : Bool) (w : World) : TkIn (w.alloc (.cells #[.int .i64 W, .int .i64 τ, .int .i64 d, .slice a1 l1 c1, .slice a2 l2 c2, .slice a3 l3 c3, .bool nk] 52)) w.heap.size W τ d a1 l1 c1 a2 l2 c2 a3 l3 c3 nk := by
  have q := World.cell?_alloc_mark w #[.int .i64 W, .int .i64 τ, .int .i64 d, .slice a1 l1 c1, .slice a2 l2 c2, .slice a3 l3 c3, .bool nk] 52 (0, 0)
  exact ⟨q 0, q 1, q 2, q 3, q 4, q 5, q 6⟩
theorem TkIn.keep {w w' : World} {b : Nat} {W τ d : Int} {a1 : Option Addr} {l1 c1 : Nat} {a2 : Option Addr} {l2 c2 : Nat} {a3 : Option Addr} {l3 c3 : Nat} {nk : Bool} (h : TkIn w b W τ d a1 l1 c1 a2 l2 c2 a3 l3 c3 nk) (hb : Below w.heap.size w w') : TkIn w' b W τ d a1 l1 c1 a2 l2 c2 a3 l3 c3 nk :=
  ⟨keepc hb h.q0, keepc hb h.q1, keepc hb h.q2, keepc hb h.q3, keepc hb h.q4, keepc hb h.q5, keepc hb h.q6⟩

set_option maxRecDepth 100000 in
set_option maxHeartbeats 8000000 in
theorem fits_any (W τ d : Int) (a1 : Option Addr) (l1 c1 : Nat) (a2 : Option Addr) (l2 c2 : Nat) (a3 : Option Addr) (l3 c3 : Nat) (nk : Bool) (w : World) :
    Calls Try.prog 29 #[.agg #[.int .i64 W, .int .i64 τ, .int .i64 d, .slice a1 l1 c1, .slice a2 l2 c2, .slice a3 l3 c3, .bool nk]] w fun e w' => e = .returned (.bool (decide (Fits W τ d l1 l2 l3))) ∧ Below w.heap.size w w' := by
  have T := TkIn.new W τ d a1 l1 c1 a2 l2 c2 a3 l3 c3 nk w
  have KA := box (show Below w.heap.size w (w.alloc (.cells #[.int .i64 W, .int .i64 τ, .int .i64 d, .slice a1 l1 c1, .slice a2 l2 c2, .slice a3 l3 c3, .bool nk] 52)) from (Below.refl _ _).alloc (Nat.le_refl _) _)
  obtain ⟨q0, q1, q2, q3, q4, q5, q6⟩ := T
  by_cases g0 : 1 ≤ W
  case neg =>
    have hF := box (show ¬ Fits W τ d l1 l2 l3 from fun h => g0 (by unfold Fits at h; omega))
    go_enter Try.func29, Try.ntmps29
    go_wp2_with fail
    go_ret
    exact ⟨by rw [decide_eq_false hF.out]; first | rfl | exact congrArg (fun b => Ending.returned (Value.bool b)) (show decide ((l3 : Int) ≤ 60) = false from decide_eq_false (by omega)), KA.out⟩
  by_cases g1 : W ≤ 16
  case neg =>
    have hF := box (show ¬ Fits W τ d l1 l2 l3 from fun h => g1 (by unfold Fits at h; omega))
    go_enter Try.func29, Try.ntmps29
    go_wp2_with fail
    go_ret
    exact ⟨by rw [decide_eq_false hF.out]; first | rfl | exact congrArg (fun b => Ending.returned (Value.bool b)) (show decide ((l3 : Int) ≤ 60) = false from decide_eq_false (by omega)), KA.out⟩
  by_cases g2 : 1 ≤ τ
  case neg =>
    have hF := box (show ¬ Fits W τ d l1 l2 l3 from fun h => g2 (by unfold Fits at h; omega))
    go_enter Try.func29, Try.ntmps29
    go_wp2_with fail
    go_ret
    exact ⟨by rw [decide_eq_false hF.out]; first | rfl | exact congrArg (fun b => Ending.returned (Value.bool b)) (show decide ((l3 : Int) ≤ 60) = false from decide_eq_false (by omega)), KA.out⟩
  by_cases g3 : τ ≤ 40
  case neg =>
    have hF := box (show ¬ Fits W τ d l1 l2 l3 from fun h => g3 (by unfold Fits at h; omega))
    go_enter Try.func29, Try.ntmps29
    go_wp2_with fail
    go_ret
    exact ⟨by rw [decide_eq_false hF.out]; first | rfl | exact congrArg (fun b => Ending.returned (Value.bool b)) (show decide ((l3 : Int) ≤ 60) = false from decide_eq_false (by omega)), KA.out⟩
  by_cases g4 : 0 ≤ d
  case neg =>
    have hF := box (show ¬ Fits W τ d l1 l2 l3 from fun h => g4 (by unfold Fits at h; omega))
    go_enter Try.func29, Try.ntmps29
    go_wp2_with fail
    go_ret
    exact ⟨by rw [decide_eq_false hF.out]; first | rfl | exact congrArg (fun b => Ending.returned (Value.bool b)) (show decide ((l3 : Int) ≤ 60) = false from decide_eq_false (by omega)), KA.out⟩
  by_cases g5 : d ≤ 6
  case neg =>
    have hF := box (show ¬ Fits W τ d l1 l2 l3 from fun h => g5 (by unfold Fits at h; omega))
    go_enter Try.func29, Try.ntmps29
    go_wp2_with fail
    go_ret
    exact ⟨by rw [decide_eq_false hF.out]; first | rfl | exact congrArg (fun b => Ending.returned (Value.bool b)) (show decide ((l3 : Int) ≤ 60) = false from decide_eq_false (by omega)), KA.out⟩
  by_cases g6 : l1 ≤ 60
  case neg =>
    have hF := box (show ¬ Fits W τ d l1 l2 l3 from fun h => g6 (by unfold Fits at h; omega))
    go_enter Try.func29, Try.ntmps29
    go_wp2_with fail
    go_ret
    exact ⟨by rw [decide_eq_false hF.out]; first | rfl | exact congrArg (fun b => Ending.returned (Value.bool b)) (show decide ((l3 : Int) ≤ 60) = false from decide_eq_false (by omega)), KA.out⟩
  by_cases g7 : l2 ≤ 60
  case neg =>
    have hF := box (show ¬ Fits W τ d l1 l2 l3 from fun h => g7 (by unfold Fits at h; omega))
    go_enter Try.func29, Try.ntmps29
    go_wp2_with fail
    go_ret
    exact ⟨by rw [decide_eq_false hF.out]; first | rfl | exact congrArg (fun b => Ending.returned (Value.bool b)) (show decide ((l3 : Int) ≤ 60) = false from decide_eq_false (by omega)), KA.out⟩
  by_cases g8 : l3 ≤ 60
  case neg =>
    have hF := box (show ¬ Fits W τ d l1 l2 l3 from fun h => g8 (by unfold Fits at h; omega))
    go_enter Try.func29, Try.ntmps29
    go_wp2_with fail
    go_ret
    exact ⟨by rw [decide_eq_false hF.out]; first | rfl | exact congrArg (fun b => Ending.returned (Value.bool b)) (show decide ((l3 : Int) ≤ 60) = false from decide_eq_false (by omega)), KA.out⟩
  have hF := box (show Fits W τ d l1 l2 l3 from ⟨g0, g1, g2, g3, g4, g5, g6, g7, g8⟩)
  go_enter Try.func29, Try.ntmps29
  go_wp2_with fail
  go_ret
  exact ⟨by rw [decide_eq_true hF.out]; first | rfl | exact congrArg (fun b => Ending.returned (Value.bool b)) (show decide ((l3 : Int) ≤ 60) = true from decide_eq_true (by omega)), KA.out⟩

/-- The conversation of a law's argument. -/
def parOf (W τ d : Nat) (nk : Bool) (xs1 xs2 xs3 : List Nat) : Talk.Par := ⟨W, τ, d, nk, fun t => if t < xs1.length then xs1.getD t 0 % 4 else 0, tmN xs2, tmN xs3⟩
theorem par_calm (W τ d : Nat) (nk : Bool) (xs1 xs2 xs3 : List Nat) (h1 : xs1.length ≤ 60) (h2 : xs2.length ≤ 60) (h3 : xs3.length ≤ 60) : Talk.Calm (parOf W τ d nk xs1 xs2 xs3) 60 := by
  intro t ht
  refine ⟨?_, ?_, ?_⟩
  · show (if t < xs1.length then _ else 0) = 0
    rw [if_neg (by omega)]
  · show tmN xs2 t = 1
    unfold tmN; rw [if_pos (by omega)]
  · show tmN xs3 t = 1
    unfold tmN; rw [if_pos (by omega)]
theorem par_ends (W τ d : Nat) (nk : Bool) (xs1 xs2 xs3 : List Nat) (h1 : xs1.length ≤ 60) (h2 : xs2.length ≤ 60) (h3 : xs3.length ≤ 60) (hW : W ≤ 16) (hτ : τ ≤ 40) (hd : d ≤ 6) :
    (Talk.run (parOf W τ d nk xs1 xs2 xs3) 1560).s.R = (Talk.run (parOf W τ d nk xs1 xs2 xs3) 1560).s.T ∧ (Talk.run (parOf W τ d nk xs1 xs2 xs3) 1560).s.A = (Talk.run (parOf W τ d nk xs1 xs2 xs3) 1560).s.T := by
  refine (par_calm W τ d nk xs1 xs2 xs3 h1 h2 h3).ends 1560 ?_
  show 60 + W * (2 * d + W + τ + 3) + d + 1 ≤ 1560
  have := Nat.mul_le_mul hW (show 2 * d + W + τ + 3 ≤ 71 by omega)
  omega

theorem play_of (nk : Bool) (a1 : Option Addr) (l1 c1 : Nat) (xs1 : List Nat) (hl1 : xs1.length = l1) (a2 : Option Addr) (l2 c2 : Nat) (xs2 : List Nat) (hl2 : xs2.length = l2) (a3 : Option Addr) (l3 c3 : Nat) (xs3 : List Nat) (hl3 : xs3.length = l3) (hx1 : ∀ x ∈ xs1, x < 256) (hx2 : ∀ x ∈ xs2, x < 256) (hx3 : ∀ x ∈ xs3, x < 256) (W τ d : Nat) (h1 : 1 ≤ W) (h2 : W ≤ 16) (h3 : 1 ≤ τ) (h4 : τ ≤ 40) (h5 : d ≤ 6) (ticks : Nat) (htk : ticks ≤ 1560) (tI : Int) (ht : tI = ticks) (τI : Int) (hτI : τI = τ) (w : World) (i1 : In w a1 xs1) (i2 : In w a2 xs2) (i3 : In w a3 xs3) :
    Calls Try.prog 30 #[.agg #[.int .i64 W, .int .i64 τI, .int .i64 d, .slice a1 l1 c1, .slice a2 l2 c2, .slice a3 l3 c3, .bool nk], .int .i64 tI] w fun e w' => ∃ ao co aa ca g B O v s T R, e = .returned (.tuple #[.slice ao T co, .slice aa R ca, .pointer (some ⟨g, 0, none⟩), .bool true]) ∧ T = (Talk.run (parOf W τ d nk xs1 xs2 xs3) ticks).s.T ∧ R = (Talk.run (parOf W τ d nk xs1 xs2 xs3) ticks).s.R ∧ PsAt B O w' g v s ∧ Snd W τ (Talk.run (parOf W τ d nk xs1 xs2 xs3) ticks).s s ∧ Below w.heap.size w w' := by
  subst ht hτI
  refine (play_any (parOf W τ d nk xs1 xs2 xs3) h1 h2 h3 h4 h5 a1 l1 c1 xs1 hl1 a2 l2 c2 xs2 hl2 a3 l3 c3 xs3 hl3 hx1 hx2 hx3 (fun t => by rw [← hl1]; rfl) (fun _ => rfl) (fun _ => rfl) ticks htk w i1 i2 i3).mono ?_
  rintro e w' ⟨ao, co, aa, ca, g, B, O, v, s, he, hp, hs, hb⟩
  exact ⟨ao, co, aa, ca, g, B, O, v, s, _, _, he, rfl, rfl, hp, hs, hb⟩

set_option maxRecDepth 100000 in
set_option maxHeartbeats 8000000 in
theorem prefix_any (nk : Bool) (a1 : Option Addr) (l1 c1 : Nat) (xs1 : List Nat) (hl1 : xs1.length = l1) (a2 : Option Addr) (l2 c2 : Nat) (xs2 : List Nat) (hl2 : xs2.length = l2) (a3 : Option Addr) (l3 c3 : Nat) (xs3 : List Nat) (hl3 : xs3.length = l3) (hx1 : ∀ x ∈ xs1, x < 256) (hx2 : ∀ x ∈ xs2, x < 256) (hx3 : ∀ x ∈ xs3, x < 256) (W τ d : Int) (w : World) (i1 : In w a1 xs1) (i2 : In w a2 xs2) (i3 : In w a3 xs3) :
    Calls Try.prog 5 #[.agg #[.int .i64 W, .int .i64 τ, .int .i64 d, .slice a1 l1 c1, .slice a2 l2 c2, .slice a3 l3 c3, .bool nk]] w fun e w' => e = .returned (.bool true) ∧ Below w.heap.size w w' := by
  have T := TkIn.new W τ d a1 l1 c1 a2 l2 c2 a3 l3 c3 nk w
  have kA : Below w.heap.size w (w.alloc (.cells #[.int .i64 W, .int .i64 τ, .int .i64 d, .slice a1 l1 c1, .slice a2 l2 c2, .slice a3 l3 c3, .bool nk] 52)) := (Below.refl _ _).alloc (Nat.le_refl _) _
  have AW := box (awake_any (w.alloc (.cells #[.int .i64 W, .int .i64 τ, .int .i64 d, .slice a1 l1 c1, .slice a2 l2 c2, .slice a3 l3 c3, .bool nk] 52)))
  have KA := box kA
  have T0 := box T
  obtain ⟨xb, hxb⟩ : ∃ xb, w.heap.size = xb := ⟨_, rfl⟩
  have HXB := box hxb
  rw [hxb] at T0
  clear T kA hxb
  go_enter Try.func5, Try.ntmps5
  go_wp2_with fail
  simp only [HXB.out]
  generalize w.alloc (.cells #[.int .i64 W, .int .i64 τ, .int .i64 d, .slice a1 l1 c1, .slice a2 l2 c2, .slice a3 l3 c3, .bool nk] 52) = wa at AW KA T0 ⊢
  refine AW.out.mono ?_
  rintro e w1 ⟨rfl, b1⟩
  have K1 := box (KA.out.trans (b1.mono KA.out.size))
  obtain ⟨q0, q1, q2, q3, q4, q5, q6⟩ := T0.out.keep b1
  have T1 := box (T0.out.keep b1)
  have FT := box (fits_any W τ d a1 l1 c1 a2 l2 c2 a3 l3 c3 nk w1)
  clear AW b1 T0 KA
  go_wp2_with fail
  refine FT.out.mono ?_
  rintro e w2 ⟨rfl, b2⟩
  have K2 := box (K1.out.trans (b2.mono K1.out.size))
  have T2 := box (T1.out.keep b2)
  clear b2 FT K1 T1 q0 q1 q2 q3 q4 q5 q6
  by_cases hF : Fits W τ d l1 l2 l3
  · have hd := decide_eq_true hF
    obtain ⟨g0, g1, g2, g3, g4, g5, -, -, -⟩ := hF
    obtain ⟨W, rfl⟩ : ∃ n : Nat, W = n := ⟨W.toNat, by omega⟩
    obtain ⟨τ, rfl⟩ : ∃ n : Nat, τ = n := ⟨τ.toNat, by omega⟩
    obtain ⟨d, rfl⟩ : ∃ n : Nat, d = n := ⟨d.toNat, by omega⟩
    rw [hd]
    clear hd
    have PL := box (play_of nk a1 l1 c1 xs1 hl1 a2 l2 c2 xs2 hl2 a3 l3 c3 xs3 hl3 hx1 hx2 hx3 W τ d (by omega) (by omega) (by omega) (by omega) (by omega) 80 (by decide) 80 rfl τ rfl w2 (i1.below K2.out) (i2.below K2.out) (i3.below K2.out))
    obtain ⟨q0, q1, q2, q3, q4, q5, q6⟩ := T2.out
    clear T2 i1 i2 i3
    go_wp2_with fail
    refine PL.out.mono ?_
    rintro e w3 ⟨ao, co, aa, ca, g, B, O, v, s, T, R, rfl, -, -, -, -, b3⟩
    have FB := box (K2.out.trans (b3.mono K2.out.size))
    clear PL b3 q0 q1 q2 q3 q4 q5 q6
    go_wp2_with fail
    go_ret
    exact ⟨rfl, FB.out⟩
  · rw [decide_eq_false hF]
    clear hF T2 i1 i2 i3
    go_wp2_with fail
    go_ret
    exact ⟨rfl, K2.out⟩

set_option maxRecDepth 100000 in
set_option maxHeartbeats 8000000 in
theorem completes_any (nk : Bool) (a1 : Option Addr) (l1 c1 : Nat) (xs1 : List Nat) (hl1 : xs1.length = l1) (a2 : Option Addr) (l2 c2 : Nat) (xs2 : List Nat) (hl2 : xs2.length = l2) (a3 : Option Addr) (l3 c3 : Nat) (xs3 : List Nat) (hl3 : xs3.length = l3) (hx1 : ∀ x ∈ xs1, x < 256) (hx2 : ∀ x ∈ xs2, x < 256) (hx3 : ∀ x ∈ xs3, x < 256) (W τ d : Int) (w : World) (i1 : In w a1 xs1) (i2 : In w a2 xs2) (i3 : In w a3 xs3) :
    Calls Try.prog 6 #[.agg #[.int .i64 W, .int .i64 τ, .int .i64 d, .slice a1 l1 c1, .slice a2 l2 c2, .slice a3 l3 c3, .bool nk]] w fun e w' => e = .returned (.bool true) ∧ Below w.heap.size w w' := by
  have T := TkIn.new W τ d a1 l1 c1 a2 l2 c2 a3 l3 c3 nk w
  have kA : Below w.heap.size w (w.alloc (.cells #[.int .i64 W, .int .i64 τ, .int .i64 d, .slice a1 l1 c1, .slice a2 l2 c2, .slice a3 l3 c3, .bool nk] 52)) := (Below.refl _ _).alloc (Nat.le_refl _) _
  have zf : (w.alloc (.cells #[.int .i64 W, .int .i64 τ, .int .i64 d, .slice a1 l1 c1, .slice a2 l2 c2, .slice a3 l3 c3, .bool nk] 52)).frozen? ⟨w.heap.size, 1, none⟩ = false := by
    unfold World.frozen?
    have h : (w.alloc (.cells #[.int .i64 W, .int .i64 τ, .int .i64 d, .slice a1 l1 c1, .slice a2 l2 c2, .slice a3 l3 c3, .bool nk] 52)).heap[w.heap.size]? = some (.cells #[.int .i64 W, .int .i64 τ, .int .i64 d, .slice a1 l1 c1, .slice a2 l2 c2, .slice a3 l3 c3, .bool nk] 52) := by show (w.heap.push _)[w.heap.size]? = _; simp
    rw [show (⟨w.heap.size, 1, none⟩ : Addr).block = w.heap.size from rfl, h]
    simp
  have AW := box (awake_any (w.alloc (.cells #[.int .i64 W, .int .i64 τ, .int .i64 d, .slice a1 l1 c1, .slice a2 l2 c2, .slice a3 l3 c3, .bool nk] 52)))
  have KA := box kA
  have T0 := box T
  obtain ⟨xb, hxb⟩ : ∃ xb, w.heap.size = xb := ⟨_, rfl⟩
  have HXB := box hxb
  have ZF := box (show (w.alloc (.cells #[.int .i64 W, .int .i64 τ, .int .i64 d, .slice a1 l1 c1, .slice a2 l2 c2, .slice a3 l3 c3, .bool nk] 52)).frozen? ⟨xb, 1, none⟩ = false ∧ xb < (w.alloc (.cells #[.int .i64 W, .int .i64 τ, .int .i64 d, .slice a1 l1 c1, .slice a2 l2 c2, .slice a3 l3 c3, .bool nk] 52)).heap.size from ⟨by rw [← hxb]; exact zf, by rw [size_alloc']; omega⟩)
  rw [hxb] at T0
  clear T kA hxb zf
  go_enter Try.func6, Try.ntmps6
  go_wp2_with fail
  simp only [HXB.out]
  generalize w.alloc (.cells #[.int .i64 W, .int .i64 τ, .int .i64 d, .slice a1 l1 c1, .slice a2 l2 c2, .slice a3 l3 c3, .bool nk] 52) = wa at AW KA T0 ZF ⊢
  refine AW.out.mono ?_
  rintro e w1 ⟨rfl, b1⟩
  have K1 := box (KA.out.trans (b1.mono KA.out.size))
  obtain ⟨q0, q1, q2, q3, q4, q5, q6⟩ := T0.out.keep b1
  have T1 := box (T0.out.keep b1)
  have FT := box (fits_any W τ d a1 l1 c1 a2 l2 c2 a3 l3 c3 nk w1)
  have Z1 := box (show w1.frozen? ⟨xb, 1, none⟩ = false ∧ xb < w1.heap.size from ⟨by rw [World.frozen?_of_block (a := ⟨xb, 1, none⟩) (b1.block xb ZF.out.2)]; exact ZF.out.1, Nat.lt_of_lt_of_le ZF.out.2 b1.size⟩)
  clear AW b1 T0 KA ZF
  go_wp2_with fail
  refine FT.out.mono ?_
  rintro e w2 ⟨rfl, b2⟩
  have K2 := box (K1.out.trans (b2.mono K1.out.size))
  have T2 := box (T1.out.keep b2)
  have Z2 := box (show w2.frozen? ⟨xb, 1, none⟩ = false ∧ xb < w2.heap.size from ⟨by rw [World.frozen?_of_block (a := ⟨xb, 1, none⟩) (b2.block xb Z1.out.2)]; exact Z1.out.1, Nat.lt_of_lt_of_le Z1.out.2 b2.size⟩)
  clear b2 FT K1 T1 Z1 q0 q1 q2 q3 q4 q5 q6
  by_cases hF : Fits W τ d l1 l2 l3
  · have hd := decide_eq_true hF
    obtain ⟨g0, g1, g2, g3, g4, g5, g6, g7, g8⟩ := hF
    obtain ⟨W, rfl⟩ : ∃ n : Nat, W = n := ⟨W.toNat, by omega⟩
    obtain ⟨τ, rfl⟩ : ∃ n : Nat, τ = n := ⟨τ.toNat, by omega⟩
    obtain ⟨d, rfl⟩ : ∃ n : Nat, d = n := ⟨d.toNat, by omega⟩
    rw [hd]
    clear hd
    have G := box (And.intro g6 (And.intro g7 g8))
    clear g6 g7 g8
    obtain ⟨q0, q1, q2, q3, q4, q5, q6⟩ := T2.out
    obtain ⟨z1, zl⟩ := Z2.out
    by_cases hm : 2 * (d : Int) + 3 ≤ (τ : Int)
    · have TS := box (show TkIn (w2.setCell ⟨xb, 1, none⟩ (.int .i64 (τ : Int))) xb W (τ : Int) d a1 l1 c1 a2 l2 c2 a3 l3 c3 nk from ⟨cell_else (by decide) q0 _, cell_put q1 _, cell_else (by decide) q2 _, cell_else (by decide) q3 _, cell_else (by decide) q4 _, cell_else (by decide) q5 _, cell_else (by decide) q6 _⟩)
      have KS := box (show Below w.heap.size w (w2.setCell ⟨xb, 1, none⟩ (.int .i64 (τ : Int))) from ((Apart.refl xb none w2).setCell 1 _).below K2.out K2.out.size (Nat.le_of_eq HXB.out) (fun k hk => by cases hk))
      go_wp2_with fail
      generalize w2.setCell ⟨xb, 1, none⟩ (.int .i64 (τ : Int)) = ws at TS KS ⊢
      clear q0 q1 q2 q3 q4 q5 q6 z1 zl T2 K2 Z2
      obtain ⟨q0, q1, q2, q3, q4, q5, q6⟩ := TS.out
      have PL := box (play_of nk a1 l1 c1 xs1 hl1 a2 l2 c2 xs2 hl2 a3 l3 c3 xs3 hl3 hx1 hx2 hx3 W τ d (by omega) (by omega) (by omega) (by omega) (by omega) 1560 (by decide) 1560 rfl (τ : Int) (by omega) ws (i1.below KS.out) (i2.below KS.out) (i3.below KS.out))
      have EN := box (par_ends W τ d nk xs1 xs2 xs3 (by rw [hl1]; exact G.out.1) (by rw [hl2]; exact G.out.2.1) (by rw [hl3]; exact G.out.2.2) (by omega) (by omega) (by omega))
      have TL := box (Talk.run_T_le (parOf W τ d nk xs1 xs2 xs3) (fun q => by show (if q < xs1.length then xs1.getD q 0 % 4 else 0) ≤ 3; split <;> omega) 1560)
      clear i1 i2 i3 TS G
      generalize (Talk.run (parOf W τ d nk xs1 xs2 xs3) 1560).s = S at PL EN TL
      go_wp2_with fail
      refine PL.out.mono ?_
      rintro e w3 ⟨ao, co, aa, ca, g, B, O, v, s, T, R, rfl, hT, hR, hP, hS, b3⟩
      have FB := box (KS.out.trans (b3.mono KS.out.size))
      have hR2 : R = T := by rw [hR, hT]; exact EN.out.1
      have hA : s.ac = T := by rw [hS.ac, hT]; exact EN.out.2
      have hK : s.ks.length = 0 := by rw [hS.len, EN.out.2]; omega
      have hTl : T ≤ 4680 := by rw [hT]; exact TL.out
      subst hR2
      have TO := box (ptotal_any B O g v s w3 hP (by omega) (by omega))
      rw [hA, hK] at TO
      have HP := box hP
      have HK := box hK
      clear PL b3 q0 q1 q2 q3 q4 q5 q6 hT hR hP hS EN TL hA hK KS
      go_wp2_with fail
      refine TO.out.mono ?_
      rintro e w4 ⟨rfl, t4, rfl⟩
      have KP := box (pkept_any B O g v s (w3.drewN t4) (HP.out.keep (drewN_below _ _)))
      rw [HK.out] at KP
      clear TO
      go_wp2_with fail
      refine KP.out.mono ?_
      rintro e w5 ⟨rfl, rfl⟩
      go_wp2_with fail
      go_ret
      exact ⟨rfl, FB.out.trans ((drewN_below w3 t4).mono FB.out.size)⟩
    · have TS := box (show TkIn (w2.setCell ⟨xb, 1, none⟩ (.int .i64 (2 * (d : Int) + 3))) xb W (2 * (d : Int) + 3) d a1 l1 c1 a2 l2 c2 a3 l3 c3 nk from ⟨cell_else (by decide) q0 _, cell_put q1 _, cell_else (by decide) q2 _, cell_else (by decide) q3 _, cell_else (by decide) q4 _, cell_else (by decide) q5 _, cell_else (by decide) q6 _⟩)
      have KS := box (show Below w.heap.size w (w2.setCell ⟨xb, 1, none⟩ (.int .i64 (2 * (d : Int) + 3))) from ((Apart.refl xb none w2).setCell 1 _).below K2.out K2.out.size (Nat.le_of_eq HXB.out) (fun k hk => by cases hk))
      go_wp2_with fail
      generalize w2.setCell ⟨xb, 1, none⟩ (.int .i64 (2 * (d : Int) + 3)) = ws at TS KS ⊢
      clear q0 q1 q2 q3 q4 q5 q6 z1 zl T2 K2 Z2
      obtain ⟨q0, q1, q2, q3, q4, q5, q6⟩ := TS.out
      have PL := box (play_of nk a1 l1 c1 xs1 hl1 a2 l2 c2 xs2 hl2 a3 l3 c3 xs3 hl3 hx1 hx2 hx3 W (2 * d + 3) d (by omega) (by omega) (by omega) (by omega) (by omega) 1560 (by decide) 1560 rfl (2 * (d : Int) + 3) (by omega) ws (i1.below KS.out) (i2.below KS.out) (i3.below KS.out))
      have EN := box (par_ends W (2 * d + 3) d nk xs1 xs2 xs3 (by rw [hl1]; exact G.out.1) (by rw [hl2]; exact G.out.2.1) (by rw [hl3]; exact G.out.2.2) (by omega) (by omega) (by omega))
      have TL := box (Talk.run_T_le (parOf W (2 * d + 3) d nk xs1 xs2 xs3) (fun q => by show (if q < xs1.length then xs1.getD q 0 % 4 else 0) ≤ 3; split <;> omega) 1560)
      clear i1 i2 i3 TS G
      generalize (Talk.run (parOf W (2 * d + 3) d nk xs1 xs2 xs3) 1560).s = S at PL EN TL
      go_wp2_with fail
      refine PL.out.mono ?_
      rintro e w3 ⟨ao, co, aa, ca, g, B, O, v, s, T, R, rfl, hT, hR, hP, hS, b3⟩
      have FB := box (KS.out.trans (b3.mono KS.out.size))
      have hR2 : R = T := by rw [hR, hT]; exact EN.out.1
      have hA : s.ac = T := by rw [hS.ac, hT]; exact EN.out.2
      have hK : s.ks.length = 0 := by rw [hS.len, EN.out.2]; omega
      have hTl : T ≤ 4680 := by rw [hT]; exact TL.out
      subst hR2
      have TO := box (ptotal_any B O g v s w3 hP (by omega) (by omega))
      rw [hA, hK] at TO
      have HP := box hP
      have HK := box hK
      clear PL b3 q0 q1 q2 q3 q4 q5 q6 hT hR hP hS EN TL hA hK KS
      go_wp2_with fail
      refine TO.out.mono ?_
      rintro e w4 ⟨rfl, t4, rfl⟩
      have KP := box (pkept_any B O g v s (w3.drewN t4) (HP.out.keep (drewN_below _ _)))
      rw [HK.out] at KP
      clear TO
      go_wp2_with fail
      refine KP.out.mono ?_
      rintro e w5 ⟨rfl, rfl⟩
      go_wp2_with fail
      go_ret
      exact ⟨rfl, FB.out.trans ((drewN_below w3 t4).mono FB.out.size)⟩
  · rw [decide_eq_false hF]
    clear hF T2 i1 i2 i3
    go_wp2_with fail
    go_ret
    exact ⟨rfl, K2.out⟩
end Go.Proofs.Ytfpicobjnpjhlaa
