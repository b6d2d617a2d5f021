/- The program's sender: Ack, Nak, Kept, Total, what a tick does first; a new sender; the receiver; nil pointers. -/
import Derived.Test.YtfpicobjnpjhlaaRetV
namespace Go.Proofs.Ytfpicobjnpjhlaa
open Go.RowKit

set_option maxRecDepth 100000 in
set_option maxHeartbeats 1000000 in
theorem pack_any (n : Int) (B : Nat) (E : Nat → Prop) (g : Nat) (v : Value) (s : Rs) (w : World) (x : PsAt B E w g v s) (hh : s.hi ≤ s.ks.length) (b1 : s.ac < 1000000) (b2 : s.nx < 1000000) (b3 : s.hi < 1000000) :
    Calls Try.prog 18 #[.pointer (some ⟨g, 0, none⟩), .int .i64 n] w fun e w' => ∃ v', e = .returned (.int .i64 (ackK s n)) ∧ PsAt B E w' g v' (ackS s n) ∧ Steps g v v' w w' := by
  have A := box (acknowledge_any n B E g v s w x hh b1 b2 b3)
  clear x
  generalize ackS s n = s2 at A ⊢
  generalize ackK s n = K at A ⊢
  generalize decide (0 ≤ cntR s.ac s.hi n) = ok at A
  go_enter Try.func18, Try.ntmps18
  go_wp2_with fail
  refine A.out.mono ?_
  rintro e w2 ⟨v2, rfl, x2, st2⟩
  have X2 := box x2
  have S2 := box st2
  clear x2 st2
  go_wp2_with fail
  go_ret
  exact ⟨v2, rfl, X2.out, S2.out⟩

set_option maxRecDepth 100000 in
set_option maxHeartbeats 1000000 in
theorem pnak_any (n : Int) (B : Nat) (E : Nat → Prop) (g : Nat) (v : Value) (s : Rs) (w : World) (x : PsAt B E w g v s) (hh : s.hi ≤ s.ks.length) (b1 : s.ac < 1000000) (b2 : s.nx < 1000000) (b3 : s.hi < 1000000) :
    Calls Try.prog 20 #[.pointer (some ⟨g, 0, none⟩), .int .i64 n] w fun e w' => ∃ v', e = .returned (.int .i64 (ackK s n)) ∧ PsAt B E w' g v' (nakS s n) ∧ Steps g v v' w w' := by
  have A := box (acknowledge_any n B E g v s w x hh b1 b2 b3)
  clear x
  by_cases hk : cntR s.ac s.hi n < 0
  · have e1 : decide (0 ≤ cntR s.ac s.hi n) = false := decide_eq_false (by omega)
    have e2 : nakS s n = s := by unfold nakS; rw [if_pos hk]
    have e3 : ackS s n = s := by unfold ackS; rw [if_pos (by omega)]
    rw [e1, e3] at A
    rw [e2]
    clear e1 e2 e3 hk
    generalize ackK s n = K at A ⊢
    go_enter Try.func20, Try.ntmps20
    go_wp2_with fail
    refine A.out.mono ?_
    rintro e w2 ⟨v2, rfl, x2, st2⟩
    have X2 := box x2
    have S2 := box st2
    clear x2 st2
    go_wp2_with fail
    go_ret
    exact ⟨v2, rfl, X2.out, S2.out⟩
  · have e1 : decide (0 ≤ cntR s.ac s.hi n) = true := decide_eq_true (by omega)
    have e2 : nakS s n = ⟨(ackS s n).W, (ackS s n).τ, (ackS s n).ks, (ackS s n).ta, (ackS s n).ac, 0, (ackS s n).hi, 0⟩ := by unfold nakS; rw [if_neg hk, (ackS_W s n).1, (ackS_W s n).2]
    rw [e1] at A
    rw [e2]
    clear e1 e2 hk
    generalize ackS s n = s2 at A ⊢
    generalize ackK s n = K at A ⊢
    generalize hR : (⟨s2.W, s2.τ, s2.ks, s2.ta, s2.ac, 0, s2.hi, 0⟩ : Rs) = s3
    have GB : ∀ v2 w2, PsAt B E w2 g v2 s2 → Calls Try.prog 36 #[.pointer (some ⟨g, 0, none⟩)] w2 fun e w' => e = .returned (.tuple #[]) ∧ PsAt B E w' g v2 s3 ∧ Steps g v2 v2 w2 w' := by
      subst hR
      exact fun v2 w2 x => goback_any B E g v2 s2 w2 x
    clear hR
    have GB2 := box GB
    clear GB
    go_enter Try.func20, Try.ntmps20
    go_wp2_with fail
    refine A.out.mono ?_
    rintro e w2 ⟨v2, rfl, x2, st2⟩
    have S2 := box st2
    have G := box (GB2.out v2 w2 x2)
    clear x2 st2 GB2
    go_wp2_with fail
    refine G.out.mono ?_
    rintro e w3 ⟨rfl, x3, st3⟩
    have X3 := box x3
    have S3 := box (S2.out.trans st3)
    clear x3 st3
    go_wp2_with fail
    go_ret
    exact ⟨v2, rfl, X3.out, S3.out⟩

theorem PsAt.len {B : Nat} {E : Nat → Prop} {w : World} {g : Nat} {v : Value} {s : Rs} (x : PsAt B E w g v s) : ∃ a c, v = .slice a s.ks.length c := by
  rcases x.row with ⟨rfl, h0⟩ | ⟨r, i, cap, rfl, _⟩
  · have : s.ks = [] := by simpa using h0
    rw [this]
    exact ⟨none, 0, rfl⟩
  · exact ⟨_, cap, by rw [List.length_map]⟩

set_option maxHeartbeats 1000000 in
theorem pkept_any (B : Nat) (E : Nat → Prop) (g : Nat) (v : Value) (s : Rs) (w : World) (x : PsAt B E w g v s) :
    Calls Try.prog 23 #[.pointer (some ⟨g, 0, none⟩)] w fun e w' => e = .returned (.int .i64 s.ks.length) ∧ w = w' := by
  obtain ⟨a, c, rfl⟩ := x.len
  obtain ⟨p0, p1, p2, p3, p4, p5, p6, pz⟩ := x.m
  clear x
  go_enter Try.func23, Try.ntmps23
  go_wp2_with fail
  go_ret
  exact ⟨rfl, rfl⟩

set_option maxHeartbeats 1000000 in
theorem ptotal_any (B : Nat) (E : Nat → Prop) (g : Nat) (v : Value) (s : Rs) (w : World) (x : PsAt B E w g v s) (b1 : s.ac < 1000000) (b2 : s.ks.length < 1000000) :
    Calls Try.prog 22 #[.pointer (some ⟨g, 0, none⟩)] w fun e w' => e = .returned (.tuple #[.int .i64 ((s.ac : Int) + (s.ks.length : Int)), .int .i64 s.ac]) ∧ ∃ t, w' = w.drewN t := by
  obtain ⟨a, c, rfl⟩ := x.len
  obtain ⟨p0, p1, p2, p3, p4, p5, p6, pz⟩ := x.m
  clear x
  go_enter Try.func22, Try.ntmps22
  go_wp2_with fail
  go_quiet (fail)
  go_wp2_with fail
  go_ret2
  exact ⟨rfl, _, rfl⟩

theorem drewN_below (w : World) (t : Nat) : Below w.heap.size w (w.drewN t) := ⟨rfl, rfl, rfl, Nat.le_refl _, fun _ _ => rfl⟩
/-- What a tick does ahead of sending. -/
def dueS (s : Rs) : Rs := if s.nx < s.ks.length then s else if s.ks.length = 0 then s else if s.si + 1 < s.τ then ⟨s.W, s.τ, s.ks, s.ta, s.ac, s.nx, s.hi, s.si + 1⟩ else ⟨s.W, s.τ, s.ks, s.ta, s.ac, 0, s.hi, 0⟩

set_option maxRecDepth 100000 in
set_option maxHeartbeats 2000000 in
theorem due_any (B : Nat) (E : Nat → Prop) (g : Nat) (v : Value) (s : Rs) (w : World) (x : PsAt B E w g v s) (b2 : s.si < 1000000) :
    Calls Try.prog 32 #[.pointer (some ⟨g, 0, none⟩)] w fun e w' => e = .returned (.bool (tickI s).isSome) ∧ PsAt B E w' g v (dueS s) ∧ Steps g v v w w' := by
  have kD : ∀ (w : World) q, Below w.heap.size w (w.drewN q) := fun w q => drewN_below w q
  have KD := box kD
  have X := box x
  obtain ⟨a, c, rfl⟩ := x.len
  obtain ⟨p0, p1, p2, p3, p4, p5, p6, pz⟩ := x.m
  clear x kD
  by_cases h1 : s.nx < s.ks.length
  · have e1 : (tickI s).isSome = true := by unfold tickI; rw [if_pos h1]; rfl
    have e2 : dueS s = s := by unfold dueS; rw [if_pos h1]
    rw [e1, e2]
    clear e1 e2
    go_enter Try.func32, Try.ntmps32
    go_wp2_with fail
    go_quiet (fail)
    go_wp2_with fail
    go_ret
    exact ⟨rfl, X.out.keep (KD.out _ _), Steps.ofBelow (KD.out _ _)⟩
  by_cases h2 : s.ks.length = 0
  · have e1 : (tickI s).isSome = false := by unfold tickI; rw [if_neg h1, if_pos h2]; rfl
    have e2 : dueS s = s := by unfold dueS; rw [if_neg h1, if_pos h2]
    rw [e1, e2]
    clear e1 e2
    go_enter Try.func32, Try.ntmps32
    go_wp2_with fail
    go_quiet (fail)
    go_wp2_with fail
    go_ret
    exact ⟨rfl, X.out.keep (KD.out _ _), Steps.ofBelow (KD.out _ _)⟩
  by_cases h3 : s.si + 1 < s.τ
  · have e1 : (tickI s).isSome = false := by unfold tickI; rw [if_neg h1, if_neg h2, if_pos h3]; rfl
    have e2 : dueS s = ⟨s.W, s.τ, s.ks, s.ta, s.ac, s.nx, s.hi, s.si + 1⟩ := by unfold dueS; rw [if_neg h1, if_neg h2, if_pos h3]
    rw [e1, e2]
    clear e1 e2
    have FIN := box (show ∀ w1, Below w.heap.size w w1 → ∀ q, PsAt B E ((w1.setCell ⟨g, 5, none⟩ (.int .i64 ((s.si : Int) + 1))).drewN q) g (.slice a s.ks.length c) ⟨s.W, s.τ, s.ks, s.ta, s.ac, s.nx, s.hi, s.si + 1⟩ ∧ Steps g (.slice a s.ks.length c) (.slice a s.ks.length c) w ((w1.setCell ⟨g, 5, none⟩ (.int .i64 ((s.si : Int) + 1))).drewN q) from fun w1 hb q => by
      have x1 := X.out.keep hb
      refine ⟨PsAt.keep (x1.mod (s' := ⟨s.W, s.τ, s.ks, s.ta, s.ac, s.nx, s.hi, s.si + 1⟩) (by simp) (fun k hk => oth_set hk _ _ _) rfl ?_) (KD.out _ _), ?_⟩
      · have h := x1.m.set5 (.int .i64 ((s.si : Int) + 1))
        exact h
      · exact ((Steps.ofBelow hb).trans ⟨(Apart.refl _ _ _).setCell 5 _, fun k hk => .inl hk⟩).trans (Steps.ofBelow (KD.out _ _)))
    have M1 : ∀ q, R7 (w.drewN q) g (.int .i64 s.W) (.int .i64 s.τ) (.slice a s.ks.length c) (.int .i64 s.nx) (.int .i64 s.hi) (.int .i64 s.si) (.int .i64 s.ac) := fun q => X.out.m.keep (KD.out _ _)
    have MM := box M1
    clear M1
    go_enter Try.func32, Try.ntmps32
    go_wp2_with fail
    go_quiet (fail)
    go_wp2_with fail
    go_quiet (fail)
    go_wp2_with fail
    go_ret
    exact ⟨rfl, FIN.out _ (KD.out _ _) _⟩
  · have e1 : (tickI s).isSome = true := by unfold tickI; rw [if_neg h1, if_neg h2, if_neg h3]; rfl
    have e2 : dueS s = ⟨s.W, s.τ, s.ks, s.ta, s.ac, 0, s.hi, 0⟩ := by unfold dueS; rw [if_neg h1, if_neg h2, if_neg h3]
    rw [e1, e2]
    clear e1 e2
    have FIN := box (show ∀ w1, Below w.heap.size w w1 → ∀ q, PsAt B E ((w1.setCell ⟨g, 5, none⟩ (.int .i64 ((s.si : Int) + 1))).drewN q) g (.slice a s.ks.length c) ⟨s.W, s.τ, s.ks, s.ta, s.ac, s.nx, s.hi, s.si + 1⟩ ∧ Steps g (.slice a s.ks.length c) (.slice a s.ks.length c) w ((w1.setCell ⟨g, 5, none⟩ (.int .i64 ((s.si : Int) + 1))).drewN q) from fun w1 hb q => by
      have x1 := X.out.keep hb
      refine ⟨PsAt.keep (x1.mod (s' := ⟨s.W, s.τ, s.ks, s.ta, s.ac, s.nx, s.hi, s.si + 1⟩) (by simp) (fun k hk => oth_set hk _ _ _) rfl ?_) (KD.out _ _), ?_⟩
      · have h := x1.m.set5 (.int .i64 ((s.si : Int) + 1))
        exact h
      · exact ((Steps.ofBelow hb).trans ⟨(Apart.refl _ _ _).setCell 5 _, fun k hk => .inl hk⟩).trans (Steps.ofBelow (KD.out _ _)))
    have GB := box (show ∀ w1, PsAt B E w1 g (.slice a s.ks.length c) ⟨s.W, s.τ, s.ks, s.ta, s.ac, s.nx, s.hi, s.si + 1⟩ → Calls Try.prog 36 #[.pointer (some ⟨g, 0, none⟩)] w1 fun e w' => e = .returned (.tuple #[]) ∧ PsAt B E w' g (.slice a s.ks.length c) ⟨s.W, s.τ, s.ks, s.ta, s.ac, 0, s.hi, 0⟩ ∧ Steps g (.slice a s.ks.length c) (.slice a s.ks.length c) w1 w' from fun w1 x1 => goback_any B E g _ ⟨s.W, s.τ, s.ks, s.ta, s.ac, s.nx, s.hi, s.si + 1⟩ w1 x1)
    have GC := box (show ∀ w1, Below w.heap.size w w1 → ∀ q, Calls Try.prog 36 #[.pointer (some ⟨g, 0, none⟩)] ((w1.setCell ⟨g, 5, none⟩ (.int .i64 ((s.si : Int) + 1))).drewN q) fun e w' => e = .returned (.tuple #[]) ∧ PsAt B E w' g (.slice a s.ks.length c) ⟨s.W, s.τ, s.ks, s.ta, s.ac, 0, s.hi, 0⟩ ∧ Steps g (.slice a s.ks.length c) (.slice a s.ks.length c) w w' from fun w1 hb q =>
      (GB.out _ (FIN.out w1 hb q).1).mono (fun e w' ⟨h1, h2, h3⟩ => ⟨h1, h2, (FIN.out w1 hb q).2.trans h3⟩))
    clear FIN GB
    go_enter Try.func32, Try.ntmps32
    go_wp2_with fail
    go_quiet (fail)
    go_wp2_with fail
    go_quiet (fail)
    go_wp2_with fail
    refine (GC.out _ (KD.out _ _) _).mono ?_
    rintro e w3 ⟨rfl, x3, st3⟩
    have X3 := box x3
    have S3 := box st3
    clear x3 st3
    go_wp2_with fail
    go_ret
    exact ⟨rfl, X3.out, S3.out⟩
end Go.Proofs.Ytfpicobjnpjhlaa
