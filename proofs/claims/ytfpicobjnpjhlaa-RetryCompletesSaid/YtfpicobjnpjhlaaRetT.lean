/- The reference's Nak and its receiver. -/
import Derived.Test.YtfpicobjnpjhlaaRetR
namespace Go.Proofs.Ytfpicobjnpjhlaa
open Go.RowKit

/-- The sender's numbers change, and nothing else. -/
theorem RsAt.mod {B : Nat} {E : Nat → Prop} {w w' : World} {g : Nat} {v : Value} {s s' : Rs} (x : RsAt B E w g v s) (hs : w.heap.size ≤ w'.heap.size) (hk : ∀ k, k ≠ g → w'.heap[k]? = w.heap[k]?) (e : s'.ks = s.ks)
    (m : R8 w' g (.int .i64 s'.W) (.int .i64 s'.τ) v (.int .i64 s'.ta) (.int .i64 s'.ac) (.int .i64 s'.nx) (.int .i64 s'.hi) (.int .i64 s'.si)) : RsAt B E w' g v s' :=
  ⟨m, by rw [e]; exact x.row.same hs (fun k h => hk k (fun e => x.far (by rw [← e]; exact h))), x.far, x.bg, x.out, fun y hy => (x.syms y (e ▸ hy)).keep (fun k _ h => hk k (fun e => h (.inr (.inl e))))⟩

def nakS (s : Rs) (n : Int) : Rs := if cntR s.ac s.hi n < 0 then s else ⟨s.W, s.τ, (ackS s n).ks, (ackS s n).ta, (ackS s n).ac, 0, (ackS s n).hi, 0⟩

set_option maxHeartbeats 2000000 in
theorem rnak_any (n : Int) (B : Nat) (E : Nat → Prop) (g : Nat) (v : Value) (s : Rs) (w : World) (x : RsAt B E w g v s) (hh : s.hi ≤ s.ks.length) (b1 : s.ac < 1000000) (b2 : s.nx < 1000000) (b3 : s.hi < 1000000) :
    Calls Try.prog 21 #[.pointer (some ⟨g, 0, none⟩), .int .i64 n] w fun e w' => ∃ v', e = .returned (.int .i64 (ackK s n)) ∧ RsAt B E w' g v' (nakS s n) ∧ Steps g v v' w w' := by
  have X := box x
  have C := box (rcount_any n g _ _ _ _ _ _ s.ac s.hi w x.m)
  have AK := box (rack_any n B E g v s w x hh b1 b2 b3)
  by_cases hk : cntR s.ac s.hi n < 0
  · have e1 : ackK s n = 0 := by unfold ackK; omega
    have e2 : nakS s n = s := by unfold nakS; rw [if_pos hk]
    rw [e1, e2]
    generalize cntR s.ac s.hi n = k at C hk
    clear x e1 e2 AK
    go_enter Try.func21, Try.ntmps21
    go_wp2_with fail
    refine C.out.mono ?_
    rintro e w2 ⟨rfl, rfl⟩
    go_wp2_with fail
    go_ret
    exact ⟨v, rfl, X.out, Steps.refl _ _ _⟩
  · have e2 : nakS s n = ⟨s.W, s.τ, (ackS s n).ks, (ackS s n).ta, (ackS s n).ac, 0, (ackS s n).hi, 0⟩ := by unfold nakS; rw [if_neg hk]
    rw [e2]
    have eW : (ackS s n).W = s.W := by unfold ackS; split <;> rfl
    have eT : (ackS s n).τ = s.τ := by unfold ackS; split <;> rfl
    have EW := box eW
    have ET := box eT
    generalize ackS s n = s2 at AK EW ET ⊢
    generalize ackK s n = K at AK ⊢
    generalize cntR s.ac s.hi n = k at C hk
    clear x e2 eW eT
    go_enter Try.func21, Try.ntmps21
    go_wp2_with fail
    refine C.out.mono ?_
    rintro e w2 ⟨rfl, rfl⟩
    go_wp2_with fail
    refine AK.out.mono ?_
    rintro e w3 ⟨v3, rfl, x3, st3⟩
    have X3 := box x3
    have ST3 := box st3
    obtain ⟨p0, p1, p2, p3, p4, p5, p6, p7, pz⟩ := x3.m
    clear x3 st3
    go_wp2_with fail
    go_ret
    refine ⟨v3, rfl, X3.out.mod (by simp) (fun k hk => ?_) rfl ?_, ⟨((ST3.out.apart).setCell 5 _).setCell 7 _, ST3.out.far⟩⟩
    · have h : ∀ (w : World) (i : Nat) (u : Value), (w.setCell ⟨g, i, none⟩ u).heap[k]? = w.heap[k]? := fun w i u => heap_else (fun e => hk e.symm) u
      rw [h, h]
    · have h := (X3.out.m.set5 (.int .i64 0)).set7 (.int .i64 0)
      rw [EW.out, ET.out] at h
      exact h

/-- The reference's receiver. -/
structure RcvAt (w : World) (g : Nat) (R : Nat) : Prop where
  q : w.cell? ⟨g, 0, none⟩ = some (.int .i64 R)
  z : w.frozen? ⟨g, 0, none⟩ = false
set_option maxHeartbeats 1000000 in
theorem rreceive_any (n : Int) (g R : Nat) (w : World) (x : RcvAt w g R) (hR : R < 1000000) :
    Calls Try.prog 27 #[.pointer (some ⟨g, 0, none⟩), .int .i64 n] w fun e w' => e = .returned (.bool (decide (n = (R : Int) % 256))) ∧ w' = if n = (R : Int) % 256 then w.setCell ⟨g, 0, none⟩ (.int .i64 ((R : Int) + 1)) else w := by
  obtain ⟨q, z⟩ := x
  by_cases h : n = (R : Int) % 256
  · rw [if_pos h, decide_eq_true h]
    have hb : (n != (R : Int) % 256) = false := by simp [h]
    clear h
    go_enter Try.func27, Try.ntmps27
    go_wp2_with fail
    go_ret
    exact ⟨rfl, rfl⟩
  · rw [if_neg h, decide_eq_false h]
    have hb : (n != (R : Int) % 256) = true := by simp [h]
    clear h
    go_enter Try.func27, Try.ntmps27
    go_wp2_with fail
    go_ret
    exact ⟨rfl, rfl⟩
end Go.Proofs.Ytfpicobjnpjhlaa
