/- The program's sender: going back, an acknowledgment. -/
import Derived.Test.YtfpicobjnpjhlaaRetV0
namespace Go.Proofs.Ytfpicobjnpjhlaa
open Go.RowKit

set_option maxHeartbeats 1000000 in
theorem goback_any (B : Nat) (E : Nat → Prop) (g : Nat) (v : Value) (s : Rs) (w : World) (x : PsAt B E w g v s) :
    Calls Try.prog 36 #[.pointer (some ⟨g, 0, none⟩)] w fun e w' => e = .returned (.tuple #[]) ∧ PsAt B E w' g v ⟨s.W, s.τ, s.ks, s.ta, s.ac, 0, s.hi, 0⟩ ∧ Steps g v v w w' := by
  have X := box x
  obtain ⟨p0, p1, p2, p3, p4, p5, p6, pz⟩ := x.m
  clear x
  go_enter Try.func36, Try.ntmps36
  go_wp2_with fail
  go_end0
  refine ⟨rfl, X.out.mod (by simp) (fun k hk => by rw [oth_set hk, oth_set hk]) rfl ?_, ⟨((Apart.refl _ _ _).setCell 3 _).setCell 5 _, fun k hk => .inl hk⟩⟩
  exact (X.out.m.set3 (.int .i64 0)).set5 (.int .i64 0)

set_option maxRecDepth 100000 in
set_option maxHeartbeats 2000000 in
theorem acknowledge_any (n : Int) (B : Nat) (E : Nat → Prop) (g : Nat) (v : Value) (s : Rs) (w : World) (x : PsAt B E w g v s) (hh : s.hi ≤ s.ks.length) (b1 : s.ac < 1000000) (b2 : s.nx < 1000000) (b3 : s.hi < 1000000) :
    Calls Try.prog 34 #[.pointer (some ⟨g, 0, none⟩), .int .i64 n] w fun e w' => ∃ v', e = .returned (.tuple #[.int .i64 (ackK s n), .bool (decide (0 ≤ cntR s.ac s.hi n))]) ∧ PsAt B E w' g v' (ackS s n) ∧ Steps g v v' w w' := by
  have X := box x
  have hc := cntR_le s.ac s.hi n
  by_cases hk : cntR s.ac s.hi n ≤ 0
  · have e1 : ackK s n = 0 := by unfold ackK; omega
    have e2 : ackS s n = s := by unfold ackS; rw [if_pos hk]
    rw [e1, e2]
    have FIN := box (show PsAt B E w g v s ∧ Steps g v v w w from ⟨x, Steps.refl _ _ _⟩)
    obtain ⟨p0, p1, p2, p3, p4, p5, p6, pz⟩ := x.m
    clear e1 e2 hc x X
    by_cases h0 : n < 0
    · have e : decide (0 ≤ cntR s.ac s.hi n) = false := by unfold cntR; rw [if_pos (.inl h0)]; decide
      rw [e]
      clear hk e
      go_enter Try.func34, Try.ntmps34
      go_wp2_with fail
      go_ret2
      (first | exact ⟨v, rfl, FIN.out⟩ | exact ⟨rfl, v, FIN.out⟩)
    by_cases h1 : 255 < n
    · have e : decide (0 ≤ cntR s.ac s.hi n) = false := by unfold cntR; rw [if_pos (.inr h1)]; decide
      rw [e]
      clear hk e
      go_enter Try.func34, Try.ntmps34
      go_wp2_with fail
      go_ret2
      (first | exact ⟨v, rfl, FIN.out⟩ | exact ⟨rfl, v, FIN.out⟩)
    obtain ⟨q, rfl⟩ := Int.eq_ofNat_of_zero_le (show 0 ≤ n by omega)
    have hcn : cntR s.ac s.hi q = if (s.hi : Int) < ((q : Int) - (s.ac : Int)) % 256 then -1 else ((q : Int) - (s.ac : Int)) % 256 := by unfold cntR; rw [if_neg (by omega)]
    rw [hcn] at hk ⊢
    clear hcn
    by_cases h2 : (s.hi : Int) < ((q : Int) - (s.ac : Int)) % 256
    · rw [if_pos h2]
      clear hk
      have h3 : (s.hi : Int) < ((q : Int) - (s.ac : Int) % 256 + 256) % 256 := by omega
      clear h2
      go_enter Try.func34, Try.ntmps34
      go_wp2_with fail
      go_ret2
      (first | exact ⟨v, rfl, FIN.out⟩ | exact ⟨rfl, v, FIN.out⟩)
    · rw [if_neg h2] at hk ⊢
      have h3 : ((q : Int) - (s.ac : Int) % 256 + 256) % 256 = 0 := by omega
      have h4 : decide (0 ≤ ((q : Int) - (s.ac : Int)) % 256) = true := decide_eq_true (by omega)
      rw [h4]
      clear h2 hk h4
      go_enter Try.func34, Try.ntmps34
      go_wp2_with fail
      go_ret2
      (first | exact ⟨v, rfl, FIN.out⟩ | exact ⟨rfl, v, FIN.out⟩)
  · obtain ⟨K, hK⟩ : ∃ K, ackK s n = K := ⟨_, rfl⟩
    have e1 : cntR s.ac s.hi n = (K : Int) := by unfold ackK at hK; omega
    have e2 : ackS s n = ⟨s.W, s.τ, s.ks.drop K, s.ta, s.ac + K, s.nx - K, s.hi - K, 0⟩ := by unfold ackS; rw [if_neg hk, hK]
    have e3 : decide (0 ≤ cntR s.ac s.hi n) = true := decide_eq_true (by omega)
    rw [hK, e2, e3]
    generalize hS : (⟨s.W, s.τ, s.ks.drop K, s.ta, s.ac + K, s.nx - K, s.hi - K, 0⟩ : Rs) = S'
    obtain ⟨hn0, hn1, hKq⟩ : 0 ≤ n ∧ n ≤ 255 ∧ (n - (s.ac : Int) % 256 + 256) % 256 = (K : Int) := by
      have h := e1
      unfold cntR at h
      split at h
      · omega
      · split at h <;> omega
    rw [e1] at hc hk
    have k1 : 1 ≤ K := by omega
    have k2 : K ≤ s.hi := by omega
    clear hK e1 e2 e3 hc hk
    obtain ⟨q, rfl⟩ := Int.eq_ofNat_of_zero_le hn0
    obtain ⟨m, row, far, bg, out, syms⟩ := x
    rcases row with ⟨rfl, h0⟩ | ⟨r, i, cap, rfl, r1, r2, r3, r4, r5, r6⟩
    · have : s.ks = [] := by simpa using h0
      rw [this] at hh
      simp at hh
      omega
    · rw [List.length_map] at r3 m X far out syms ⊢
      have HCUT := box (QRow.cut (k := K) (B := B) (w := w) X.out.row (by rw [List.length_map]; omega))
      have hrg : r ≠ g := fun e => far (by rw [e]; rfl)
      have fin : ∀ (i' n' cap' : Nat) (nx' : Int), QRow B w (.slice (some ⟨r, i', none⟩) n' cap') ((s.ks.map kpV).drop K) → nx' = ((s.nx - K : Nat) : Int) →
          PsAt B E (((((w.setCell ⟨g, 2, none⟩ (.slice (some ⟨r, i', none⟩) n' cap')).setCell ⟨g, 6, none⟩ (.int .i64 ((s.ac : Int) + (K : Int)))).setCell ⟨g, 4, none⟩ (.int .i64 ((s.hi : Int) - (K : Int)))).setCell ⟨g, 5, none⟩ (.int .i64 0)).setCell ⟨g, 3, none⟩ (.int .i64 nx')) g (.slice (some ⟨r, i', none⟩) n' cap') S' ∧
          Steps g (.slice (some ⟨r, i, none⟩) s.ks.length cap) (.slice (some ⟨r, i', none⟩) n' cap') w (((((w.setCell ⟨g, 2, none⟩ (.slice (some ⟨r, i', none⟩) n' cap')).setCell ⟨g, 6, none⟩ (.int .i64 ((s.ac : Int) + (K : Int)))).setCell ⟨g, 4, none⟩ (.int .i64 ((s.hi : Int) - (K : Int)))).setCell ⟨g, 5, none⟩ (.int .i64 0)).setCell ⟨g, 3, none⟩ (.int .i64 nx')) := by
        intro i' n' cap' nx' hq hnx
        subst hS
        have hap : Apart g (some r) w (((((w.setCell ⟨g, 2, none⟩ (.slice (some ⟨r, i', none⟩) n' cap')).setCell ⟨g, 6, none⟩ (.int .i64 ((s.ac : Int) + (K : Int)))).setCell ⟨g, 4, none⟩ (.int .i64 ((s.hi : Int) - (K : Int)))).setCell ⟨g, 5, none⟩ (.int .i64 0)).setCell ⟨g, 3, none⟩ (.int .i64 nx')) :=
          (((((Apart.refl _ _ _).setCell 2 _).setCell 6 _).setCell 4 _).setCell 5 _).setCell 3 _
        have hoth : ∀ k, k ≠ g → (((((w.setCell ⟨g, 2, none⟩ (.slice (some ⟨r, i', none⟩) n' cap')).setCell ⟨g, 6, none⟩ (.int .i64 ((s.ac : Int) + (K : Int)))).setCell ⟨g, 4, none⟩ (.int .i64 ((s.hi : Int) - (K : Int)))).setCell ⟨g, 5, none⟩ (.int .i64 0)).setCell ⟨g, 3, none⟩ (.int .i64 nx')).heap[k]? = w.heap[k]? := by
          intro k hk
          rw [oth_set hk, oth_set hk, oth_set hk, oth_set hk, oth_set hk]
        refine ⟨⟨?_, ?_, far, bg, out, fun y hy => ?_⟩, hap, fun k hk => .inl hk⟩
        · have h := ((((m.set2 (.slice (some ⟨r, i', none⟩) n' cap')).set6 (.int .i64 ((s.ac : Int) + (K : Int)))).set4 (.int .i64 ((s.hi : Int) - (K : Int)))).set5 (.int .i64 0)).set3 (.int .i64 nx')
          have e1 : ((s.ac + K : Nat) : Int) = (s.ac : Int) + (K : Int) := by omega
          have e2 : ((s.hi - K : Nat) : Int) = (s.hi : Int) - (K : Int) := by omega
          have e3 : ((0 : Nat) : Int) = 0 := rfl
          rw [e1, e2, ← hnx, e3]
          exact h
        · rw [List.map_drop]
          exact hq.same hap.size (fun k hk => hoth k (fun e => far (by rw [← e]; exact hk)))
        · exact (syms y (List.mem_of_mem_drop hy)).keep (fun k _ hk => hoth k (fun e => hk (.inr (.inl e))))
      have FIN := box fin
      have hA : s.ks.drop K = [] → QRow B w (.slice (some ⟨r, i, none⟩) 0 0) ((s.ks.map kpV).drop K) := by
        intro h0
        rw [← List.map_drop, h0]
        exact .inr ⟨r, i, 0, rfl, r1, r2, Nat.le_refl _, Nat.zero_le _, (fun j u hu => by simp at hu), (fun j hj => by omega)⟩
      have HA := box hA
      obtain ⟨p0, p1, p2, p3, p4, p5, p6, pz⟩ := m
      clear r5 r6 fin hA syms out far hS
      obtain ⟨L, hL⟩ : ∃ L, s.ks.length = L := ⟨_, rfl⟩
      have HL := box hL
      rw [hL] at p2 r3 hh
      clear hL
      have hd : (cap = K → s.ks.drop K = []) := fun e => List.drop_eq_nil_of_le (by rw [HL.out]; omega)
      have HD := box hd
      clear hd
      by_cases hcap : cap = K
      · subst hcap
        obtain rfl : L = cap := by omega
        by_cases hnx : s.nx < L
        · go_enter Try.func34, Try.ntmps34
          go_wp2_with fail
          go_ret2
          have hf := FIN.out i 0 0 0 (HA.out (HD.out (by trivial))) (by omega)
          exact ⟨rfl, _, hf⟩
        · go_enter Try.func34, Try.ntmps34
          go_wp2_with fail
          go_ret2
          have hf := FIN.out i 0 0 ((s.nx : Int) - (L : Int)) (HA.out (HD.out (by trivial))) (by omega)
          exact ⟨rfl, _, hf⟩
      · have hd := HCUT.out
        rw [HL.out] at hd
        have HD := box hd
        clear hd
        by_cases hnx : s.nx < K
        · go_enter Try.func34, Try.ntmps34
          go_wp2_with fail
          go_ret2
          have hf := FIN.out (i + K) (L - K) (cap - K) 0 HD.out (by omega)
          refine ⟨_, ?_, hf⟩
          · show Ending.returned (.tuple #[.int .i64 (((q : Int) - (s.ac : Int) % 256 + 256) % 256), .bool true]) = _
            rw [hKq]
        · go_enter Try.func34, Try.ntmps34
          go_wp2_with fail
          go_ret2
          have hf := FIN.out (i + K) (L - K) (cap - K) ((s.nx : Int) - (K : Int)) HD.out (by omega)
          refine ⟨_, ?_, hf⟩
          · show Ending.returned (.tuple #[.int .i64 (((q : Int) - (s.ac : Int) % 256 + 256) % 256), .bool true]) = _
            rw [hKq]
end Go.Proofs.Ytfpicobjnpjhlaa
