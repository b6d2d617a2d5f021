/- The reference's sender in memory; its count of an acknowledgment. -/
import Derived.Test.YtfpicobjnpjhlaaRetS
namespace Go.Proofs.Ytfpicobjnpjhlaa
open Go.RowKit

/-- A kept packet: where it lies, what it says. -/
structure Kp where
  a : Option Addr
  xs : List Nat
  c : Nat
abbrev kpV (k : Kp) : Value := .slice k.a k.xs.length k.c
/-- The reference's sender. -/
structure Rs where
  W : Nat
  τ : Nat
  ks : List Kp
  ta : Nat
  ac : Nat
  nx : Nat
  hi : Nat
  si : Nat
/-- .. in memory: its block g, its row v, nothing of it in a block of E. -/
structure RsAt (B : Nat) (E : Nat → Prop) (w : World) (g : Nat) (v : Value) (s : Rs) : Prop where
  m : R8 w g (.int .i64 s.W) (.int .i64 s.τ) v (.int .i64 s.ta) (.int .i64 s.ac) (.int .i64 s.nx) (.int .i64 s.hi) (.int .i64 s.si)
  row : QRow B w v (s.ks.map kpV)
  far : v.ownBlock ≠ some g
  bg : B ≤ g
  out : ¬ E g ∧ ∀ k, v.ownBlock = some k → ¬ E k
  syms : ∀ x ∈ s.ks, SymIn (fun k => E k ∨ k = g ∨ v.ownBlock = some k) w x.a x.c x.xs

/-- What the reference's count answers. -/
def cntR (ac hi : Nat) (n : Int) : Int := if n < 0 ∨ 255 < n then -1 else if (hi : Int) < (n - (ac : Int)) % 256 then -1 else (n - (ac : Int)) % 256

set_option maxHeartbeats 2000000 in
theorem rcount_any (n : Int) (g : Nat) (y0 y1 y2 y3 y5 y7 : Value) (ac hi : Nat) (w : World) (m : R8 w g y0 y1 y2 y3 (.int .i64 ac) y5 (.int .i64 hi) y7) :
    Calls Try.prog 35 #[.pointer (some ⟨g, 0, none⟩), .int .i64 n] w fun e w' => e = .returned (.int .i64 (cntR ac hi n)) ∧ w = w' := by
  obtain ⟨p0, p1, p2, p3, p4, p5, p6, p7, pz⟩ := m
  by_cases h0 : n < 0
  · have e : cntR ac hi n = -1 := by unfold cntR; rw [if_pos (.inl h0)]
    rw [e]
    go_enter Try.func35, Try.ntmps35
    go_wp2_with fail
    go_ret
    exact ⟨rfl, rfl⟩
  by_cases h1 : 255 < n
  · have e : cntR ac hi n = -1 := by unfold cntR; rw [if_pos (.inr h1)]
    rw [e]
    go_enter Try.func35, Try.ntmps35
    go_wp2_with fail
    go_ret
    exact ⟨rfl, rfl⟩
  obtain ⟨q, rfl⟩ := Int.eq_ofNat_of_zero_le (show 0 ≤ n by omega)
  go_enter Try.func35, Try.ntmps35
  go_wp2_with fail
  · go_ret
    have e : cntR ac hi q = -1 := by unfold cntR; rw [if_neg (by omega), if_pos (by omega)]
    rw [e]
    exact ⟨rfl, rfl⟩
  · go_ret
    have e : cntR ac hi q = ((q : Int) - (ac : Int)) % 256 := by unfold cntR; rw [if_neg (by omega), if_neg (by omega)]
    rw [e]
    exact ⟨rfl, rfl⟩

theorem cntR_le (ac hi : Nat) (n : Int) : cntR ac hi n ≤ hi ∧ cntR ac hi n ≤ 255 := by
  unfold cntR
  split
  · omega
  · split <;> omega
/-- How many packets an acknowledgment acknowledges, and what it leaves. -/
def ackK (s : Rs) (n : Int) : Nat := (cntR s.ac s.hi n).toNat
def ackS (s : Rs) (n : Int) : Rs := if cntR s.ac s.hi n ≤ 0 then s else ⟨s.W, s.τ, s.ks.drop (ackK s n), s.ta, s.ac + ackK s n, s.nx - ackK s n, s.hi - ackK s n, 0⟩

set_option maxHeartbeats 2000000 in
theorem rack_any (n : Int) (B : Nat) (E : Nat → Prop) (g : Nat) (v : Value) (s : Rs) (w : World) (x : RsAt B E w g v s) (hh : s.hi ≤ s.ks.length) (b1 : s.ac < 1000000) (b2 : s.nx < 1000000) (b3 : s.hi < 1000000) :
    Calls Try.prog 19 #[.pointer (some ⟨g, 0, none⟩), .int .i64 n] w fun e w' => ∃ v', e = .returned (.int .i64 (ackK s n)) ∧ RsAt B E w' g v' (ackS s n) ∧ Steps g v v' w w' := by
  have X := box x
  have C := box (rcount_any n g _ _ _ _ _ _ s.ac s.hi w x.m)
  have hc := cntR_le s.ac s.hi n
  by_cases hk : cntR s.ac s.hi n ≤ 0
  · have e1 : ackK s n = 0 := by unfold ackK; omega
    have e2 : ackS s n = s := by unfold ackS; rw [if_pos hk]
    rw [e1, e2]
    generalize cntR s.ac s.hi n = k at C hk
    clear hc x e1 e2
    go_enter Try.func19, Try.ntmps19
    go_wp2_with fail
    refine C.out.mono ?_
    rintro e w2 ⟨rfl, rfl⟩
    go_wp2_with fail
    go_ret
    exact ⟨v, rfl, X.out, Steps.refl _ _ _⟩
  · obtain ⟨K, hK⟩ : ∃ K, ackK s n = K := ⟨_, rfl⟩
    have e1 : cntR s.ac s.hi n = (K : Int) := by unfold ackK at hK; omega
    have e2 : ackS s n = ⟨s.W, s.τ, s.ks.drop K, s.ta, s.ac + K, s.nx - K, s.hi - K, 0⟩ := by unfold ackS; rw [if_neg hk, hK]
    rw [hK, e2]
    rw [e1] at C hc hk
    have k1 : 1 ≤ K := by omega
    have k2 : K ≤ s.hi := by omega
    clear hK e1 e2 hc hk
    obtain ⟨m, row, far, bg, out, syms⟩ := x
    rcases row with ⟨rfl, h0⟩ | ⟨r, i, cap, rfl, r1, r2, r3, r4, r5, r6⟩
    · have : s.ks = [] := by simpa using h0
      rw [this] at hh
      simp at hh
      omega
    · rw [List.length_map] at r3 m X far out syms ⊢
      have HCUT := box (QRow.cut (k := K) (B := B) (w := w) X.out.row (by rw [List.length_map]; omega))
      have hrg : r ≠ g := fun e => far (by rw [e]; rfl)
      have fin : ∀ (i' n' cap' : Nat) (nx' : Int), QRow B w (.slice (some ⟨r, i', none⟩) n' cap') ((s.ks.map kpV).drop K) → nx' = ((s.nx - K : Nat) : Int) →
          RsAt B E (((((w.setCell ⟨g, 2, none⟩ (.slice (some ⟨r, i', none⟩) n' cap')).setCell ⟨g, 4, none⟩ (.int .i64 ((s.ac : Int) + (K : Int)))).setCell ⟨g, 5, none⟩ (.int .i64 nx')).setCell ⟨g, 6, none⟩ (.int .i64 ((s.hi : Int) - (K : Int)))).setCell ⟨g, 7, none⟩ (.int .i64 0)) g (.slice (some ⟨r, i', none⟩) n' cap') ⟨s.W, s.τ, s.ks.drop K, s.ta, s.ac + K, s.nx - K, s.hi - K, 0⟩ ∧
          Steps g (.slice (some ⟨r, i, none⟩) s.ks.length cap) (.slice (some ⟨r, i', none⟩) n' cap') w (((((w.setCell ⟨g, 2, none⟩ (.slice (some ⟨r, i', none⟩) n' cap')).setCell ⟨g, 4, none⟩ (.int .i64 ((s.ac : Int) + (K : Int)))).setCell ⟨g, 5, none⟩ (.int .i64 nx')).setCell ⟨g, 6, none⟩ (.int .i64 ((s.hi : Int) - (K : Int)))).setCell ⟨g, 7, none⟩ (.int .i64 0)) := by
        intro i' n' cap' nx' hq hnx
        have hap : Apart g (some r) w (((((w.setCell ⟨g, 2, none⟩ (.slice (some ⟨r, i', none⟩) n' cap')).setCell ⟨g, 4, none⟩ (.int .i64 ((s.ac : Int) + (K : Int)))).setCell ⟨g, 5, none⟩ (.int .i64 nx')).setCell ⟨g, 6, none⟩ (.int .i64 ((s.hi : Int) - (K : Int)))).setCell ⟨g, 7, none⟩ (.int .i64 0)) :=
          (((((Apart.refl _ _ _).setCell 2 _).setCell 4 _).setCell 5 _).setCell 6 _).setCell 7 _
        have hoth : ∀ k, k ≠ g → (((((w.setCell ⟨g, 2, none⟩ (.slice (some ⟨r, i', none⟩) n' cap')).setCell ⟨g, 4, none⟩ (.int .i64 ((s.ac : Int) + (K : Int)))).setCell ⟨g, 5, none⟩ (.int .i64 nx')).setCell ⟨g, 6, none⟩ (.int .i64 ((s.hi : Int) - (K : Int)))).setCell ⟨g, 7, none⟩ (.int .i64 0)).heap[k]? = w.heap[k]? := by
          intro k hk
          have h : ∀ (w : World) (i : Nat) (u : Value), (w.setCell ⟨g, i, none⟩ u).heap[k]? = w.heap[k]? := fun w i u => heap_else (fun e => hk e.symm) u
          rw [h, h, h, h, h]
        refine ⟨⟨?_, ?_, far, bg, out, fun y hy => ?_⟩, hap, fun k hk => .inl hk⟩
        · have h := ((((m.set2 (.slice (some ⟨r, i', none⟩) n' cap')).set4 (.int .i64 ((s.ac : Int) + (K : Int)))).set5 (.int .i64 nx')).set6 (.int .i64 ((s.hi : Int) - (K : Int)))).set7 (.int .i64 0)
          have e1 : ((s.ac + K : Nat) : Int) = (s.ac : Int) + (K : Int) := by omega
          have e2 : ((s.hi - K : Nat) : Int) = (s.hi : Int) - (K : Int) := by omega
          have e3 : ((0 : Nat) : Int) = 0 := rfl
          rw [e1, e2, ← hnx, e3]
          exact h
        · rw [List.map_drop]
          exact hq.same hap.size (fun k hk => hoth k (fun e => far (by rw [← e]; exact hk)))
        · exact (syms y (List.mem_of_mem_drop hy)).keep (fun k _ hk => hoth k (fun e => hk (.inr (.inl e))))
      have FIN := box fin
      have hA : s.ks.drop K = [] → QRow B w (.slice (some ⟨r, i, none⟩) 0 0) ((s.ks.map kpV).drop K) := by
        intro h0
        rw [← List.map_drop, h0]
        exact .inr ⟨r, i, 0, rfl, r1, r2, Nat.le_refl _, Nat.zero_le _, (fun j u hu => by simp at hu), (fun j hj => by omega)⟩
      have HA := box hA
      obtain ⟨p0, p1, p2, p3, p4, p5, p6, p7, pz⟩ := m
      clear r5 r6 fin hA syms out far
      obtain ⟨L, hL⟩ : ∃ L, s.ks.length = L := ⟨_, rfl⟩
      have HL := box hL
      rw [hL] at p2 r3 hh
      clear hL
      by_cases hcap : cap = K
      · subst hcap
        obtain rfl : L = cap := by omega
        have hd : s.ks.drop L = [] := List.drop_eq_nil_of_le (by rw [HL.out]; exact Nat.le_refl _)
        have HD := box hd
        clear hd
        by_cases hnx : L < s.nx
        · go_enter Try.func19, Try.ntmps19
          go_wp2_with fail
          refine C.out.mono ?_
          rintro e w2 ⟨rfl, rfl⟩
          go_wp2_with fail
          go_ret
          exact ⟨_, rfl, FIN.out i 0 0 _ (HA.out HD.out) (by omega)⟩
        · go_enter Try.func19, Try.ntmps19
          go_wp2_with fail
          refine C.out.mono ?_
          rintro e w2 ⟨rfl, rfl⟩
          go_wp2_with fail
          go_ret
          exact ⟨_, rfl, FIN.out i 0 0 _ (HA.out HD.out) (by omega)⟩
      · have hd := HCUT.out
        rw [HL.out] at hd
        have HD := box hd
        clear hd
        by_cases hnx : K < s.nx
        · go_enter Try.func19, Try.ntmps19
          go_wp2_with fail
          refine C.out.mono ?_
          rintro e w2 ⟨rfl, rfl⟩
          go_wp2_with fail
          go_ret
          exact ⟨_, rfl, FIN.out (i + K) (L - K) (cap - K) _ HD.out (by omega)⟩
        · go_enter Try.func19, Try.ntmps19
          go_wp2_with fail
          refine C.out.mono ?_
          rintro e w2 ⟨rfl, rfl⟩
          go_wp2_with fail
          go_ret
          exact ⟨_, rfl, FIN.out (i + K) (L - K) (cap - K) _ HD.out (by omega)⟩
end Go.Proofs.Ytfpicobjnpjhlaa
