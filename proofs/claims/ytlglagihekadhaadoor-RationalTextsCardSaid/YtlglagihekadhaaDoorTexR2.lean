/- The reference's Parse: the empty text, and any text. -/
import Derived.Test.YtlglagihekadhaaDoorTexR
namespace Go.Proofs.YtlglagihekadhaaDoor
open Go.RowKit Go.Lib

set_option maxRecDepth 10000 in
set_option maxHeartbeats 8000000 in
theorem rparse_empty (s : ByteArray) (he : s.size = 0) (w : World) :
    Calls Tryd.prog 11 #[.string s] w fun e w' => e = .returned (refV none) ∧ Below w.heap.size w w' := by
  have hll : s.data.toList.length = s.size := Array.length_toList
  have hs : s.toList = s.data.toList := by
    obtain ⟨⟨q⟩⟩ := s
    simp [go_sem]
  have hnil : s.data.toList = [] := List.eq_nil_of_length_eq_zero (by omega)
  rw [hnil] at hs
  clear hll hnil
  have hlz : (s.size : Int) = 0 := by omega
  have R0 := box (RB.laid w 31)
  have K0 := (Below.refl w.heap.size w).alloc (Nat.le_refl _) (.cells #[.int .i64 0, .int .i64 0] 31)
  go_enter Tryd.func11, Tryd.ntmps11
  go_wp2_with fail
  go_loopw [5, 7] (fun t5 t7 wr => t5 = .int .i64 0 ∧ t7 = .int .i64 0 ∧ Box (VB wr (w.heap.size + 1) 0 0) ∧ Box (RB wr w.heap.size) ∧ Below w.heap.size w wr) (fun _ _ _ => 0)
  case atStart =>
    exact ⟨rfl, rfl, box (VB.laid2 w _ _), box (R0.out.below ((Below.refl _ _).alloc (Nat.le_refl _) _)), K0.alloc K0.size _⟩
  case round =>
    obtain ⟨rfl, rfl, V, R, kb⟩ := hrel
    obtain ⟨_, v0, v1, u0, u1⟩ := V.out
    obtain ⟨_, r0, r1, g0, g1⟩ := R.out
    replace v0 : wr.cell? ⟨w.heap.size + 1, 0, none⟩ = some (.int .i64 0) := v0
    replace v1 : wr.cell? ⟨w.heap.size + 1, 1, none⟩ = some (.int .i64 0) := v1
    go_wp2_with fail
    have R1 := box (R.out.step (Nat.lt_succ_self _) (((Below.refl (w.heap.size + 1) wr).setCell (Nat.le_refl _) (p := ⟨w.heap.size + 1, 1, none⟩) (.int .i64 1)).alloc (by have := V.out.lt; simp; omega) (.cells #[.int .i64 0, .int .i64 1] 31)))
    have kb1 := (kb.setCell (Nat.le_succ _) (p := ⟨w.heap.size + 1, 1, none⟩) (.int .i64 1)).alloc (by have := V.out.lt; simp; omega) (.cells #[.int .i64 0, .int .i64 1] 31)
    refine (rvalid_any 0 1 (by omega) (by omega) (by omega) (by omega) _).mono ?_
    rintro e w4 ⟨rfl, hb4⟩
    have q0 : w4.cell? ⟨wr.heap.size, 0, none⟩ = some (.int .i64 0) := keepb hb4 (by simp [go_sem])
    have q1 : w4.cell? ⟨wr.heap.size, 1, none⟩ = some (.int .i64 1) := keepb hb4 (by simp [go_sem])
    have R4 := box (R1.out.below hb4)
    have kb4 := kb1.trans (hb4.mono kb1.size)
    have hv : validB 0 1 = true := validB_of (Or.inr ⟨by omega, by omega, by omega, by omega, by decide⟩)
    go_wp2_with fail
    refine (rtext_any 0 1 (by omega) (by omega) (by omega) (by omega) (by omega) _).mono ?_
    rintro e w5 ⟨rfl, hb5⟩
    have q0' := keepb hb5 q0
    have q1' := keepb hb5 q1
    have R5 := box (R4.out.below hb5)
    have kb5 := kb4.trans (hb5.mono kb4.size)
    clear r0 r1 g0 g1 q0 q1 hb4 hb5 v0 v1 u0 u1
    obtain ⟨_, r0, r1, g0, g1⟩ := R5.out
    have hne := tx_ne 0 (full 1)
    generalize tx 0 (full 1) = tl at hne
    have e2 : (tl == ([] : List UInt8)) = false := by simpa using hne
    go_wp2_with fail
    refine bodyPost_ret (v := .tuple #[.agg #[.int .i64 0, .int .i64 0], .bool false]) (by simp [results, Tryd.results11, go_sem, *]) rfl ⟨rfl, ?_⟩
    exact (kb5.setCell (Nat.le_refl _) _).setCell (Nat.le_refl _) _

/-- What the reference's Parse answers at a text. -/
def refP (l : List UInt8) : Option (Int × Int) :=
  if l = [] then none
  else if (l.getD 0 0).toNat = 45 then rend l (-1) (rl (l.drop 1) false 0 0)
  else rend l 1 (rl (l.drop 0) false 0 0)
theorem rparse_any (l : List UInt8) (hl : l.length ≤ 100) (w : World) :
    Calls Tryd.prog 11 #[st l] w fun e w' => e = .returned (refV (refP l)) ∧ Below w.heap.size w w' := by
  have hsz : (⟨l.toArray⟩ : ByteArray).size = l.length := by simp [ByteArray.size]
  unfold refP
  by_cases h0 : l = []
  · rw [if_pos h0]
    exact rparse_empty ⟨l.toArray⟩ (by rw [hsz, h0]; rfl) w
  · have hp : 0 < l.length := List.length_pos_iff.2 h0
    rw [if_neg h0]
    by_cases h1 : (l.getD 0 0).toNat = 45
    · rw [if_pos h1]
      exact rparse_neg ⟨l.toArray⟩ (by omega) (by omega) h1 w
    · rw [if_neg h1]
      exact rparse_pos ⟨l.toArray⟩ (by omega) (by omega) h1 w
end Go.Proofs.YtlglagihekadhaaDoor
