/- Ticks and greetings of a side. -/
import Derived.Test.YtflaclocakbkgaaLkN
namespace Go.Proofs.Ytflaclocakbkgaa
open Go.RowKit

theorem becS_set (s : Sv) (st pr e l : Nat) : Sv.becS ⟨s.mine, s.dead, s.peer, e, s.state, 0, s.changes⟩ st pr = Sv.setS ⟨s.mine, s.dead, s.peer, e, s.state, l, s.changes⟩ st pr := rfl
def Sv.silS (s : Sv) : Sv := if s.dead ≤ s.silent + 1 then s.setS 0 0 else ⟨s.mine, s.dead, s.peer, s.seen, s.state, s.silent + 1, s.changes⟩
set_option maxHeartbeats 4000000 in
theorem silence_any (g : Nat) (s : Sv) (hs : s.silent ≤ 1000) (hc : s.changes ≤ 1000000) (w : World) (x : SdAt w g s) :
    Calls Try.prog 25 #[.pointer (some ⟨g, 0, none⟩)] w fun e w' => e = .returned (.tuple #[]) ∧ SdAt w' g s.silS ∧ Apart g none w w' := by
  have X := box x
  clear x
  by_cases h1 : s.dead ≤ s.silent + 1
  · have e2 : s.silS = s.setS 0 0 := if_pos h1
    rw [e2]
    clear e2
    have h1' : ((s.dead : Int) ≤ (s.silent : Int) + 1) := by omega
    have Y0 := box (X.out.r.set3 (.int .i64 ((s.silent : Int) + 1)))
    have K0 := box (show Apart g none w (w.setCell ⟨g, 3, none⟩ (.int .i64 ((s.silent : Int) + 1))) from (Apart.refl g none w).setCell 3 _)
    obtain ⟨q0, q1, q2, q3, q4, q5, q6, qz⟩ := X.out
    go_enter Try.func25, Try.ntmps25
    go_upto_region 1 with fail
    clear q0 q1 q2 q3 q4 q5 q6 qz
    generalize w.setCell ⟨g, 3, none⟩ (.int .i64 ((s.silent : Int) + 1)) = wa at Y0 K0 ⊢
    obtain ⟨q0, q1, q2, q3, q4, q5, q6, qz⟩ := Y0.out
    go_region
    clear q0 q1 q2 q3 q4 q5 q6 qz
    replace Y0 := box (Y0.out.same (w' := wa.drew) rfl)
    replace K0 := box K0.out.drew
    generalize wa.drew = wb at Y0 K0 ⊢
    have Y1 := box (R7.sd (c := s.changes) (Y0.out.set3 (.int .i64 ((0 : Nat) : Int))))
    have K1 := box (K0.out.setCell 3 (.int .i64 0))
    clear K0
    obtain ⟨q0, q1, q2, q3, q4, q5, q6, qz⟩ := Y0.out
    go_upto_region 3 with fail
    clear q0 q1 q2 q3 q4 q5 q6 qz Y0
    generalize wb.setCell ⟨g, 3, none⟩ (.int .i64 0) = wc at Y1 K1 ⊢
    have BC := box (become_any g ⟨s.mine, s.dead, s.peer, s.seen, s.state, 0, s.changes⟩ 0 0 0 0 rfl rfl hc wc Y1.out)
    go_wp2_with fail
    refine BC.out.mono ?_
    rintro e w3 ⟨rfl, y, k⟩
    have FIN := box (show SdAt w3 g (s.setS 0 0) ∧ Apart g none w w3 from ⟨y, K1.out.trans k⟩)
    clear y k BC K1 Y1
    go_wp2_with fail
    (try simp only [Exit.inBlock, Exit.then])
    refine bodyPost_end (results_none rfl _ _ _) rfl ⟨rfl, FIN.out⟩
  · have e2 : s.silS = ⟨s.mine, s.dead, s.peer, s.seen, s.state, s.silent + 1, s.changes⟩ := if_neg h1
    rw [e2]
    clear e2
    have h1' : ¬ ((s.dead : Int) ≤ (s.silent : Int) + 1) := by omega
    have h1'' : (s.silent : Int) + 1 < (s.dead : Int) := by omega
    have Y0 := box (X.out.r.set3 (.int .i64 ((s.silent : Int) + 1)))
    have K0 := box (show Apart g none w (w.setCell ⟨g, 3, none⟩ (.int .i64 ((s.silent : Int) + 1))) from (Apart.refl g none w).setCell 3 _)
    obtain ⟨q0, q1, q2, q3, q4, q5, q6, qz⟩ := X.out
    go_enter Try.func25, Try.ntmps25
    go_upto_region 1 with fail
    clear q0 q1 q2 q3 q4 q5 q6 qz
    generalize w.setCell ⟨g, 3, none⟩ (.int .i64 ((s.silent : Int) + 1)) = wa at Y0 K0 ⊢
    obtain ⟨q0, q1, q2, q3, q4, q5, q6, qz⟩ := Y0.out
    go_region
    clear q0 q1 q2 q3 q4 q5 q6 qz
    replace Y0 := box (Y0.out.same (w' := wa.drew) rfl)
    replace K0 := box K0.out.drew
    generalize wa.drew = wb at Y0 K0 ⊢
    have FIN := box (show SdAt wb g ⟨s.mine, s.dead, s.peer, s.seen, s.state, s.silent + 1, s.changes⟩ ∧ Apart g none w wb from ⟨R7.sd Y0.out, K0.out⟩)
    clear K0 Y0
    go_wp2_with fail
    (try simp only [Exit.inBlock, Exit.then])
    refine bodyPost_end (results_none rfl _ _ _) rfl ⟨rfl, FIN.out⟩

theorem tick_sil {s : Sv} (h : s.peer ≠ 0) : s.tickS = s.silS := by unfold Sv.tickS Sv.silS; rw [if_neg h]
theorem tick_peer0 {s : Sv} (h : s.peer = 0) : s.tickS = s := if_pos h
def grV (m y : Int) : Value := .agg #[.int .i64 m, .int .i64 y]
set_option maxHeartbeats 4000000 in
theorem tick_any (g : Nat) (s : Sv) (hs : s.silent ≤ 1000) (hc : s.changes ≤ 1000000) (w : World) (x : SdAt w g s) :
    Calls Try.prog 17 #[.pointer (some ⟨g, 0, none⟩)] w fun e w' => e = .returned (.agg #[.int .i64 (s.mine : Int), .int .i64 (s.tickS.peer : Int)]) ∧ SdAt w' g s.tickS ∧ Apart g none w w' := by
  obtain ⟨m0, hm⟩ : ∃ m0, w.heap.size = m0 := ⟨_, rfl⟩
  have hlt : g < m0 := by rw [← hm]; exact x.lt
  have M := box (R2.new w (.int .i64 0) (.int .i64 0) 32 m0 hm.symm)
  have k1 : Below w.heap.size w (w.alloc (.cells #[.int .i64 0, .int .i64 0] 32)) := (Below.refl _ _).alloc (Nat.le_refl _) _
  have X := box (x.keep k1)
  have K := box (Apart.ofBelow (g := g) (r := none) k1)
  have HM := box hm
  have HLT := box hlt
  have SZ := box (show w.heap.size ≤ m0 from Nat.le_of_eq hm)
  clear k1 x hlt
  by_cases hp : s.peer = 0
  · rw [tick_peer0 hp]
    have hb : ((s.peer : Int) != 0) = false := by simp [hp]
    clear hp
    go_enter Try.func17, Try.ntmps17
    go_upto_region 1 with fail
    generalize w.alloc (.cells #[.int .i64 0, .int .i64 0] 32) = wa at M X K ⊢
    (try simp only [HM.out])
    clear hm
    obtain ⟨q0, q1, q2, q3, q4, q5, q6, qz⟩ := X.out
    go_upto_region 5 with fail
    obtain ⟨p0, p1, pz⟩ := M.out
    have hmg : m0 ≠ g := by have := HLT.out; omega
    have Y2 := box (show SdAt (put2 wa.drew m0 (.int .i64 (s.mine : Int)) (.int .i64 (s.peer : Int))) g s from (X.out.drew.same (heap_else hmg _)).same (heap_else hmg _))
    have M2 := box ((M.out.same (w' := wa.drew) rfl).put (.int .i64 (s.mine : Int)) (.int .i64 (s.peer : Int)))
    have K2 := box (show Apart g none w (put2 wa.drew m0 (.int .i64 (s.mine : Int)) (.int .i64 (s.peer : Int))) from by
      have k := K.out.drew
      have e0 : ∀ j, j ≠ m0 → (put2 wa.drew m0 (.int .i64 (s.mine : Int)) (.int .i64 (s.peer : Int))).heap[j]? = wa.drew.heap[j]? := fun j hj => (heap_else hj.symm _).trans (heap_else hj.symm _)
      have b := put2_below (Below.refl m0 wa.drew) (Nat.le_refl m0) (.int .i64 (s.mine : Int)) (.int .i64 (s.peer : Int))
      exact ⟨b.os.trans k.os, b.tape.trans k.tape, b.output.trans k.output, Nat.le_trans k.size b.size, fun j hj h1 h2 => (e0 j (by have := SZ.out; omega)).trans (k.block j hj h1 h2)⟩)
    go_region
    clear q0 q1 q2 q3 q4 q5 q6 qz p0 p1 pz
    change Exit.then _ _ _ _ (put2 wa.drew m0 (.int .i64 (s.mine : Int)) (.int .i64 (s.peer : Int)))
    generalize put2 wa.drew m0 (.int .i64 (s.mine : Int)) (.int .i64 (s.peer : Int)) = wz at Y2 M2 K2 ⊢
    obtain ⟨o0, o1, oz⟩ := M2.out
    go_wp2_with fail
    refine bodyPost_ret (v := .agg #[.int .i64 (s.mine : Int), .int .i64 (s.peer : Int)]) (by simp [results, Try.results17, go_sem, o0, o1]) rfl ⟨rfl, Y2.out, K2.out⟩
  · rw [tick_sil hp]
    have HMI := box (show s.silS.mine = s.mine from by unfold Sv.silS; split <;> rfl)
    obtain ⟨r, hr⟩ : ∃ r, s.silS = r := ⟨_, rfl⟩
    rw [hr] at HMI
    rw [hr, ← HMI.out]
    have SLR := box hr
    clear hr
    have hb : ((s.peer : Int) != 0) = true := by simp [hp]
    clear hp
    go_enter Try.func17, Try.ntmps17
    go_upto_region 1 with fail
    generalize w.alloc (.cells #[.int .i64 0, .int .i64 0] 32) = wa at M X K ⊢
    (try simp only [HM.out])
    clear hm
    obtain ⟨q0, q1, q2, q3, q4, q5, q6, qz⟩ := X.out
    have SL := silence_any g s hs hc _ X.out
    rw [SLR.out] at SL
    replace SL := box SL
    go_wp2_with fail
    refine SL.out.mono ?_
    rintro e w2 ⟨rfl, y, k⟩
    clear q0 q1 q2 q3 q4 q5 q6 qz
    have hml : m0 < wa.heap.size := M.out.lt
    have hmg : m0 ≠ g := by have := HLT.out; omega
    replace M := box (M.out.same (k.block m0 hml hmg (by simp)))
    replace K := box (K.out.trans k)
    replace X := box y
    clear k y SL hml hmg hb
    obtain ⟨q0, q1, q2, q3, q4, q5, q6, qz⟩ := X.out
    go_upto_region 5 with fail
    obtain ⟨p0, p1, pz⟩ := M.out
    have hmg : m0 ≠ g := by have := HLT.out; omega
    have Y2 := box (show SdAt (put2 w2.drew m0 (.int .i64 (r.mine : Int)) (.int .i64 (r.peer : Int))) g r from (X.out.drew.same (heap_else hmg _)).same (heap_else hmg _))
    have M2 := box ((M.out.same (w' := w2.drew) rfl).put (.int .i64 (r.mine : Int)) (.int .i64 (r.peer : Int)))
    have K2 := box (show Apart g none w (put2 w2.drew m0 (.int .i64 (r.mine : Int)) (.int .i64 (r.peer : Int))) from by
      have k := K.out.drew
      have e0 : ∀ j, j ≠ m0 → (put2 w2.drew m0 (.int .i64 (r.mine : Int)) (.int .i64 (r.peer : Int))).heap[j]? = w2.drew.heap[j]? := fun j hj => (heap_else hj.symm _).trans (heap_else hj.symm _)
      have b := put2_below (Below.refl m0 w2.drew) (Nat.le_refl m0) (.int .i64 (r.mine : Int)) (.int .i64 (r.peer : Int))
      exact ⟨b.os.trans k.os, b.tape.trans k.tape, b.output.trans k.output, Nat.le_trans k.size b.size, fun j hj h1 h2 => (e0 j (by have := SZ.out; omega)).trans (k.block j hj h1 h2)⟩)
    go_region
    clear q0 q1 q2 q3 q4 q5 q6 qz p0 p1 pz
    change Exit.then _ _ _ _ (put2 w2.drew m0 (.int .i64 (r.mine : Int)) (.int .i64 (r.peer : Int)))
    generalize put2 w2.drew m0 (.int .i64 (r.mine : Int)) (.int .i64 (r.peer : Int)) = wz at Y2 M2 K2 ⊢
    obtain ⟨o0, o1, oz⟩ := M2.out
    go_wp2_with fail
    refine bodyPost_ret (v := .agg #[.int .i64 (r.mine : Int), .int .i64 (r.peer : Int)]) (by simp [results, Try.results17, go_sem, o0, o1]) rfl ⟨rfl, Y2.out, K2.out⟩

end Go.Proofs.Ytflaclocakbkgaa
