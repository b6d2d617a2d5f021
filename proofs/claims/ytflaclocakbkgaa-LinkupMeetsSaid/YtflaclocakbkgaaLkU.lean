/- Greetings; nil sides; awake. -/
import Derived.Test.YtflaclocakbkgaaLkT
namespace Go.Proofs.Ytflaclocakbkgaa
open Go.RowKit

theorem Apart.drewN {g : Nat} {r : Option Nat} {w w' : World} (x : Apart g r w w') (n : Nat) : Apart g r w (w'.drewN n) := ⟨x.os, x.tape, x.output, x.size, x.block⟩
theorem okInc_iff (m : Int) : okInc m = true ↔ 1 ≤ m ∧ m < 1099511627776 := by unfold okInc; simp
/-- Whether a greeting changes the side. -/
def Sv.recvB (s : Sv) (m y : Int) : Bool := decide (s.state ≠ (s.recvS m y).state ∨ s.peer ≠ (s.recvS m y).peer)
theorem recv_bad {s : Sv} {m : Int} (y : Int) (h : okInc m = false ∨ m < (s.seen : Int)) : s.recvS m y = s ∧ s.recvB m y = false := by
  have e : s.recvS m y = s := by
    unfold Sv.recvS
    rw [if_pos]
    rcases h with h | h
    · by_cases h1 : 1 ≤ m ∧ m < 1099511627776
      · rw [(okInc_iff m).2 h1] at h; cases h
      · omega
    · exact .inr (.inr h)
  refine ⟨e, ?_⟩
  unfold Sv.recvB
  rw [e]
  exact decide_eq_false (by omega)
theorem recv_good {s : Sv} {m y : Int} (st : Nat) (h : okInc m = true) (hs : ¬ m < (s.seen : Int)) (hy : (if y = (s.mine : Int) then 2 else 1) = st) : s.recvS m y = Sv.setS ⟨s.mine, s.dead, s.peer, m.toNat, s.state, s.silent, s.changes⟩ st m.toNat ∧ s.recvB m y = decide (s.state ≠ st ∨ s.peer ≠ m.toNat) := by
  have h1 := (okInc_iff m).1 h
  have e : s.recvS m y = Sv.setS ⟨s.mine, s.dead, s.peer, m.toNat, s.state, s.silent, s.changes⟩ st m.toNat := by
    unfold Sv.recvS
    rw [if_neg (by omega), hy]
  refine ⟨e, ?_⟩
  unfold Sv.recvB
  rw [e]
  rfl
set_option maxHeartbeats 8000000 in
theorem receive_any (g : Nat) (s : Sv) (m y : Int) (hc : s.changes ≤ 1000000) (w : World) (x : SdAt w g s) :
    Calls Try.prog 15 #[.pointer (some ⟨g, 0, none⟩), .agg #[.int .i64 m, .int .i64 y]] w fun e w' => e = .returned (.bool (s.recvB m y)) ∧ SdAt w' g (s.recvS m y) ∧ Apart g none w w' := by
  obtain ⟨m0, hm⟩ : ∃ m0, w.heap.size = m0 := ⟨_, rfl⟩
  have hlt : g < m0 := by rw [← hm]; exact x.lt
  have M := box (R2.new w (.int .i64 m) (.int .i64 y) 32 m0 hm.symm)
  have k1 : Below w.heap.size w (w.alloc (.cells #[.int .i64 m, .int .i64 y] 32)) := (Below.refl _ _).alloc (Nat.le_refl _) _
  have X := box (x.keep k1)
  have K := box (Apart.ofBelow (g := g) (r := none) k1)
  have HM := box hm
  have HLT := box hlt
  have IQ := box (fun u => (isinc_any m u).mono (R' := fun e w' => e = .returned (.bool (okInc m)) ∧ w' = u) fun e w' h => ⟨h.1, h.2.symm⟩)
  clear k1 x hlt
  by_cases hb : okInc m = true
  · by_cases hs : m < (s.seen : Int)
    · have R := recv_bad (s := s) y (.inr hs)
      rw [R.1, R.2]
      rw [hb] at IQ
      clear R hb
      go_enter Try.func15, Try.ntmps15
      go_upto_region 1 with fail
      generalize w.alloc (.cells #[.int .i64 m, .int .i64 y] 32) = wa at M X K ⊢
      (try simp only [HM.out])
      clear hm
      obtain ⟨q0, q1, q2, q3, q4, q5, q6, qz⟩ := X.out
      obtain ⟨p0, p1, pz⟩ := M.out
      go_quiet ((go_at_call 22; exact Calls.quiet_of_same (IQ.out _)))
      clear q0 q1 q2 q3 q4 q5 q6 qz p0 p1 pz
      replace X := box (X.out.same (w' := wa.drewN nq) rfl)
      replace M := box (M.out.same (w' := wa.drewN nq) rfl)
      replace K := box (K.out.drewN nq)
      generalize wa.drewN nq = wb at X M K ⊢
      have FIN := box (show SdAt wb g s ∧ Apart g none w wb from ⟨X.out, K.out⟩)
      clear X M K
      go_wp2_with fail
      go_ret
      exact ⟨rfl, FIN.out⟩
    · have HMM := box ((okInc_iff m).1 hb)
      by_cases hy : y = (s.mine : Int)
      · have R := recv_good 2 hb hs (if_pos hy)
        obtain ⟨bb, hbb⟩ : ∃ bb, decide (s.state ≠ 2 ∨ s.peer ≠ m.toNat) = bb := ⟨_, rfl⟩
        rw [R.1, R.2, hbb]
        have HBB := box hbb
        clear hbb
        rw [hb] at IQ
        clear R hb
        have hy2 : (y == (s.mine : Int)) = true := by simp [hy]
        clear hy
        go_enter Try.func15, Try.ntmps15
        go_upto_region 1 with fail
        generalize w.alloc (.cells #[.int .i64 m, .int .i64 y] 32) = wa at M X K ⊢
        (try simp only [HM.out])
        clear hm
        obtain ⟨q0, q1, q2, q3, q4, q5, q6, qz⟩ := X.out
        obtain ⟨p0, p1, pz⟩ := M.out
        go_quiet ((go_at_call 22; exact Calls.quiet_of_same (IQ.out _)))
        clear q0 q1 q2 q3 q4 q5 q6 qz p0 p1 pz
        replace X := box (X.out.same (w' := wa.drewN nq) rfl)
        replace M := box (M.out.same (w' := wa.drewN nq) rfl)
        replace K := box (K.out.drewN nq)
        generalize wa.drewN nq = wb at X M K ⊢
        have hmg : m0 ≠ g := by have := HLT.out; omega
        have M2 := box ((M.out.same (w' := wb.setCell ⟨g, 2, none⟩ (.int .i64 m)) (heap_else hmg.symm _)).same (w' := (wb.setCell ⟨g, 2, none⟩ (.int .i64 m)).setCell ⟨g, 3, none⟩ (.int .i64 0)) (heap_else hmg.symm _))
        have Y2 := box ((X.out.r.set2 (.int .i64 m)).set3 (.int .i64 0))
        have K2 := box ((K.out.setCell 2 (.int .i64 m)).setCell 3 (.int .i64 0))
        obtain ⟨q0, q1, q2, q3, q4, q5, q6, qz⟩ := X.out
        obtain ⟨p0, p1, pz⟩ := M.out
        go_upto_region 6 with fail
        clear q0 q1 q2 q3 q4 q5 q6 qz p0 p1 pz X M K
        generalize (wb.setCell ⟨g, 2, none⟩ (.int .i64 m)).setCell ⟨g, 3, none⟩ (.int .i64 0) = wc at M2 Y2 K2 ⊢
        obtain ⟨q0, q1, q2, q3, q4, q5, q6, qz⟩ := Y2.out
        obtain ⟨p0, p1, pz⟩ := M2.out
        go_region
        clear q0 q1 q2 q3 q4 q5 q6 qz p0 p1 pz
        replace Y2 := box (Y2.out.same (w' := wc.drew) rfl)
        replace M2 := box (M2.out.same (w' := wc.drew) rfl)
        replace K2 := box K2.out.drew
        generalize wc.drew = wd at M2 Y2 K2 ⊢
        obtain ⟨p0, p1, pz⟩ := M2.out
        have SD := box (show SdAt wd g ⟨s.mine, s.dead, s.peer, m.toNat, s.state, 0, s.changes⟩ from by
          have h := Y2.out
          rw [show m = ((m.toNat : Nat) : Int) by have := HMM.out; omega] at h
          exact R7.sd h)
        have BC := become_any g ⟨s.mine, s.dead, s.peer, m.toNat, s.state, 0, s.changes⟩ 2 m.toNat 2 m rfl (by have := HMM.out; omega) hc wd SD.out
        dsimp only at BC
        rw [HBB.out] at BC
        replace BC := box BC
        go_wp2_with fail
        refine BC.out.mono ?_
        rintro e w3 ⟨rfl, z, k⟩
        have FIN := box (show SdAt w3 g (Sv.setS ⟨s.mine, s.dead, s.peer, m.toNat, s.state, s.silent, s.changes⟩ 2 m.toNat) ∧ Apart g none w w3 from ⟨z, K2.out.trans k⟩)
        clear z k BC K2 M2 Y2 SD p0 p1 pz
        go_wp2_with fail
        go_ret
        exact ⟨rfl, FIN.out⟩
      · have R := recv_good 1 hb hs (if_neg hy)
        obtain ⟨bb, hbb⟩ : ∃ bb, decide (s.state ≠ 1 ∨ s.peer ≠ m.toNat) = bb := ⟨_, rfl⟩
        rw [R.1, R.2, hbb]
        have HBB := box hbb
        clear hbb
        rw [hb] at IQ
        clear R hb
        have hy2 : (y == (s.mine : Int)) = false := by simp [hy]
        clear hy
        go_enter Try.func15, Try.ntmps15
        go_upto_region 1 with fail
        generalize w.alloc (.cells #[.int .i64 m, .int .i64 y] 32) = wa at M X K ⊢
        (try simp only [HM.out])
        clear hm
        obtain ⟨q0, q1, q2, q3, q4, q5, q6, qz⟩ := X.out
        obtain ⟨p0, p1, pz⟩ := M.out
        go_quiet ((go_at_call 22; exact Calls.quiet_of_same (IQ.out _)))
        clear q0 q1 q2 q3 q4 q5 q6 qz p0 p1 pz
        replace X := box (X.out.same (w' := wa.drewN nq) rfl)
        replace M := box (M.out.same (w' := wa.drewN nq) rfl)
        replace K := box (K.out.drewN nq)
        generalize wa.drewN nq = wb at X M K ⊢
        have hmg : m0 ≠ g := by have := HLT.out; omega
        have M2 := box ((M.out.same (w' := wb.setCell ⟨g, 2, none⟩ (.int .i64 m)) (heap_else hmg.symm _)).same (w' := (wb.setCell ⟨g, 2, none⟩ (.int .i64 m)).setCell ⟨g, 3, none⟩ (.int .i64 0)) (heap_else hmg.symm _))
        have Y2 := box ((X.out.r.set2 (.int .i64 m)).set3 (.int .i64 0))
        have K2 := box ((K.out.setCell 2 (.int .i64 m)).setCell 3 (.int .i64 0))
        obtain ⟨q0, q1, q2, q3, q4, q5, q6, qz⟩ := X.out
        obtain ⟨p0, p1, pz⟩ := M.out
        go_upto_region 6 with fail
        clear q0 q1 q2 q3 q4 q5 q6 qz p0 p1 pz X M K
        generalize (wb.setCell ⟨g, 2, none⟩ (.int .i64 m)).setCell ⟨g, 3, none⟩ (.int .i64 0) = wc at M2 Y2 K2 ⊢
        obtain ⟨q0, q1, q2, q3, q4, q5, q6, qz⟩ := Y2.out
        obtain ⟨p0, p1, pz⟩ := M2.out
        go_region
        clear q0 q1 q2 q3 q4 q5 q6 qz p0 p1 pz
        replace Y2 := box (Y2.out.same (w' := wc.drew) rfl)
        replace M2 := box (M2.out.same (w' := wc.drew) rfl)
        replace K2 := box K2.out.drew
        generalize wc.drew = wd at M2 Y2 K2 ⊢
        obtain ⟨p0, p1, pz⟩ := M2.out
        have SD := box (show SdAt wd g ⟨s.mine, s.dead, s.peer, m.toNat, s.state, 0, s.changes⟩ from by
          have h := Y2.out
          rw [show m = ((m.toNat : Nat) : Int) by have := HMM.out; omega] at h
          exact R7.sd h)
        have BC := become_any g ⟨s.mine, s.dead, s.peer, m.toNat, s.state, 0, s.changes⟩ 1 m.toNat 1 m rfl (by have := HMM.out; omega) hc wd SD.out
        dsimp only at BC
        rw [HBB.out] at BC
        replace BC := box BC
        go_wp2_with fail
        refine BC.out.mono ?_
        rintro e w3 ⟨rfl, z, k⟩
        have FIN := box (show SdAt w3 g (Sv.setS ⟨s.mine, s.dead, s.peer, m.toNat, s.state, s.silent, s.changes⟩ 1 m.toNat) ∧ Apart g none w w3 from ⟨z, K2.out.trans k⟩)
        clear z k BC K2 M2 Y2 SD p0 p1 pz
        go_wp2_with fail
        go_ret
        exact ⟨rfl, FIN.out⟩
  · have hb : okInc m = false := by simpa using hb
    have R := recv_bad (s := s) y (.inl hb)
    rw [R.1, R.2]
    rw [hb] at IQ
    clear R hb
    go_enter Try.func15, Try.ntmps15
    go_upto_region 1 with fail
    generalize w.alloc (.cells #[.int .i64 m, .int .i64 y] 32) = wa at M X K ⊢
    (try simp only [HM.out])
    clear hm
    obtain ⟨q0, q1, q2, q3, q4, q5, q6, qz⟩ := X.out
    obtain ⟨p0, p1, pz⟩ := M.out
    go_quiet ((go_at_call 22; exact Calls.quiet_of_same (IQ.out _)))
    clear q0 q1 q2 q3 q4 q5 q6 qz p0 p1 pz
    replace X := box (X.out.same (w' := wa.drewN nq) rfl)
    replace M := box (M.out.same (w' := wa.drewN nq) rfl)
    replace K := box (K.out.drewN nq)
    generalize wa.drewN nq = wb at X M K ⊢
    have FIN := box (show SdAt wb g s ∧ Apart g none w wb from ⟨X.out, K.out⟩)
    clear X M K
    go_wp2_with fail
    go_ret
    exact ⟨rfl, FIN.out⟩

theorem accepts_nil (i : Int) (w : World) : Calls Try.prog 21 #[.pointer none, .int .i64 i] w fun e w' => e = .returned (.bool false) ∧ w = w' := by
  go_enter Try.func21, Try.ntmps21
  go_wp2_with go_in
  go_ret
  exact ⟨rfl, rfl⟩
set_option maxHeartbeats 1000000 in
theorem tick_nil (w : World) : Calls Try.prog 17 #[.pointer none] w fun e w' => e = .returned (.agg #[.int .i64 0, .int .i64 0]) ∧ Below w.heap.size w w' := by
  obtain ⟨m0, hm⟩ : ∃ m0, w.heap.size = m0 := ⟨_, rfl⟩
  have M := box (R2.new w (.int .i64 0) (.int .i64 0) 32 m0 hm.symm)
  have K := box (show Below w.heap.size w (w.alloc (.cells #[.int .i64 0, .int .i64 0] 32)) from (Below.refl _ _).alloc (Nat.le_refl _) _)
  have HM := box hm
  go_enter Try.func17, Try.ntmps17
  go_upto_region 2 with fail
  generalize w.alloc (.cells #[.int .i64 0, .int .i64 0] 32) = wa at M K ⊢
  (try simp only [HM.out])
  clear hm
  have M2 := box (M.out.put (.int .i64 0) (.int .i64 0))
  have K2 := box (put2_below K.out (show w.heap.size ≤ m0 from Nat.le_of_eq HM.out) (.int .i64 0) (.int .i64 0))
  obtain ⟨p0, p1, pz⟩ := M.out
  go_wp2_with fail
  change bodyPost _ _ _ _ _ (put2 wa m0 (.int .i64 0) (.int .i64 0))
  generalize put2 wa m0 (.int .i64 0) (.int .i64 0) = wz at M2 K2 ⊢
  obtain ⟨o0, o1, oz⟩ := M2.out
  refine bodyPost_ret (v := .agg #[.int .i64 0, .int .i64 0]) (by simp [results, Try.results17, go_sem, o0, o1]) rfl ⟨rfl, K2.out⟩
set_option maxHeartbeats 1000000 in
theorem receive_nil (m y : Int) (w : World) : Calls Try.prog 15 #[.pointer none, .agg #[.int .i64 m, .int .i64 y]] w fun e w' => e = .returned (.bool false) ∧ Below w.heap.size w w' := by
  have K := box (show Below w.heap.size w (w.alloc (.cells #[.int .i64 m, .int .i64 y] 32)) from (Below.refl _ _).alloc (Nat.le_refl _) _)
  go_enter Try.func15, Try.ntmps15
  go_upto_region 1 with fail
  generalize w.alloc (.cells #[.int .i64 m, .int .i64 y] 32) = wa at K ⊢
  go_quiet (fail)
  have FIN := box (show Below w.heap.size w (wa.drewN nq) from ⟨K.out.os, K.out.tape, K.out.output, K.out.size, K.out.block⟩)
  clear K
  go_wp2_with fail
  go_ret
  exact ⟨rfl, FIN.out⟩
end Go.Proofs.Ytflaclocakbkgaa
