/- CableBalances: its walk. -/
import Derived.Test.YtoeedbimhihbhaaCabR
namespace Go.Proofs.Ytoeedbimhihbhaa
open Go.RowKit

set_option maxRecDepth 100000 in
set_option maxHeartbeats 8000000 in
theorem balances_any (y : Nat) (hy : y < 256) (a : Option Addr) (n c : Nat) (fs : List Ft) (hn : fs.length = n) (hnil : a = none → c = 0) (b : Option Addr) (m c2 : Nat) (l : List Op) (hm : l.length = m) (hx : ∀ o ∈ l, ∀ x ∈ o.data, x < 256) (hmx : m ≤ maxLen) (w : World) (hf : FtsIn w a fs) (hl : OpsIn w b l) :
    Calls Try.prog 6 #[.int .u8 y, .slice a n c, .slice b m c2] w fun e w' => e = .returned (.bool true) ∧ Below w.heap.size w w' := by
  have HF := box hf
  have HL := box hl
  have HX := box hx
  have HNIL := box hnil
  have HMX := box hmx
  clear hf hl hx hnil hmx
  go_enter Try.func6, Try.ntmps6
  go_wp2_with fail
  refine (awake_any w).mono ?_
  rintro e w1 ⟨rfl, hb1⟩
  have B1 := box hb1
  have FEW := box (few_any b m c2 l hm HMX.out a n c w1 (HL.out.below hb1))
  clear hb1
  go_wp2_with fail
  refine FEW.out.mono ?_
  rintro e w2 ⟨⟨r, rfl, hr⟩, hb2⟩
  have B2 := box (B1.out.trans (hb2.mono B1.out.size))
  have HR := box hr
  clear hb2 hr FEW
  cases r
  · go_wp2_with fail
    refine (awake_any w2).mono ?_
    rintro e w3 ⟨rfl, hb3⟩
    go_wp2_with fail
    go_ret
    exact ⟨rfl, B2.out.trans (hb3.mono B2.out.size)⟩
  obtain ⟨h60, hm150, hn150⟩ := HR.out rfl
  have H60 := box h60
  clear HR h60
  obtain ⟨D, hD⟩ : ∃ D, 1 + y % 9 = D := ⟨_, rfl⟩
  have eD : (1 : Int) + (y : Int) % 9 = (D : Int) := by omega
  have lD : 1 ≤ D ∧ D ≤ 9 := by omega
  clear hD
  cases hok : okF fs
  · have NW := box (new_arg D (by omega) (by omega) a n c fs hn (by omega) hok w2 (HF.out.below B2.out))
    clear hok
    go_wp2_with fail
    refine NW.out.mono ?_
    rintro e w3 ⟨rfl, hb3⟩
    go_wp2_with fail
    go_ret
    exact ⟨rfl, B2.out.trans (hb3.mono B2.out.size)⟩
  have NW := box (new_ok D (by omega) (by omega) a n c fs hn (by omega) HNIL.out hok w2 (HF.out.below B2.out))
  clear hok
  go_wp2_with fail
  refine NW.out.mono ?_
  rintro e w3 ⟨g, fa, fc, rfl, hb3, x3⟩
  have X3 := box x3
  have K3 := box hb3
  clear NW hb3 x3
  go_wp2_with fail
  go_loopw [9, 10, 11, 37] (fun t9 t10 t11 t37 wr => ∃ (k : Nat) (v : Value) (s : Cab) (I O J : Nat), k ≤ m ∧ t37 = .int .i64 k ∧ t9 = .int .i64 I ∧ t10 = .int .i64 O ∧ t11 = .int .i64 J ∧ Box (CabAt w2.heap.size (fun k => k < w2.heap.size) wr g v s) ∧ Box (Below w2.heap.size w2 wr) ∧ Box (s.d ≤ 100 ∧ s.time ≤ k ∧ s.sent ≤ k ∧ s.lost ≤ 64 * k) ∧ J ≤ k ∧ I ≤ 2 * k ∧ I ≤ O + s.fl.length + s.lost ∧ O + s.fl.length + s.lost ≤ I) (fun _ _ _ t37 _ => m - (intOf t37).toNat)
  case atStart => exact ⟨0, _, _, 0, 0, 0, by omega, rfl, rfl, rfl, rfl, X3, K3, box ⟨by show D ≤ 100; omega, Nat.le_refl _, Nat.le_refl _, Nat.le_refl _⟩, by omega, by omega, Nat.le_refl _, Nat.le_refl _⟩
  case round =>
    obtain ⟨k, v, s, I, O, J, hk, rfl, rfl, rfl, rfl, hX, hbel, HBD, hJ, hI, hb1, hb2⟩ := hrel
    by_cases hlt : k < m
    · have kw := box (B2.out.trans (hbel.out.mono B2.out.size))
      have HFL := box hX.out.fll
      obtain ⟨gg, ii, rfl, xa, xl, xc, z0, z1, z2, z3, z4⟩ := (HL.out.below kw.out).at (show k < l.length by omega)
      have HO := box (show ∃ o, l[k]'(by omega) = o ∧ o ∈ l from ⟨_, rfl, List.getElem_mem _⟩)
      obtain ⟨o, ho, hom⟩ := HO.out
      rw [ho] at z0 z2 z3
      have HXO := box (HX.out o hom)
      have HDL := box (show xl ≤ 60 by rw [← z2]; exact H60.out o hom)
      obtain ⟨kd, data⟩ := o
      simp only at z0 z2 z3 HXO
      have HXL := box z2
      have HNL := box z4
      have lx := World.block_lt_of_cell? wr ⟨gg, ii + k * 2, none⟩ z0
      obtain ⟨mm, hmm⟩ : ∃ mm, wr.heap.size = mm := ⟨_, rfl⟩
      have kA : Below wr.heap.size wr (wr.alloc (.cells #[.int .i64 kd, .slice xa xl xc] 38)) := (Below.refl _ _).alloc (Nat.le_refl _) _
      have q0 : (wr.alloc (.cells #[.int .i64 kd, .slice xa xl xc] 38)).cell? ⟨mm, 0, none⟩ = some (.int .i64 kd) := by rw [← hmm]; exact World.cell?_alloc_mark wr #[.int .i64 kd, .slice xa xl xc] _ (0, 0) 0
      have q1 : (wr.alloc (.cells #[.int .i64 kd, .slice xa xl xc] 38)).cell? ⟨mm, 1, none⟩ = some (.slice xa xl xc) := by rw [← hmm]; exact World.cell?_alloc_mark wr #[.int .i64 kd, .slice xa xl xc] _ (0, 0) 1
      have XA := box (hX.out.keep kA)
      have HIN := box (z3.below kA)
      have HLOW := box (show data ≠ [] → ∀ q, xa = some q → q.block < w2.heap.size from fun hne q hq => by
        have h := (HL.out.below B2.out).at (show k < l.length by omega)
        obtain ⟨g', i', he, xa', xl', xc', y0, y1, y2, y3, y4⟩ := h
        cases he
        rw [ho] at y3
        have e1 := hbel.out.cell (p := ⟨gg, ii + k * 2 + 1, none⟩) (World.block_lt_of_cell? w2 ⟨gg, ii + k * 2 + 1, none⟩ y1)
        rw [z1, y1] at e1
        cases e1
        rw [hq] at y3
        exact in_lt y3 hne)
      have BA := box (hbel.out.trans (kA.mono hbel.out.size))
      go_upto_region 10 with fail
      clear hmm HO ho hom z0 z1 z2 z3 z4 kA hX
      generalize wr.alloc (.cells #[.int .i64 kd, .slice xa xl xc] 38) = wa at q0 q1 XA HIN BA ⊢
      by_cases h0 : kd = 0
      · have d0 : (kd == 0) = true := by simp [h0]
        clear h0
        have FL1 := box (flying_any _ _ _ _ _ _ XA.out)
        have SD := box (send_any w2.heap.size (fun k => k < w2.heap.size) g v s wa (fun k h => Nat.lt_of_lt_of_le h BA.out.size) XA.out xa xl xc data HXL.out HXO.out (by have := HDL.out; omega) HIN.out HNL.out HLOW.out (by have := HBD.out; omega) HBD.out.1 (by have := HBD.out; omega) (by have := HBD.out; omega))
        go_wp2_with fail
        refine FL1.out.mono ?_
        rintro e w8 ⟨rfl, rfl⟩
        go_wp2_with fail
        refine SD.out.mono ?_
        rintro e w9 ⟨v9, s9, code, rfl, hr, x9, st9⟩
        obtain ⟨j, i, hji, e1, e2, e3, e4, e5, e6, e7, e8, e9, e10⟩ := sendR_counts hr HFL.out
        have X9 := box x9
        have B9 := box (XA.out.steps st9 BA.out)
        have FL2 := box (flying_any _ _ _ _ _ _ x9)
        have FL3 := box (flying_any _ _ _ _ _ _ x9)
        clear x9 st9 hr SD FL1 e6 e7 e8 e9
        have HBL := box HBD.out.2.2.2
        have HBD := box (show s9.d ≤ 100 ∧ s9.time ≤ k ∧ s9.sent ≤ k + 1 ∧ s9.lost ≤ 64 * k + 1 from by have := HBD.out; omega)
        have lfl := HFL.out
        rw [e1] at FL2 FL3
        clear e3 e4 e5
        obtain ⟨L, hL⟩ : ∃ L, s.fl.length = L := ⟨_, rfl⟩
        rw [hL] at e1 FL2 FL3 hb1 hb2 lfl ⊢
        clear hL
        rcases hji with ⟨rfl, rfl⟩ | ⟨rfl, rfl⟩ | ⟨rfl, rfl⟩
        · go_wp2_with fail
          refine FL2.out.mono ?_
          rintro e w8 ⟨rfl, rfl⟩
          go_wp2_with fail
          refine FL3.out.mono ?_
          rintro e w8 ⟨rfl, rfl⟩
          have FLY := box (show Calls Try.prog 15 #[.pointer (some ⟨g, 0, none⟩)] w9 fun e w' => e = .returned (.int .i64 (((L + 0 : Nat) : Int))) ∧ w9 = w' from by
            have h := flying_any _ _ _ _ _ _ X9.out
            rw [e1] at h
            exact h)
          have LOS := box (show Calls Try.prog 16 #[.pointer (some ⟨g, 0, none⟩)] w9 fun e w' => e = .returned (.int .i64 (((s.lost + 1 : Nat) : Int))) ∧ w9 = w' from by
            have h := lost_any _ _ _ _ _ _ X9.out
            rw [e2] at h
            exact h)
          have hLO : s.lost ≤ 64 * k := HBL.out
          go_wp2_with fail
          refine FLY.out.mono ?_
          rintro e w8 ⟨rfl, rfl⟩
          go_wp2_with fail
          refine LOS.out.mono ?_
          rintro e w8 ⟨rfl, rfl⟩
          go_wp2_with fail
          go_roundw
          case rel => exact ⟨k + 1, v9, _, I + 1, O, J + 1, by omega, by go_num, by go_num, by go_num, by go_num, X9, B9, box (by have := HBD.out; omega), by omega, by omega, by (rw [e1, e2]; omega), by (rw [e1, e2]; omega)⟩
          case measure => simp [intOf]; omega
        · go_wp2_with fail
          refine FL2.out.mono ?_
          rintro e w8 ⟨rfl, rfl⟩
          go_wp2_with fail
          refine FL3.out.mono ?_
          rintro e w8 ⟨rfl, rfl⟩
          have FLY := box (show Calls Try.prog 15 #[.pointer (some ⟨g, 0, none⟩)] w9 fun e w' => e = .returned (.int .i64 (((L + 1 : Nat) : Int))) ∧ w9 = w' from by
            have h := flying_any _ _ _ _ _ _ X9.out
            rw [e1] at h
            exact h)
          have LOS := box (show Calls Try.prog 16 #[.pointer (some ⟨g, 0, none⟩)] w9 fun e w' => e = .returned (.int .i64 (((s.lost + 0 : Nat) : Int))) ∧ w9 = w' from by
            have h := lost_any _ _ _ _ _ _ X9.out
            rw [e2] at h
            exact h)
          have hLO : s.lost ≤ 64 * k := HBL.out
          go_wp2_with fail
          refine FLY.out.mono ?_
          rintro e w8 ⟨rfl, rfl⟩
          go_wp2_with fail
          refine LOS.out.mono ?_
          rintro e w8 ⟨rfl, rfl⟩
          go_wp2_with fail
          go_roundw
          case rel => exact ⟨k + 1, v9, _, I + 1, O, J + 1, by omega, by go_num, by go_num, by go_num, by go_num, X9, B9, box (by have := HBD.out; omega), by omega, by omega, by (rw [e1, e2]; omega), by (rw [e1, e2]; omega)⟩
          case measure => simp [intOf]; omega
        · go_wp2_with fail
          refine FL2.out.mono ?_
          rintro e w8 ⟨rfl, rfl⟩
          have FLY := box (show Calls Try.prog 15 #[.pointer (some ⟨g, 0, none⟩)] w9 fun e w' => e = .returned (.int .i64 (((L + 2 : Nat) : Int))) ∧ w9 = w' from by
            have h := flying_any _ _ _ _ _ _ X9.out
            rw [e1] at h
            exact h)
          have LOS := box (show Calls Try.prog 16 #[.pointer (some ⟨g, 0, none⟩)] w9 fun e w' => e = .returned (.int .i64 (((s.lost + 0 : Nat) : Int))) ∧ w9 = w' from by
            have h := lost_any _ _ _ _ _ _ X9.out
            rw [e2] at h
            exact h)
          have hLO : s.lost ≤ 64 * k := HBL.out
          go_wp2_with fail
          refine FLY.out.mono ?_
          rintro e w8 ⟨rfl, rfl⟩
          go_wp2_with fail
          refine LOS.out.mono ?_
          rintro e w8 ⟨rfl, rfl⟩
          go_wp2_with fail
          go_roundw
          case rel => exact ⟨k + 1, v9, _, I + 1 + 1, O, J + 1, by omega, by go_num, by go_num, by go_num, by go_num, X9, B9, box (by have := HBD.out; omega), by omega, by omega, by (rw [e1, e2]; omega), by (rw [e1, e2]; omega)⟩
          case measure => simp [intOf]; omega
      have d0 : (kd == 0) = false := by simp [h0]
      obtain ⟨L, hL⟩ : ∃ L, s.fl.length = L := ⟨_, rfl⟩
      have HLL := box hL
      have HB1 := box (show I ≤ O + L + s.lost ∧ O + L + s.lost ≤ I from by rw [← hL]; exact ⟨hb1, hb2⟩)
      have hL64 : L ≤ 64 := by rw [← hL]; exact HFL.out
      clear hb1 hb2 hL
      by_cases h1 : kd = 1
      · have d1 : (kd == 1) = true := by simp [h1]
        clear h0 h1
        have TK := box (tick_any w2.heap.size (fun k => k < w2.heap.size) g v s wa XA.out (by have := HBD.out; omega))
        have HDUE := box (due_le s.fl (s.time + 1))
        generalize due s.fl (s.time + 1) = K at TK HDUE
        have hKL : K ≤ L := by rw [← HLL.out]; exact HDUE.out
        have hO : O ≤ 40000 := by have := HBD.out; have := HB1.out; omega
        go_wp2_with fail
        refine TK.out.mono ?_
        rintro e w9 ⟨v9, ra, rc, rfl, _, x9, st9, _, _⟩
        have X9 := box x9
        have B9 := box (XA.out.steps st9 BA.out)
        clear x9 st9 TK
        have FLY := box (show Calls Try.prog 15 #[.pointer (some ⟨g, 0, none⟩)] w9 fun e w' => e = .returned (.int .i64 (((L - K : Nat) : Int))) ∧ w9 = w' from by
          have h := flying_any _ _ _ _ _ _ X9.out
          simp only [List.length_drop, HLL.out] at h
          exact h)
        have LOS := box (show Calls Try.prog 16 #[.pointer (some ⟨g, 0, none⟩)] w9 fun e w' => e = .returned (.int .i64 ((s.lost : Int))) ∧ w9 = w' from by
          have h := lost_any _ _ _ _ _ _ X9.out
          skip
          exact h)
        have hLO : s.lost ≤ 64 * k := HBD.out.2.2.2
        have hbal := HB1.out.1
        have hbal2 := HB1.out.2
        go_wp2_with fail
        refine FLY.out.mono ?_
        rintro e w8 ⟨rfl, rfl⟩
        go_wp2_with fail
        refine LOS.out.mono ?_
        rintro e w8 ⟨rfl, rfl⟩
        go_wp2_with fail
        go_roundw
        case rel => exact ⟨k + 1, v9, _, I, O + K, J, by omega, by go_num, by go_num, by go_num, by go_num, X9, B9, box (by have := HBD.out; (show s.d ≤ 100 ∧ s.time + 1 ≤ k + 1 ∧ s.sent ≤ k + 1 ∧ s.lost ≤ 64 * (k + 1)); omega), by omega, by omega, by (simp only [List.length_drop, HLL.out]; omega), by (simp only [List.length_drop, HLL.out]; omega)⟩
        case measure => simp [intOf]; omega
      have d1 : (kd == 1) = false := by simp [h1]
      by_cases h2 : kd = 2
      · have d2 : (kd == 2) = true := by simp [h2]
        clear h0 h1 h2
        have CU := box (cut_any w2.heap.size (fun k => k < w2.heap.size) g v s (by have := HBD.out; omega) wa XA.out)
        go_wp2_with fail
        refine CU.out.mono ?_
        rintro e w9 ⟨rfl, x9, st9⟩
        have X9 := box x9
        have B9 := box (XA.out.steps st9 BA.out)
        have FL9 := box (flying_any _ _ _ _ _ _ x9)
        have UP9 := box (up_any _ _ _ _ _ _ x9)
        clear x9 st9 CU
        go_wp2_with fail
        refine FL9.out.mono ?_
        rintro e w8 ⟨rfl, rfl⟩
        go_wp2_with fail
        refine UP9.out.mono ?_
        rintro e w8 ⟨rfl, rfl⟩
        have FLY := box (show Calls Try.prog 15 #[.pointer (some ⟨g, 0, none⟩)] w9 fun e w' => e = .returned (.int .i64 (0)) ∧ w9 = w' from by
          have h := flying_any _ _ _ _ _ _ X9.out
          skip
          exact h)
        have LOS := box (show Calls Try.prog 16 #[.pointer (some ⟨g, 0, none⟩)] w9 fun e w' => e = .returned (.int .i64 (((s.lost + L : Nat) : Int))) ∧ w9 = w' from by
          have h := lost_any _ _ _ _ _ _ X9.out
          simp only [HLL.out] at h
          exact h)
        have hLO : s.lost ≤ 64 * k := HBD.out.2.2.2
        have hbal := HB1.out.1
        have hbal2 := HB1.out.2
        go_wp2_with fail
        refine FLY.out.mono ?_
        rintro e w8 ⟨rfl, rfl⟩
        go_wp2_with fail
        refine LOS.out.mono ?_
        rintro e w8 ⟨rfl, rfl⟩
        go_wp2_with fail
        go_roundw
        case rel => exact ⟨k + 1, _, _, I, O, J, by omega, by go_num, by go_num, by go_num, by go_num, X9, B9, box (by have := HBD.out; (show s.d ≤ 100 ∧ s.time ≤ k + 1 ∧ s.sent ≤ k + 1 ∧ s.lost + s.fl.length ≤ 64 * (k + 1)); rw [HLL.out]; omega), by omega, by omega, by (simp only [List.length_nil, HLL.out]; omega), by (simp only [List.length_nil, HLL.out]; omega)⟩
        case measure => simp [intOf]; omega
      have d2 : (kd == 2) = false := by simp [h2]
      by_cases h3 : kd = 3
      · have d3 : (kd == 3) = true := by simp [h3]
        clear h0 h1 h2 h3
        have ME := box (mend_any w2.heap.size (fun k => k < w2.heap.size) g v s wa XA.out)
        go_wp2_with fail
        refine ME.out.mono ?_
        rintro e w9 ⟨rfl, x9, st9⟩
        have X9 := box x9
        have B9 := box (XA.out.steps st9 BA.out)
        clear x9 st9 ME
        have FLY := box (show Calls Try.prog 15 #[.pointer (some ⟨g, 0, none⟩)] w9 fun e w' => e = .returned (.int .i64 ((L : Int))) ∧ w9 = w' from by
          have h := flying_any _ _ _ _ _ _ X9.out
          simp only [HLL.out] at h
          exact h)
        have LOS := box (show Calls Try.prog 16 #[.pointer (some ⟨g, 0, none⟩)] w9 fun e w' => e = .returned (.int .i64 ((s.lost : Int))) ∧ w9 = w' from by
          have h := lost_any _ _ _ _ _ _ X9.out
          skip
          exact h)
        have hLO : s.lost ≤ 64 * k := HBD.out.2.2.2
        have hbal := HB1.out.1
        have hbal2 := HB1.out.2
        go_wp2_with fail
        refine FLY.out.mono ?_
        rintro e w8 ⟨rfl, rfl⟩
        go_wp2_with fail
        refine LOS.out.mono ?_
        rintro e w8 ⟨rfl, rfl⟩
        go_wp2_with fail
        go_roundw
        case rel => exact ⟨k + 1, v, _, I, O, J, by omega, by go_num, by go_num, by go_num, by go_num, X9, B9, box (by have := HBD.out; (show s.d ≤ 100 ∧ s.time ≤ k + 1 ∧ s.sent ≤ k + 1 ∧ s.lost ≤ 64 * (k + 1)); omega), by omega, by omega, by (simp only [HLL.out]; omega), by (simp only [HLL.out]; omega)⟩
        case measure => simp [intOf]; omega
      have d3 : (kd == 3) = false := by simp [h3]
      clear h0 h1 h2 h3
      have X9 := XA
      have B9 := BA
      have FLY := box (show Calls Try.prog 15 #[.pointer (some ⟨g, 0, none⟩)] wa fun e w' => e = .returned (.int .i64 ((L : Int))) ∧ wa = w' from by
        have h := flying_any _ _ _ _ _ _ X9.out
        rw [HLL.out] at h
        exact h)
      have LOS := box (show Calls Try.prog 16 #[.pointer (some ⟨g, 0, none⟩)] wa fun e w' => e = .returned (.int .i64 ((s.lost : Int))) ∧ wa = w' from by
        have h := lost_any _ _ _ _ _ _ X9.out
        skip
        exact h)
      have hLO : s.lost ≤ 64 * k := HBD.out.2.2.2
      have hbal := HB1.out.1
      have hbal2 := HB1.out.2
      go_wp2_with fail
      refine FLY.out.mono ?_
      rintro e w8 ⟨rfl, rfl⟩
      go_wp2_with fail
      refine LOS.out.mono ?_
      rintro e w8 ⟨rfl, rfl⟩
      go_wp2_with fail
      go_roundw
      case rel => exact ⟨k + 1, v, _, I, O, J, by omega, by go_num, by go_num, by go_num, by go_num, X9, B9, box (by have := HBD.out; (show s.d ≤ 100 ∧ s.time ≤ k + 1 ∧ s.sent ≤ k + 1 ∧ s.lost ≤ 64 * (k + 1)); omega), by omega, by omega, by (rw [HLL.out]; omega), by (rw [HLL.out]; omega)⟩
      case measure => simp [intOf]; omega
    · have HKM := box (show k = m by omega)
      go_wp2_with fail
      go_ret
      exact ⟨rfl, B2.out.trans (hbel.out.mono B2.out.size)⟩
end Go.Proofs.Ytoeedbimhihbhaa
