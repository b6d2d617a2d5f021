/- The reference's Valid. -/
import Derived.Test.YtoeedbimhihbhaaCabB
namespace Go.Proofs.Ytoeedbimhihbhaa
open Go.RowKit

theorem drewN_belowC (w : World) (k : Nat) : Below w.heap.size w (w.drewN k) := ⟨rfl, rfl, rfl, Nat.le_refl _, fun _ _ => rfl⟩

set_option maxRecDepth 100000 in
set_option maxHeartbeats 8000000 in
theorem rvalid_any (a : Option Addr) (n c : Nat) (fs : List Ft) (hn : fs.length = n) (hbig : n ≤ 1000) (w : World) (hc : FtsIn w a fs) :
    Calls Try.prog 13 #[.slice a n c] w fun e w' => e = .returned (.bool (okF fs)) ∧ Below w.heap.size w w' := by
  have HC := box hc
  clear hc
  obtain ⟨res, hres⟩ : ∃ res, okF fs = res := ⟨_, rfl⟩
  have HR := box hres
  rw [hres]
  clear hres
  go_enter Try.func13, Try.ntmps13
  go_wp2_with fail
  go_loopw [3] (fun t3 wr => ∃ (k : Nat) (la : Int), k ≤ n ∧ t3 = .int .i64 k ∧ Box (lastOf fs k = la) ∧ Box (0 < k → 0 ≤ la) ∧ Box (okFrom la (fs.drop k) = res) ∧ Below w.heap.size w wr) (fun t3 _ => n - (intOf t3).toNat)
  case atStart => exact ⟨0, -1, by omega, rfl, box rfl, box (fun h => absurd h (Nat.lt_irrefl _)), box HR.out, Below.refl _ _⟩
  case round =>
    obtain ⟨k, la, hk, rfl, hla, hpos, hok, kb⟩ := hrel
    by_cases hlt : k < n
    · obtain ⟨b, o, rfl, x0, x1, x2⟩ := (HC.out.below kb).at (show k < fs.length by omega)
      have HS := box (okFrom_step (show k < fs.length by omega))
      have HL := box (show lastOf fs (k + 1) = (fs[k]'(by omega)).at_ by simp [lastOf, List.getElem?_eq_getElem (show k < fs.length by omega)])
      have HOK := box (show okFrom la (fs.drop k) = (okOne la (fs[k]'(by omega)) && okFrom (fs[k]'(by omega)).at_ (fs.drop (k + 1))) by rw [← hla.out, HS.out, HL.out])
      clear HS
      generalize fs[k]'(by omega) = f at x0 x1 x2 HL HOK
      obtain ⟨fa, fk, fg⟩ := f
      have HOK2 := box (show okFrom la (fs.drop k) = ((decide (la < fa) && ((fk == 1 || fk == 2 || fk == 3) && decide (0 ≤ fg))) && okFrom fa (fs.drop (k + 1))) from HOK.out)
      have HL2 := box (show lastOf fs (k + 1) = fa from HL.out)
      simp only at x0 x1 x2
      clear HL HOK
      have lx := World.block_lt_of_cell? wr ⟨b, o + k * 3, none⟩ x0
      have D6 := box (show decide (la < fa) = !decide (fa ≤ la) by rw [← decide_not]; exact decide_eq_decide.2 (by omega))
      have D7 := box (show decide (0 ≤ fg) = !decide (fg < 0) by rw [← decide_not]; exact decide_eq_decide.2 (by omega))
      have D8 := box (show (fk == 1 || fk == 2 || fk == 3) = !(decide (fk < 1) || decide (3 < fk)) by
        by_cases h1 : fk = 1
        · simp [h1]
        by_cases h2 : fk = 2
        · simp [h2]
        by_cases h3 : fk = 3
        · simp [h3]
        have : fk < 1 ∨ 3 < fk := by omega
        rcases this with h | h <;> simp [h1, h2, h3, h])
      have HV := box (show okFrom la (fs.drop k) = ((!decide (fa ≤ la) && (!(decide (fk < 1) || decide (3 < fk)) && !decide (fg < 0))) && okFrom fa (fs.drop (k + 1))) by rw [HOK2.out, D6.out, D7.out, D8.out])
      clear D6 D7 D8 HOK2
      have HK0 := box (show k = 0 → la = -1 from fun h0 => by
        have h := hla.out
        rw [h0] at h
        exact h.symm)
      have HLA := box (show 0 < k → (fs[k - 1]?).map Ft.at_ = some la from fun h0 => by
        have h := hla.out
        rw [show k = (k - 1) + 1 by omega] at h
        have e : fs[k - 1]? = some (fs[k - 1]'(by omega)) := List.getElem?_eq_getElem (by omega)
        simp only [lastOf, e] at h
        rw [e, Option.map_some, h])
      have HP := box (show 0 < k → wr.cell? ⟨b, o + (k - 1) * 3, none⟩ = some (.int .i64 la) from fun h0 => by
        obtain ⟨b', o', hbo, y0, _, _⟩ := (HC.out.below kb).at (show k - 1 < fs.length by omega)
        cases hbo
        have h := HLA.out h0
        rw [List.getElem?_eq_getElem (show k - 1 < fs.length by omega), Option.map_some] at h
        rw [y0, Option.some.inj h])
      clear HLA
      by_cases hneg : fa < 0
      · have d0 : decide (fa < 0) = true := decide_eq_true hneg
        have HW := box (show res = false by
          rw [← hok.out, HV.out]
          have : fa ≤ la := by
            by_cases h0 : 0 < k
            · have := hpos.out h0; omega
            · have := HK0.out (by omega); omega
          simp [this])
        go_wp2_with fail
        go_quiet (fail)
        go_wp2_with fail
        go_ret
        exact ⟨by rw [HW.out]; rfl, kb.trans ((drewN_belowC _ _).mono kb.size)⟩
      have d0 : decide (fa < 0) = false := decide_eq_false hneg
      by_cases h1 : fk < 1
      · have d1 : decide (fk < 1) = true := decide_eq_true h1
        have HW := box (show res = false by rw [← hok.out, HV.out, d1]; simp)
        go_wp2_with fail
        go_quiet (fail)
        go_wp2_with fail
        go_ret
        exact ⟨by rw [HW.out]; rfl, kb.trans ((drewN_belowC _ _).mono kb.size)⟩
      have d1 : decide (fk < 1) = false := decide_eq_false h1
      by_cases h2 : 3 < fk
      · have d2 : decide (3 < fk) = true := decide_eq_true h2
        have HW := box (show res = false by rw [← hok.out, HV.out, d2]; simp)
        go_wp2_with fail
        go_quiet (fail)
        go_wp2_with fail
        go_ret
        exact ⟨by rw [HW.out]; rfl, kb.trans ((drewN_belowC _ _).mono kb.size)⟩
      have d2 : decide (3 < fk) = false := decide_eq_false h2
      by_cases h3 : fg < 0
      · have d3 : decide (fg < 0) = true := decide_eq_true h3
        have HW := box (show res = false by rw [← hok.out, HV.out, d3]; simp)
        go_wp2_with fail
        go_quiet (fail)
        go_wp2_with fail
        go_ret
        exact ⟨by rw [HW.out]; rfl, kb.trans ((drewN_belowC _ _).mono kb.size)⟩
      have d3 : decide (fg < 0) = false := decide_eq_false h3
      have HP0 := box (show 0 ≤ fa by omega)
      clear h1 h2 h3 hneg
      rcases Nat.eq_zero_or_pos k with h0 | h0
      · have HF := box (show decide (fa ≤ la) = false from decide_eq_false (by have := HK0.out h0; have := HP0.out; omega))
        clear HK0 HP
        subst h0
        have HW := box (show okFrom fa (fs.drop (0 + 1)) = res by rw [← hok.out, HV.out, d1, d2, d3, HF.out]; rfl)
        have e0 : o + 0 * 3 = o := by omega
        rw [e0] at x0 x1 x2
        go_wp2_with fail
        go_quiet (fail)
        go_wp2_with fail
        go_roundw
        case rel => exact ⟨0 + 1, fa, by omega, by go_num, HL2, box (fun _ => HP0.out), HW, kb.trans ((drewN_belowC _ _).mono kb.size)⟩
        case measure => simp [intOf]; omega
      · have hp := HP.out h0
        clear HK0 HP
        obtain ⟨j, rfl⟩ : ∃ j, k = j + 1 := ⟨k - 1, by omega⟩
        rw [Nat.add_sub_cancel] at hp
        by_cases h4 : fa ≤ la
        · have d4 : decide (fa ≤ la) = true := decide_eq_true h4
          have HW := box (show res = false by rw [← hok.out, HV.out, d4]; simp)
          clear h4
          go_wp2_with fail
          go_quiet (fail)
          go_wp2_with fail
          go_ret
          exact ⟨by rw [HW.out]; rfl, kb.trans ((drewN_belowC _ _).mono kb.size)⟩
        · have d4 : decide (fa ≤ la) = false := decide_eq_false h4
          have HW := box (show okFrom fa (fs.drop (j + 1 + 1)) = res by rw [← hok.out, HV.out, d1, d2, d3, d4]; rfl)
          clear h4
          go_wp2_with fail
          go_quiet (fail)
          go_wp2_with fail
          go_roundw
          case rel => exact ⟨j + 1 + 1, fa, by omega, by go_num, HL2, box (fun _ => HP0.out), HW, kb.trans ((drewN_belowC _ _).mono kb.size)⟩
          case measure => simp [intOf]; omega
    · obtain rfl : k = n := by omega
      have HV := box (show res = true by rw [← hok.out, ← hn, List.drop_length]; rfl)
      go_wp2_with fail
      go_ret
      exact ⟨by rw [HV.out]; rfl, kb⟩
end Go.Proofs.Ytoeedbimhihbhaa
