/- The reference's Sealed; the walk of CrcSeals. -/
import Derived.Test.YtilacnfcohlbnaaDoorCrcH
import Derived.Test.YtilacnfcohlbnaaDoorCrcQ
namespace Go.Proofs.YtilacnfcohlbnaaDoor
open Go.RowKit

set_option maxHeartbeats 8000000 in
theorem sealed_any (a : Addr) (n c : Nat) (xs : List Nat) (hn : xs.length = n) (hx : ∀ x ∈ xs, x < 256) (hbig : n ≤ 1000) (h4 : 4 ≤ n) (hcap : n ≤ c) (w : World) (hc : At w a xs) :
    Calls Tryd.prog 19 #[.slice (some a) n c] w fun e w' => e = .returned (.bool (decide (crc xs = 558161692))) ∧ Below w.heap.size w w' := by
  have hsi := sealed_iff hx (by omega)
  rw [hn] at hsi
  have HX := box hx
  have HC := box hc
  clear hx hc
  have hz4 : ¬ ((n : Int) < 4) := by omega
  have hd : decide ((n : Int) < 4) = false := decide_eq_false hz4
  obtain ⟨ms, hms⟩ : ∃ ms, xs.take (n - 4) = ms := ⟨_, rfl⟩
  have hml : ms.length = n - 4 := by rw [← hms]; simp; omega
  have HM : ∀ x ∈ ms, x < 256 := fun x h => HX.out x (List.mem_of_mem_take (hms ▸ h))
  have HMA : At w a ms := fun i hi => by
    have h2 : i < n - 4 := by omega
    rw [HC.out i (by omega), ← hms]
    simp [List.getD_eq_getElem?_getD, h2]
  rw [hms] at hsi
  have HR := box (rappend_any (some a) (n - 4) c ms hml HM (by omega) (fun h => by cases h) w (.inr ⟨a, rfl, HMA⟩))
  have hgl : (ms ++ le4 (crc ms)).length = n := by simp [hml, le4_length]; omega
  generalize ms ++ le4 (crc ms) = gs at hsi HR hgl
  have HB : Box (decide (crc xs = 558161692) = decide (xs = gs)) := box (by simp only [decide_eq_decide]; exact hsi)
  generalize decide (crc xs = 558161692) = bv at HB ⊢
  clear hsi hms HM HMA
  go_enter Tryd.func19, Tryd.ntmps19
  go_wp2_with fail
  refine HR.out.mono ?_
  rintro e w1 ⟨v, rfl, hown, hb1⟩
  obtain ⟨a1, c1, hv, hin⟩ := hown.form
  rw [hgl] at hv
  subst hv
  obtain ⟨g, rfl, hat⟩ : ∃ g, a1 = some g ∧ At w1 g gs := by
    rcases hin with h | h
    · subst h; simp at hgl; omega
    · exact h
  have HG := box hat
  clear hown hin hat HR
  go_wp2_with fail
  go_loopw [4] (fun t4 wr => ∃ i : Nat, i ≤ n ∧ t4 = .int .i64 i ∧ Box (∀ j < i, xs.getD j 0 = gs.getD j 0) ∧ Below w1.heap.size w1 wr) (fun t4 _ => n - (intOf t4).toNat)
  case atStart => exact ⟨0, by omega, rfl, box (fun j hj => by omega), Below.refl _ _⟩
  case round =>
    obtain ⟨i, hin, rfl, heq, kbr⟩ := hrel
    by_cases hlt : i < n
    · have k1 := keepc kbr (HG.out i (by omega))
      have k2 := keepc kbr (keepc hb1 (HC.out i (by omega)))
      have hz1 : (i : Int) < (n : Int) := by omega
      have hz0 : (0 : Int) ≤ (i : Int) := by omega
      have HE : Box (xs.getD i 0 = gs.getD i 0 → ∀ j < i + 1, xs.getD j 0 = gs.getD j 0) := box (fun h j hj => by
        by_cases hji : j = i
        · subst hji; exact h
        · exact heq.out j (by omega))
      have HF : Box (xs.getD i 0 ≠ gs.getD i 0 → xs ≠ gs) := box (fun h he => h (by rw [he]))
      generalize xs.getD i 0 = y at k2 HE HF
      generalize gs.getD i 0 = z at k1 HE HF
      by_cases hyz : z = y
      · subst hyz
        have HN := box (HE.out rfl)
        clear HE HF heq
        go_wp2_with fail
        go_quiet (fail)
        go_wp2_with fail
        go_roundw
        case rel => exact ⟨i + 1, by omega, by go_num, HN, below_drewN _ kbr⟩
        case measure => simp [intOf]; omega
      · have hne : ((z : Int) != (y : Int)) = true := by simp; omega
        have hbv : bv = false := by rw [HB.out]; exact decide_eq_false (HF.out (fun h => hyz h.symm))
        subst hbv
        clear HE HF heq
        go_wp2_with fail
        go_quiet (fail)
        go_wp2_with fail
        go_ret
        exact ⟨rfl, hb1.trans ((below_drewN _ kbr).mono hb1.size)⟩
    · have hi' : i = n := by omega
      subst hi'
      have hbv : bv = true := by
        rw [HB.out]
        refine decide_eq_true (List.ext_getElem (by omega) fun j h1 h2 => ?_)
        have := heq.out j (by omega)
        simpa [List.getD_eq_getElem?_getD, List.getElem?_eq_getElem h1, List.getElem?_eq_getElem h2] using this
      subst hbv
      clear heq
      go_wp2_with fail
      go_ret
      exact ⟨rfl, hb1.trans (kbr.mono hb1.size)⟩
end Go.Proofs.YtilacnfcohlbnaaDoor
