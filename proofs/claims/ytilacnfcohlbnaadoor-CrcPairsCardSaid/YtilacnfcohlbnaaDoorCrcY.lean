/- The walk of CrcPairs. -/
import Derived.Test.YtilacnfcohlbnaaDoorCrcS
import Derived.ChangeAlike
import Derived.BigRegion
import Derived.Deep.QuietTactic
import Derived.BigQuiet
namespace Go.Proofs.YtilacnfcohlbnaaDoor
open Go.RowKit

set_option maxHeartbeats 8000000 in
theorem pairs_walk (a : Option Addr) (n c : Nat) (xs : List Nat) (x y : Nat) (hn : xs.length = n) (hx : ∀ x ∈ xs, x < 256) (lx : x < 65536) (ly : y < 65536) (w : World) (hc : In w a xs) (hT : HasTab w) :
    Calls Tryd.prog 8 #[.slice a n c, .int .u16 x, .int .u16 y] w fun e w' => e = .returned (.bool true) ∧ Below w.heap.size w w' := by
  have HT := box hT
  have HX := box hx
  have HC := box hc
  clear hT hx hc
  by_cases hl : 96 < n
  · have hd : decide ((96 : Int) < (n : Int)) = true := decide_eq_true (by omega)
    have hlz : (96 : Int) < (n : Int) := by omega
    go_enter Tryd.func8, Tryd.ntmps8
    go_wp2_with fail
    refine (awake_any _ HT.out).mono ?_
    rintro e w1 ⟨rfl, hb1⟩
    go_wp2_with fail
    go_ret
    exact ⟨rfl, hb1⟩
  · have hd : decide ((96 : Int) < (n : Int)) = false := decide_eq_false (by omega)
    obtain ⟨i0, hi, hz0, hz1, hz2⟩ := info_parts Tryd.infoU8
    have hu22 := Tryd.underlying22
    go_enter Tryd.func8, Tryd.ntmps8
    go_wp2_with fail
    refine (awake_any _ HT.out).mono ?_
    rintro e w1 ⟨rfl, hb1⟩
    go_wp2_with fail
    refine (append_any a n c xs hn HX.out (by omega) _ (HC.out.below hb1) (HT.out.below hb1)).mono ?_
    rintro e w2 ⟨v, rfl, hown, hb2⟩
    obtain ⟨a2, c2, rfl, hin⟩ := hown.form
    obtain ⟨b2, rfl, hat⟩ : ∃ b2, a2 = some b2 ∧ At w2 b2 (xs ++ le4 (crc xs)) := by
      rcases hin with h | h
      · have := congrArg List.length h; simp [le4_length] at this
      · exact h
    have hlt := box (sealed_lt HX.out)
    have hln : (xs ++ le4 (crc xs)).length = n + 4 := by rw [sealed_length, hn]
    have hsr := box (sealed_reg HX.out)
    have hsc := box (sealed_crc HX.out)
    have htk : Box ((xs ++ le4 (crc xs)).take n = xs) := box (by rw [← hn]; simp)
    rw [hln]
    generalize xs ++ le4 (crc xs) = ss at hat hlt hln hsr hsc htk
    have HA := box hat
    have kb : Below w.heap.size w w2 := hb1.trans (hb2.mono hb1.size)
    clear hown hin hat
    have hd4 : decide (((n + 4 : Nat) : Int) < 4) = false := decide_eq_false (by omega)
    obtain ⟨m, hm⟩ : ∃ m, n + 4 = m := ⟨_, rfl⟩
    rw [hm] at hd4 hln ⊢
    have hsz : ∀ {o : Obj}, w2.heap.size ≤ (w2.alloc o).heap.size := by intro o; show _ ≤ (w2.heap.push o).size; rw [Array.size_push]; exact Nat.le_succ _
    have hm8 : (8 * (m : Int)) ≠ 0 := by omega
    obtain ⟨k1, hk1⟩ : ∃ k1, x % (8 * m) = k1 := ⟨_, rfl⟩
    have lk1 : k1 < 8 * m := by rw [← hk1]; exact Nat.mod_lt _ (by omega)
    have ek1 : (x : Int).tmod (8 * (m : Int)) = (k1 : Int) := by
      rw [Int.tmod_eq_emod_of_nonneg (by omega), ← hk1]; push_cast; rfl
    obtain ⟨k2, hk2⟩ : ∃ k2, y % (8 * m) = k2 := ⟨_, rfl⟩
    have lk2 : k2 < 8 * m := by rw [← hk2]; exact Nat.mod_lt _ (by omega)
    have ek2 : (y : Int).tmod (8 * (m : Int)) = (k2 : Int) := by
      rw [Int.tmod_eq_emod_of_nonneg (by omega), ← hk2]; push_cast; rfl
    clear hk1 hk2
    go_wp2_with fail
    go_quiet (fail)
    have kq : Below w2.heap.size w2 (w2.drewN nq) := below_drewN _ (Below.refl _ _)
    generalize w2.drewN nq = w4 at kq
    have HA4 : Box (At w4 b2 ss) := box fun i hi => keepc kq (HA.out i hi)
    have hsz : ∀ {o : Obj}, w4.heap.size ≤ (w4.alloc o).heap.size := by intro o; show _ ≤ (w4.heap.push o).size; rw [Array.size_push]; exact Nat.le_succ _
    have kb4 : Below w.heap.size w w4 := kb.trans (kq.mono kb.size)
    clear HA kq
    go_wp2_with (at_builtin; refine wpList_append_own (o := ⟨some 37, _, _, _, _, _⟩) _ rfl _ _ 22 rfl w4.heap.size 5 i0 (.int .u8 0) 1 1 hu22 hi hz0 hz1 hz2 rfl (by decide) _ 0 [] rfl (World.ownsRow_made w4 #[] 0 (Nat.le_refl _) (Nat.zero_le _) rfl) b2 m c2 (ss.map nU8) rfl (by simp [hln]) (in_some_cells HA4.out _) (nU8_one _) (by unfold maxLen; omega) (by omega) hsz ?_; intro v' w3 hown3 hgrow3 hnil3; obtain ⟨g, cap, rfl⟩ := own_shape hown3 (by omega); have HO3 := box hown3; have HB3 := box (((Below.refl w4.heap.size w4).alloc (Nat.le_refl _) (.cells #[] 5)).grown hgrow3 hsz (by rintro k hk; cases hk; exact Nat.le_refl _)); clear hown3 hgrow3 hnil3)
    have hO : w3.ownsRow w4.heap.size 5 1 (.slice (some ⟨g, 0, none⟩) m cap) m (ss.map nU8) := by have h := HO3.out; simpa using h
    have kb3 := HB3.out
    clear HO3 HB3
    obtain ⟨hg1, hg2, hcap⟩ := own_block hO
    have hsz1 : ∀ d ∈ flip ss k1, d < 256 := flip_lt hlt.out (by omega)
    obtain ⟨kq, kr, yv, nv, eq1, eq2, lkq, lkr, c1, f1, hxor, hfl, hst⟩ := flip_facts hO hln hlt.out lk1
    have lkqz : (kq : Int) < (m : Int) := by omega
    have lkq0 : (0 : Int) ≤ (kq : Int) := by omega
    have lkr0 : (0 : Int) ≤ (kr : Int) := by omega
    have HST := box hst
    clear hst hfl hO
    go_region
    have kb5 : Below w4.heap.size w4 ((w3.setCell ⟨g, kq, none⟩ (nU8 nv)).drew) := (kb3.setCell hg1 _).drew
    have hO5 := HST.out
    generalize (w3.setCell ⟨g, kq, none⟩ (nU8 nv)).drew = w5 at kb5 hO5 ⊢
    clear HST c1 f1 eq1 eq2 hxor lkq lkr lkqz lkq0 lkr0
    have hl1 : (flip ss k1).length = m := by rw [flip_length, hln]
    obtain ⟨kq, kr, yv, nv, eq1, eq2, lkq, lkr, c1, f1, hxor, hfl, hst⟩ := flip_facts hO5 hl1 hsz1 lk2
    have lkqz : (kq : Int) < (m : Int) := by omega
    have lkq0 : (0 : Int) ≤ (kq : Int) := by omega
    have lkr0 : (0 : Int) ≤ (kr : Int) := by omega
    have HST := box hst
    have hsz2 := box (flip_lt hsz1 (by omega) : ∀ d ∈ flip (flip ss k1) k2, d < 256)
    have hl2 : (flip (flip ss k1) k2).length = m := by rw [flip_length, hl1]
    clear hst hfl hO5 hsz1 hl1
    have PM := fun h => box (pairs_math ss m k1 k2 hln (by omega) hsr.out lk1 lk2 h)
    have PS := fun h : k1 = k2 => box (show flip (flip ss k1) k2 = ss by rw [← h]; exact flip_flip (by omega))
    generalize flip (flip ss k1) k2 = zs at HST hsz2 hl2 PM PS
    go_wp2_with fail
    go_region
    have kb6 : Below w4.heap.size w4 ((w5.setCell ⟨g, kq, none⟩ (nU8 nv)).drew) := (kb5.setCell hg1 _).drew
    have hO6 := HST.out
    generalize (w5.setCell ⟨g, kq, none⟩ (nU8 nv)).drew = w6 at kb6 hO6 ⊢
    clear HST c1 f1 eq1 eq2 hxor lkq lkr lkqz lkq0 lkr0
    have HI := box (own_in hl2 hO6)
    have kb7 : Below w.heap.size w w6 := kb4.trans (kb6.mono kb4.size)
    by_cases h12 : k1 = k2
    · have hzz := (PS h12).out
      subst hzz
      have C1 := fun w' h1 h2 => box (check_ok (some ⟨g, 0, none⟩) m cap zs hl2 hsz2.out (by omega) (by omega) hcap hsc.out w' h1 h2)
      have hz12 : ((k1 : Int) == (k2 : Int)) = true := by simp [h12]
      clear PM PS hO6
      go_wp2_with fail
      refine (C1 w6 HI.out (HT.out.below kb7)).out.mono ?_
      rintro e w7 ⟨v7, rfl, hown7, hb7⟩
      have hm4 : m - 4 = n := by omega
      rw [hm4, htk.out] at hown7
      obtain ⟨a7, c7, hv7, hin7⟩ := hown7.form
      rw [hn] at hv7
      subst hv7
      have kb8 : Below w.heap.size w w7 := kb7.trans (hb7.mono kb7.size)
      have cv1 := conv_any (c := c7) hn hin7
      have cv2 := conv_any (c := c) hn (HC.out.below kb8)
      clear hown7 hin7
      subst h12
      go_wp2_with fail
      go_ret
      exact ⟨rfl, kb8⟩
    · have C1 := fun w' h1 h2 => box (check_bad (some ⟨g, 0, none⟩) m cap zs hl2 hsz2.out (by omega) (by omega) (PM h12).out w' h1 h2)
      have hz12 : ((k1 : Int) == (k2 : Int)) = false := by simp; omega
      clear PM PS hO6
      go_wp2_with fail
      refine (C1 w6 HI.out (HT.out.below kb7)).out.mono ?_
      rintro e w7 ⟨rfl, hw7⟩
      have hw7' := hw7.symm
      subst hw7'
      go_wp2_with fail
      go_ret
      exact ⟨rfl, kb7⟩
end Go.Proofs.YtilacnfcohlbnaaDoor
