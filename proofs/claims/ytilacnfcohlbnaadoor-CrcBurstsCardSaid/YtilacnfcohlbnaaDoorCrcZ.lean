/- The walk of CrcBursts. -/
import Derived.Test.YtilacnfcohlbnaaDoorCrcS
import Derived.Test.YtilacnfcohlbnaaDoorCrcBm
import Derived.Test.YtilacnfcohlbnaaDoorCrcR
import Derived.ChangeAlike
import Derived.BigRegion
namespace Go.Proofs.YtilacnfcohlbnaaDoor
open Go.RowKit

set_option maxHeartbeats 8000000 in
theorem bursts_walk (a : Option Addr) (n c : Nat) (xs : List Nat) (x y : Nat) (hn : xs.length = n) (hx : ∀ x ∈ xs, x < 256) (lx : x < 65536) (ly : y < 4294967296) (w : World) (hc : In w a xs) (hT : HasTab w) :
    Calls Tryd.prog 6 #[.slice a n c, .int .u16 x, .int .u32 y] w fun e w' => e = .returned (.bool true) ∧ Below w.heap.size w w' := by
  have HT := box hT
  have HX := box hx
  have HC := box hc
  clear hT hx hc
  by_cases hl : 300 < n
  · have hd : decide ((300 : Int) < (n : Int)) = true := decide_eq_true (by omega)
    have hlz : (300 : Int) < (n : Int) := by omega
    go_enter Tryd.func6, Tryd.ntmps6
    go_wp2_with fail
    refine (awake_any _ HT.out).mono ?_
    rintro e w1 ⟨rfl, hb1⟩
    go_wp2_with fail
    go_ret
    exact ⟨rfl, hb1⟩
  have hd : decide ((300 : Int) < (n : Int)) = false := decide_eq_false (by omega)
  by_cases hy0 : y = 0
  · subst hy0
    go_enter Tryd.func6, Tryd.ntmps6
    go_wp2_with fail
    refine (awake_any _ HT.out).mono ?_
    rintro e w1 ⟨rfl, hb1⟩
    go_wp2_with fail
    go_ret
    exact ⟨rfl, hb1⟩
  have hyz : ((y : Int) == 0) = false := by simp; omega
  obtain ⟨i0, hi, hz0, hz1, hz2⟩ := info_parts Tryd.infoU8
  have hu22 := Tryd.underlying22
  go_enter Tryd.func6, Tryd.ntmps6
  go_wp2_with fail
  refine (awake_any _ HT.out).mono ?_
  rintro e w1 ⟨rfl, hb1⟩
  go_wp2_with fail
  refine (append_any a n c xs hn HX.out (by omega) _ (HC.out.below hb1) (HT.out.below hb1)).mono ?_
  rintro e w2 ⟨v, rfl, hown, hb2⟩
  obtain ⟨a2, c2, rfl, hin⟩ := hown.form
  obtain ⟨b2, rfl, hat⟩ : ∃ b2, a2 = some b2 ∧ At w2 b2 (xs ++ le4 (crc xs)) := by
    rcases hin with h | h
    · have := congrArg List.length h; simp [le4_length] at this
    · exact h
  have hlt := box (sealed_lt HX.out)
  have hln : (xs ++ le4 (crc xs)).length = n + 4 := by rw [sealed_length, hn]
  have hsr := box (sealed_reg HX.out)
  rw [hln]
  generalize xs ++ le4 (crc xs) = ss at hat hlt hln hsr
  have HA := box hat
  have kb : Below w.heap.size w w2 := hb1.trans (hb2.mono hb1.size)
  clear hown hin hat
  have hd4 : decide (((n + 4 : Nat) : Int) < 4) = false := decide_eq_false (by omega)
  obtain ⟨m, hm⟩ : ∃ m, n + 4 = m := ⟨_, rfl⟩
  rw [hm] at hd4 hln ⊢
  have hsz : ∀ {o : Obj}, w2.heap.size ≤ (w2.alloc o).heap.size := by intro o; show _ ≤ (w2.heap.push o).size; rw [Array.size_push]; exact Nat.le_succ _
  have hm8 : (8 * (m : Int) - 31) ≠ 0 := by omega
  obtain ⟨fr, hfr⟩ : ∃ fr, x % (8 * m - 31) = fr := ⟨_, rfl⟩
  have lfr : fr + 32 ≤ 8 * m := by have : fr < 8 * m - 31 := (by rw [← hfr]; exact Nat.mod_lt _ (by omega)); omega
  have efr : (x : Int).tmod (8 * (m : Int) - 31) = (fr : Int) := by
    rw [Int.tmod_eq_emod_of_nonneg (by omega), ← hfr, show (8 * (m : Int) - 31) = ((8 * m - 31 : Nat) : Int) by omega]; push_cast; rfl
  clear hfr
  go_wp2_with (at_builtin; refine wpList_append_own (o := ⟨some 38, _, _, _, _, _⟩) _ rfl _ _ 22 rfl w2.heap.size 5 i0 (.int .u8 0) 1 1 hu22 hi hz0 hz1 hz2 rfl (by decide) _ 0 [] rfl (World.ownsRow_made w2 #[] 0 (Nat.le_refl _) (Nat.zero_le _) rfl) b2 m c2 (ss.map nU8) rfl (by simp [hln]) (in_some_cells HA.out _) (nU8_one _) (by unfold maxLen; omega) (by omega) hsz ?_; intro v' w3 hown3 hgrow3 hnil3; obtain ⟨g, cap, rfl⟩ := own_shape hown3 (by omega); have HO3 := box hown3; have HB3 := box (((Below.refl w2.heap.size w2).alloc (Nat.le_refl _) (.cells #[] 5)).grown hgrow3 hsz (by rintro k hk; cases hk; exact Nat.le_refl _)); clear hown3 hgrow3 hnil3)
  have hO : w3.ownsRow w2.heap.size 5 1 (.slice (some ⟨g, 0, none⟩) m cap) m (ss.map nU8) := by have h := HO3.out; simpa using h
  have kb3 := HB3.out
  clear HO3 HB3
  obtain ⟨hg1, hg2, hcap⟩ := own_block hO
  have HOO := box hO
  clear hO
  go_loopw [39] (fun t39 wr => ∃ (j : Nat) (zs : List Nat), j ≤ 32 ∧ t39 = .int .i64 j ∧ zs.length = m ∧ Box (val zs = val ss ^^^ 2 ^ fr * (y % 2 ^ j)) ∧ Box (∀ v ∈ zs, v < 256) ∧ Box (wr.ownsRow w2.heap.size 5 1 (.slice (some ⟨g, 0, none⟩) m cap) m (zs.map nU8)) ∧ Below w2.heap.size w2 wr) (fun t39 _ => 32 - (intOf t39).toNat)
  case atStart => exact ⟨0, ss, by omega, rfl, hln, box (by rw [Nat.pow_zero, Nat.mod_one, Nat.mul_zero, Nat.xor_zero]), hlt, HOO, kb3⟩
  case round =>
    obtain ⟨j, zs, hj, rfl, hzl, hzv, hz256, hzo, kbr⟩ := hrel
    by_cases hlt3 : j < 32
    · obtain ⟨y1, hy1⟩ : ∃ y1, y / 2 ^ j = y1 := ⟨_, rfl⟩
      have ey : (y : Int) / 2 ^ j = (y1 : Int) := by rw [← hy1]; push_cast; rfl
      have ly1 : y1 < 2 ^ 32 := by rw [← hy1]; exact Nat.lt_of_le_of_lt (Nat.div_le_self _ _) (by omega)
      have eb := band1 ly1
      have HST := box (pat_step (val ss) y fr j)
      rw [hy1] at HST
      clear hy1
      have lb : y1 % 2 < 2 := Nat.mod_lt _ (by decide)
      generalize y1 % 2 = yb at eb HST lb
      by_cases hb : yb = 1
      · subst hb
        obtain ⟨k, hk⟩ : ∃ k, fr + j = k := ⟨_, rfl⟩
        have hkz : (fr : Int) + (j : Int) = (k : Int) := by omega
        have lk : k < 8 * m := by omega
        have HV : Box (val (flip zs k) = val ss ^^^ 2 ^ fr * (y % 2 ^ (j + 1))) := box (by
          rw [val_flip _ _ (by omega), hzv.out, ← HST.out, if_pos rfl, hk])
        have h256 := box (flip_lt hz256.out (by omega : k < 8 * zs.length))
        have hl1 : (flip zs k).length = m := by rw [flip_length, hzl]
        obtain ⟨kq, kr, yv, nv, eq1, eq2, lkq, lkr, c1, f1, hxor, hfl, hst⟩ := flip_facts hzo.out hzl hz256.out lk
        have lkqz : (kq : Int) < (m : Int) := by omega
        have lkq0 : (0 : Int) ≤ (kq : Int) := by omega
        have lkr0 : (0 : Int) ≤ (kr : Int) := by omega
        have HS := box hst
        clear hst hfl hzo hzv HST
        generalize flip zs k = zs' at HV h256 hl1 HS
        go_wp2_with fail
        go_region
        go_wp2_with fail
        go_roundw
        case rel => exact ⟨j + 1, zs', by omega, by go_num, hl1, HV, h256, HS, (kbr.setCell hg1 _).drew⟩
        case measure => simp [intOf]; omega
      · have hb0 : yb = 0 := by omega
        subst hb0
        have HV : Box (val zs = val ss ^^^ 2 ^ fr * (y % 2 ^ (j + 1))) := box (by
          rw [hzv.out, ← HST.out, if_neg (by decide), Nat.xor_zero])
        clear hzv HST
        go_wp2_with fail
        go_roundw
        case rel => exact ⟨j + 1, zs, by omega, by go_num, hzl, HV, hz256, hzo, kbr⟩
        case measure => simp [intOf]; omega
    · have hj' : j = 32 := by omega
      subst hj'
      have hv := hzv.out
      rw [Nat.mod_eq_of_lt (show y < 2 ^ 32 by omega)] at hv
      have M := bursts_math ss zs m fr y hln hzl hlt.out hz256.out hsr.out lfr (by omega) hy0 hv
      have hIz := own_in hzl hzo.out
      have hIs : In wr (some b2) ss := In.below (w := w2) (.inr ⟨b2, rfl, HA.out⟩) kbr
      have kb4 : Below w.heap.size w wr := kb.trans (kbr.mono kb.size)
      have C1 := box (check_bad (some ⟨g, 0, none⟩) m cap zs hzl hz256.out (by omega) (by omega) M.1 wr hIz (HT.out.below kb4))
      have E1 := box (errors_any (some b2) (some ⟨g, 0, none⟩) m c2 cap ss zs hln hzl hlt.out hz256.out (by omega) wr hIs hIz)
      obtain ⟨ec, ef, el, hec⟩ : ∃ ec ef el, errs (List.zipWith (· ^^^ ·) ss zs) = (ec, ef, el) := ⟨_, _, _, rfl⟩
      have M2 := M.2
      rw [hec] at E1
      unfold errs at hec
      rw [hec] at M2
      simp only at M2 E1
      obtain ⟨m1, m2, m3⟩ := M2
      have z1 : (0 : Int) < (ec : Int) := by omega
      have z2 : (0 : Int) < (el : Int) - (ef : Int) := by omega
      have z3 : (el : Int) - (ef : Int) ≤ 32 := by omega
      generalize hsp : (el : Int) - (ef : Int) = sp at E1 z2 z3
      clear hec M hv hIz hIs hzv hzo HA HOO hsp m1 m2 m3
      go_wp2_with fail
      refine C1.out.mono ?_
      rintro e w5 ⟨rfl, hw5⟩
      have hw5' := hw5.symm
      subst hw5'
      go_wp2_with fail
      refine E1.out.mono ?_
      rintro e w6 ⟨rfl, hb6⟩
      go_wp2_with fail
      go_ret
      exact ⟨rfl, kb4.trans (hb6.mono kb4.size)⟩
end Go.Proofs.YtilacnfcohlbnaaDoor
