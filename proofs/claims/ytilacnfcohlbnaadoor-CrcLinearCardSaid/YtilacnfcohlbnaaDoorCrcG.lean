/- The walk of CrcLinear. -/
import Derived.Test.YtilacnfcohlbnaaDoorCrcS
import Derived.ChangeAlike
import Derived.BigRegion
import Derived.Deep.QuietTactic
import Derived.BigQuiet
import Derived.Laws.Cover1
namespace Go.Proofs.YtilacnfcohlbnaaDoor
open Go.RowKit

theorem sum_q (a : Option Addr) (n c : Nat) (xs : List Nat) (hn : xs.length = n) (hx : ∀ x ∈ xs, x < 256) (hbig : n ≤ 1000) (w : World) (hc : In w a xs) (hT : HasTab w) (t : Nat) :
    Calls Tryd.prog 13 #[.slice a n c] (w.drewN t) fun e w' => e = .returned (nU32 (crc xs)) ∧ ∃ m, w' = w.drewN m :=
  Calls.quiet_of_same (sum_any a n c xs hn hx (by omega) _ (hc.below (below_drewN _ (Below.refl _ _))) (hT.below (below_drewN _ (Below.refl _ _))))
theorem In.take {w : World} {a : Option Addr} {xs : List Nat} (q : Nat) (h : In w a xs) : In w a (xs.take q) := by
  rcases h with rfl | ⟨ad, rfl, hat⟩
  · exact .inl (by simp)
  · refine .inr ⟨ad, rfl, fun i hi => ?_⟩
    simp at hi
    have hi2 : i < q := by omega
    rw [hat i (by omega)]
    simp [List.getD_eq_getElem?_getD, hi2]
theorem take_lt {xs : List Nat} (q : Nat) (h : ∀ x ∈ xs, x < 256) : ∀ x ∈ xs.take q, x < 256 := fun x hx => h x (List.mem_of_mem_take hx)
theorem crc_linear (xs ys zs : List Nat) (h1 : xs.length = ys.length) (h2 : ys.length = zs.length) :
    crc (List.zipWith (· ^^^ ·) (List.zipWith (· ^^^ ·) xs ys) zs) = crc xs ^^^ crc ys ^^^ crc zs := by
  have e : (4294967295 : Nat) = 4294967295 ^^^ 4294967295 ^^^ 4294967295 := by decide
  have h := reg_xor (List.zipWith (· ^^^ ·) xs ys) zs (4294967295 ^^^ 4294967295) 4294967295 (by simp; omega)
  rw [reg_xor xs ys _ _ h1, ← e] at h
  unfold crc
  rw [h]
  generalize reg 4294967295 xs = r1
  generalize reg 4294967295 ys = r2
  generalize reg 4294967295 zs = r3
  apply Nat.eq_of_testBit_eq
  intro i
  simp only [Nat.testBit_xor]
  cases r1.testBit i <;> cases r2.testBit i <;> cases r3.testBit i <;> cases (4294967295 : Nat).testBit i <;> rfl

set_option maxHeartbeats 8000000 in
theorem linear_walk (a b d : Option Addr) (n m k ca cb cd : Nat) (xs ys zs : List Nat) (hn : xs.length = n) (hm : ys.length = m) (hk : zs.length = k) (hx : ∀ x ∈ xs, x < 256) (hy : ∀ x ∈ ys, x < 256) (hz : ∀ x ∈ zs, x < 256)
    (la : n ≤ ca) (lb : m ≤ cb) (ld : k ≤ cd) (w : World) (ha : In w a xs) (hb : In w b ys) (hd : In w d zs) (hT : HasTab w) :
    Calls Tryd.prog 9 #[.slice a n ca, .slice b m cb, .slice d k cd] w fun e w' => e = .returned (.bool true) ∧ Below w.heap.size w w' := by
  have HT := box hT
  have HX := box hx
  have HY := box hy
  have HZ := box hz
  have HA := box ha
  have HB := box hb
  have HD := box hd
  clear hT hx hy hz ha hb hd
  obtain ⟨q, hq⟩ : ∃ q, min n (min m k) = q := ⟨_, rfl⟩
  have hmin : ∀ w1 : World, (Builtin.min_ #[3, 3, 3] 3 #[.int .i64 (n : Int), .int .i64 (m : Int), .int .i64 (k : Int)]).run Tryd.prog w1 = .ok (.int .i64 (q : Int)) w1 := by
    intro w1
    rw [run_min_int3]
    congr 2
    rw [← hq]
    split <;> split <;> omega
  have lqn : q ≤ n := by omega
  have lqm : q ≤ m := by omega
  have lqk : q ≤ k := by omega
  clear hq
  by_cases hl : 300 < q
  · have hd : decide ((300 : Int) < (q : Int)) = true := decide_eq_true (by omega)
    have hlz : (300 : Int) < (q : Int) := by omega
    go_enter Tryd.func9, Tryd.ntmps9
    go_wp2_with fail
    refine (awake_any _ HT.out).mono ?_
    rintro e w1 ⟨rfl, hb1⟩
    go_wp2_with fail
    go_ret
    exact ⟨rfl, hb1⟩
  have hd : decide ((300 : Int) < (q : Int)) = false := decide_eq_false (by omega)
  obtain ⟨i0, hi, hz0, hz1, hz2⟩ := info_parts Tryd.infoU8
  have hu22 := Tryd.underlying22
  obtain ⟨L, hL⟩ : ∃ L, List.zipWith (· ^^^ ·) (List.zipWith (· ^^^ ·) (xs.take q) (ys.take q)) (zs.take q) = L := ⟨_, rfl⟩
  have hLl : L.length = q := by rw [← hL]; simp; omega
  have HLL := box hL
  clear hL
  go_enter Tryd.func9, Tryd.ntmps9
  go_wp2_with fail
  refine (awake_any _ HT.out).mono ?_
  rintro e w1 ⟨rfl, hb1⟩
  go_wp2_with (refine wpList_make_full (o := ⟨some 22, _, _, _, _, _⟩) _ rfl (.tmp 21) (.tmp 21) 22 rfl w1.heap.size 5 i0 (.int .u8 0) 1 hu22 hi hz0 hz1 .i64 .i64 (q : Int) (q : Int) q rfl rfl rfl rfl (by rw [hz2]; omega) (by unfold maxLen; omega) (Nat.le_refl _) ?_; intro w2 hown2 hgrow2; have HO2 := box hown2; have hb2 := hb1.grown hgrow2 hb1.size (by intro k hk; cases hk); clear hown2 hgrow2)
  have hO : w2.ownsRow w1.heap.size 5 1 (.slice (some ⟨w1.heap.size, 0, none⟩) q q) q ((List.replicate q 0).map nU8) := by
    have h := HO2.out
    rw [Nat.mul_one, show (Value.int .u8 0).cells = #[.int .u8 0] from rfl, toList_madeCells_one] at h
    rw [List.map_replicate]
    exact h
  have HOO := box hO
  clear hO HO2
  generalize hg : w1.heap.size = g at HOO ⊢
  have hgw : w.heap.size ≤ g := by have := hb1.size; omega
  go_loopw [25] (fun t25 wr => ∃ (i : Nat) (us : List Nat), i ≤ q ∧ t25 = .int .i64 i ∧ us.length = q ∧ Box (∀ j < i, us.getD j 0 = L.getD j 0) ∧ Box (wr.ownsRow g 5 1 (.slice (some ⟨g, 0, none⟩) q q) q (us.map nU8)) ∧ Below w.heap.size w wr) (fun t25 _ => q - (intOf t25).toNat)
  case atStart => exact ⟨0, List.replicate q 0, by omega, rfl, by simp, box (fun j hj => by omega), HOO, hb2⟩
  case round =>
    obtain ⟨i, us, hiq, rfl, hul, hus, huo, kbr⟩ := hrel
    by_cases hlt : i < q
    · have some_of : ∀ {p : Option Addr} {us : List Nat}, In w p us → i < us.length → ∃ ad, p = some ad ∧ wr.cell? (ad.add i) = some (nU8 (us.getD i 0)) := by
        intro p us hp hlen
        rcases hp with rfl | ⟨ad, rfl, hat⟩
        · simp at hlen
        · exact ⟨ad, rfl, keepc kbr (hat i hlen)⟩
      obtain ⟨ad1, rfl, k1⟩ := some_of HA.out (by omega)
      obtain ⟨ad2, rfl, k2⟩ := some_of HB.out (by omega)
      obtain ⟨ad3, rfl, k3⟩ := some_of HD.out (by omega)
      have l1 : xs.getD i 0 < 256 := getD_lt HX.out (by omega)
      have l2 : ys.getD i 0 < 256 := getD_lt HY.out (by omega)
      have l3 : zs.getD i 0 < 256 := getD_lt HZ.out (by omega)
      have hLi : Box (L.getD i 0 = xs.getD i 0 ^^^ ys.getD i 0 ^^^ zs.getD i 0) := box (by
        rw [← HLL.out]
        simp [List.getD_eq_getElem?_getD, List.getElem?_zipWith, hlt, List.getElem?_eq_getElem (show i < xs.length by omega), List.getElem?_eq_getElem (show i < ys.length by omega), List.getElem?_eq_getElem (show i < zs.length by omega)])
      have x1 := u8_xor_nat _ _ l1 l2
      have l4 : xs.getD i 0 ^^^ ys.getD i 0 < 256 := Nat.xor_lt_two_pow (n := 8) l1 l2
      have x2 := u8_xor_nat _ _ l4 l3
      have hown := huo.out
      have c0 : wr.cell? ⟨g, i, none⟩ = some (.int .u8 ((us.getD i 0 : Nat) : Int)) := by
        rw [hown.cellAt i (by omega)]
        simp [List.getD_eq_getElem?_getD, List.getElem?_eq_getElem (show i < us.length by omega)]
      have f0 := hown.frozenAt i
      have HST := box (hown.stored i (nU8 (L.getD i 0))).1
      have HUS := fun v => box (show (us.set i v).length = q by simp [hul])
      have HNEW : Box (∀ j < i + 1, (us.set i (L.getD i 0)).getD j 0 = L.getD j 0) := box (by
        intro j hj
        by_cases hji : j = i
        · subst hji
          rw [List.getD_eq_getElem?_getD, List.getElem?_set_self (by omega)]; rfl
        · rw [List.getD_eq_getElem?_getD, List.getElem?_set_ne (by omega), ← List.getD_eq_getElem?_getD]
          exact hus.out j (by omega))
      rw [← List.map_set] at HST
      rw [← hLi.out] at x2
      have hkz1 : (i : Int) < (n : Int) := by omega
      have hkz2 : (i : Int) < (m : Int) := by omega
      have hkz3 : (i : Int) < (k : Int) := by omega
      have hkz4 : (i : Int) < (q : Int) := by omega
      have hkz0 : (0 : Int) ≤ (i : Int) := by omega
      clear hown some_of hLi hus huo l1 l2 l3 l4
      generalize xs.getD i 0 ^^^ ys.getD i 0 = t1 at x1 x2
      generalize L.getD i 0 = t2 at x2 HST HNEW
      generalize xs.getD i 0 = y1 at x1 k1
      generalize ys.getD i 0 = y2 at x1 k2
      generalize zs.getD i 0 = y3 at x2 k3
      generalize us.getD i 0 = y4 at c0
      go_wp2_with fail
      go_region
      go_wp2_with fail
      go_roundw
      case rel => exact ⟨i + 1, us.set i t2, by omega, by go_num, (HUS _).out, HNEW, box HST.out.drew, (kbr.setCell hgw _).drew⟩
      case measure => simp [intOf]; omega
    · have hiq' : i = q := by omega
      subst hiq'
      have hUL : us = L := by
        apply List.ext_getElem (by omega)
        intro j h1 h2
        have := hus.out j (by omega)
        simpa [List.getD_eq_getElem?_getD, List.getElem?_eq_getElem h1, List.getElem?_eq_getElem h2] using this
      subst hUL
      have IU := box (own_in hul huo.out)
      have kT := HT.out.below kbr
      have SU := fun t => box (sum_q (some ⟨g, 0, none⟩) i i us hul (by
        intro x hx
        rw [← HLL.out] at hx
        rw [List.mem_iff_getElem?] at hx
        obtain ⟨j, hj⟩ := hx
        simp only [List.getElem?_zipWith] at hj
        split at hj
        · rename_i u v hu hv
          split at hu
          · rename_i u1 u2 hu1 hu2
            cases hu
            cases hj
            exact Nat.xor_lt_two_pow (n := 8) (Nat.xor_lt_two_pow (n := 8) (take_lt i HX.out _ (List.mem_of_getElem? hu1)) (take_lt i HY.out _ (List.mem_of_getElem? hu2))) (take_lt i HZ.out _ (List.mem_of_getElem? hv))
          · cases hu
        · cases hj) (by omega) wr IU.out kT t)
      have SA := fun t => box (sum_q a i ca (xs.take i) (by simp; omega) (take_lt i HX.out) (by omega) wr ((HA.out.below kbr).take i) kT t)
      have SB := fun t => box (sum_q b i cb (ys.take i) (by simp; omega) (take_lt i HY.out) (by omega) wr ((HB.out.below kbr).take i) kT t)
      have SD := fun t => box (sum_q d i cd (zs.take i) (by simp; omega) (take_lt i HZ.out) (by omega) wr ((HD.out.below kbr).take i) kT t)
      have HS := crc_linear (xs.take i) (ys.take i) (zs.take i) (by simp; omega) (by simp; omega)
      rw [HLL.out] at HS
      have c1 : crc (xs.take i) < 2 ^ 32 := crc_lt (take_lt i HX.out)
      have c2 : crc (ys.take i) < 2 ^ 32 := crc_lt (take_lt i HY.out)
      have c3 : crc (zs.take i) < 2 ^ 32 := crc_lt (take_lt i HZ.out)
      have x1 := bx c1 c2
      have x2 := bx (xor_lt32 c1 c2) c3
      rw [← HS] at x2
      clear HS c1 c2 c3 kT HLL IU hLl
      generalize crc (xs.take i) ^^^ crc (ys.take i) = s12 at x1 x2
      generalize crc (xs.take i) = s1 at x1 SA
      generalize crc (ys.take i) = s2 at x1 SB
      generalize crc (zs.take i) = s3 at x2 SD
      generalize crc us = s4 at x2 SU
      clear hul
      have iz : (0 : Int) ≤ (i : Int) := by omega
      have iz1 : (i : Int) ≤ (ca : Int) := by omega
      have iz2 : (i : Int) ≤ (cb : Int) := by omega
      have iz3 : (i : Int) ≤ (cd : Int) := by omega
      go_wp2_with fail
      go_quiet ((go_at_call 13; first | exact (SU _).out | exact (SA _).out | exact (SB _).out | exact (SD _).out))
      go_wp2_with fail
      go_ret
      exact ⟨rfl, below_drewN _ kbr⟩
end Go.Proofs.YtilacnfcohlbnaaDoor
