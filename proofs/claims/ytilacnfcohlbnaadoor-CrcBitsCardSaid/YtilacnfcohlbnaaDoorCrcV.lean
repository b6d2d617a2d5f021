/- The walk of CrcBits. -/
import Derived.Test.YtilacnfcohlbnaaDoorCrcQ
import Derived.Test.YtilacnfcohlbnaaDoorCrcX
import Derived.ChangeAlike
import Derived.BigRegion
namespace Go.Proofs.YtilacnfcohlbnaaDoor
open Go.RowKit

theorem own_shape {w : World} {base size n : Nat} {e : TypeId} {v : Value} {xs : List Value} (h : w.ownsRow base e size v n xs) (hn : 0 < n) : ∃ g cap, v = .slice (some ⟨g, 0, none⟩) n cap := by
  rcases h.2 with ⟨_, h0⟩ | ⟨g, cap, _, hv, _⟩
  · omega
  · exact ⟨g, cap, hv⟩
theorem add_zero' (b : Nat) : (⟨b, 0, none⟩ : Addr).add 0 = ⟨b, 0, none⟩ := add_off b 0

theorem bits_math (ss zs : List Nat) (m x y z : Nat) (hm : ss.length = m) (h4 : 4 ≤ m) (h100 : m ≤ 100) (hr : reg 4294967295 ss = 3736805603)
    (hz : zs = flip (flip (flip ss (x % (8 * m))) (y % (8 * m))) (z % (8 * m))) :
    ((errs (List.zipWith (· ^^^ ·) ss zs)).1 = 1 ∨ (errs (List.zipWith (· ^^^ ·) ss zs)).1 = 3) ∧ crc zs ≠ 558161692 := by
  subst hz
  exact bits_math' ss m _ _ _ hm h100 hr (Nat.mod_lt _ (by omega)) (Nat.mod_lt _ (by omega)) (Nat.mod_lt _ (by omega))

set_option maxHeartbeats 8000000 in
theorem bits_walk (a : Option Addr) (n c : Nat) (xs : List Nat) (x y z : Nat) (hn : xs.length = n) (hx : ∀ x ∈ xs, x < 256) (lx : x < 65536) (ly : y < 65536) (lz : z < 65536) (w : World) (hc : In w a xs) (hT : HasTab w) :
    Calls Tryd.prog 7 #[.slice a n c, .int .u16 x, .int .u16 y, .int .u16 z] w fun e w' => e = .returned (.bool true) ∧ Below w.heap.size w w' := by
  have HT := box hT
  have HX := box hx
  have HC := box hc
  clear hT hx hc
  by_cases hl : 96 < n
  · have hd : decide ((96 : Int) < (n : Int)) = true := decide_eq_true (by omega)
    have hlz : (96 : Int) < (n : Int) := by omega
    go_enter Tryd.func7, Tryd.ntmps7
    go_wp2_with fail
    refine (awake_any _ HT.out).mono ?_
    rintro e w1 ⟨rfl, hb1⟩
    go_wp2_with fail
    go_ret
    exact ⟨rfl, hb1⟩
  · have hd : decide ((96 : Int) < (n : Int)) = false := decide_eq_false (by omega)
    obtain ⟨i0, hi, hz0, hz1, hz2⟩ := info_parts Tryd.infoU8
    have hu22 := Tryd.underlying22
    go_enter Tryd.func7, Tryd.ntmps7
    go_wp2_with fail
    refine (awake_any _ HT.out).mono ?_
    rintro e w1 ⟨rfl, hb1⟩
    go_wp2_with fail
    refine (append_any a n c xs hn HX.out (by omega) _ (HC.out.below hb1) (HT.out.below hb1)).mono ?_
    rintro e w2 ⟨v, rfl, hown, hb2⟩
    obtain ⟨a2, c2, rfl, hin⟩ := hown.form
    obtain ⟨b2, rfl, hat⟩ : ∃ b2, a2 = some b2 ∧ At w2 b2 (xs ++ le4 (crc xs)) := by
      rcases hin with h | h
      · have := congrArg List.length h; simp [le4_length] at this
      · exact h
    have hlt := box (sealed_lt HX.out)
    have hln : (xs ++ le4 (crc xs)).length = n + 4 := by rw [sealed_length, hn]
    have hsr := box (sealed_reg HX.out)
    rw [hln]
    generalize xs ++ le4 (crc xs) = ss at hat hlt hln hsr
    have HA := box hat
    have kb : Below w.heap.size w w2 := hb1.trans (hb2.mono hb1.size)
    clear hown hin hat
    have hd4 : decide (((n + 4 : Nat) : Int) < 4) = false := decide_eq_false (by omega)
    obtain ⟨m, hm⟩ : ∃ m, n + 4 = m := ⟨_, rfl⟩
    rw [hm] at hd4 hln ⊢
    have hsz : ∀ {o : Obj}, w2.heap.size ≤ (w2.alloc o).heap.size := by intro o; show _ ≤ (w2.heap.push o).size; rw [Array.size_push]; exact Nat.le_succ _
    go_wp2_with (at_builtin; refine wpList_append_own (o := ⟨some 30, _, _, _, _, _⟩) _ rfl _ _ 22 rfl w2.heap.size 5 i0 (.int .u8 0) 1 1 hu22 hi hz0 hz1 hz2 rfl (by decide) _ 0 [] rfl (World.ownsRow_made w2 #[] 0 (Nat.le_refl _) (Nat.zero_le _) rfl) b2 m c2 (ss.map nU8) rfl (by simp [hln]) (in_some_cells HA.out _) (nU8_one _) (by unfold maxLen; omega) (by omega) hsz ?_; intro v' w3 hown3 hgrow3 hnil3; obtain ⟨g, cap, rfl⟩ := own_shape hown3 (by omega); have HO3 := box hown3; have HB3 := box (((Below.refl w2.heap.size w2).alloc (Nat.le_refl _) (.cells #[] 5)).grown hgrow3 hsz (by rintro k hk; cases hk; exact Nat.le_refl _)); clear hown3 hgrow3 hnil3)
    have hg : w2.heap.size ≤ g ∧ g < w3.heap.size := by
      have h := HO3.out
      rcases h.2 with ⟨h0, _⟩ | ⟨g', cap', cur, hv, hg, hh, _⟩
      · cases h0
      · cases hv
        exact ⟨hg, (Array.getElem?_eq_some_iff.1 hh).1⟩
    obtain ⟨hg1, hg2⟩ := hg
    have HO : Own w2.heap.size w3 (.slice (some ⟨g, 0, none⟩) m cap) ss := by
      have h := HO3.out
      simpa [Own, hln] using h
    have HOO := box HO
    clear HO HO3
    have HK : ∀ j < 3, [x, y, z].getD j 0 < 65536 := by
      intro j hj
      rcases j with _ | _ | _ | j
      · exact lx
      · exact ly
      · exact lz
      · omega
    have HKK := box HK
    clear HK
    generalize hgen : w3.alloc (.cells #[Value.int .u16 x, Value.int .u16 y, Value.int .u16 z] 33) = wl
    have HL : ∀ j < 3, wl.cell? ⟨w3.heap.size, j, none⟩ = some (.int .u16 (([x, y, z].getD j 0 : Nat) : Int)) := by
      intro j hj
      rw [← hgen, World.cell?_alloc_mark]
      rcases j with _ | _ | _ | j
      · rfl
      · rfl
      · rfl
      · omega
    have HOl := box (HOO.out.alloc (.cells #[Value.int .u16 x, Value.int .u16 y, Value.int .u16 z] 33) : World.ownsRow _ _ _ _ _ _ _)
    have HBl := box (HB3.out.alloc (Nat.le_of_lt (Nat.lt_of_le_of_lt hg1 hg2)) (.cells #[Value.int .u16 x, Value.int .u16 y, Value.int .u16 z] 33))
    rw [hgen] at HOl HBl
    have HLL := box HL
    clear HL HOO HB3 hgen
    go_loopw [36] (fun t36 wr => ∃ (i : Nat) (zs : List Nat), i ≤ 3 ∧ t36 = .int .i64 i ∧ zs.length = m ∧ Box (zs = (([x, y, z].map (· % (8 * m))).take i).foldl flip ss) ∧ Box (∀ v ∈ zs, v < 256) ∧ Box (wr.ownsRow w2.heap.size 5 1 (.slice (some ⟨g, 0, none⟩) m cap) m (zs.map nU8)) ∧ Box (∀ j < 3, wr.cell? ⟨w3.heap.size, j, none⟩ = some (.int .u16 (([x, y, z].getD j 0 : Nat) : Int))) ∧ Below w2.heap.size w2 wr) (fun t36 _ => 3 - (intOf t36).toNat)
    case atStart => exact ⟨0, ss, by omega, rfl, hln, box rfl, hlt, box (by have h := HOl.out; rw [hln] at h; exact h), HLL, HBl.out⟩
    case round =>
      obtain ⟨i, zs, hi3, rfl, hzl, hzs, hz256, hzo, hzc, kb3⟩ := hrel
      by_cases hlt3 : i < 3
      · have lp := HKK.out i hlt3
        have cp := hzc.out i hlt3
        obtain ⟨p, hp⟩ : ∃ p, [x, y, z].getD i 0 = p := ⟨_, rfl⟩
        rw [hp] at lp cp
        have hm8 : ((8 * m : Nat) : Int) ≠ 0 := by omega
        obtain ⟨k, hk⟩ : ∃ k, p % (8 * m) = k := ⟨_, rfl⟩
        have lk : k < 8 * m := by rw [← hk]; exact Nat.mod_lt _ (by omega)
        have ek : (p : Int).tmod (8 * (m : Int)) = (k : Int) := by
          rw [Int.tmod_eq_emod_of_nonneg (by omega), ← hk]; push_cast; rfl
        obtain ⟨kq, hkq⟩ : ∃ kq, k / 8 = kq := ⟨_, rfl⟩
        obtain ⟨kr, hkr⟩ : ∃ kr, k % 8 = kr := ⟨_, rfl⟩
        have lkq : kq < m := by omega
        have lkr : kr < 8 := by omega
        have eq1 : (k : Int).tdiv 8 = (kq : Int) := by rw [Int.tdiv_eq_ediv_of_nonneg (by omega), ← hkq]; push_cast; rfl
        have eq2 : (k : Int).tmod 8 = (kr : Int) := by rw [Int.tmod_eq_emod_of_nonneg (by omega), ← hkr]; push_cast; rfl
        replace hk := box hk
        replace hkq := box hkq
        replace hkr := box hkr
        replace hp := box hp
        go_wp2_with fail
        have hown := hzo.out
        have c1 : wr.cell? ⟨g, kq, none⟩ = some (.int .u8 ((zs.getD kq 0 : Nat) : Int)) := by
          rw [hown.cellAt kq (by omega)]
          simp [List.getD_eq_getElem?_getD, List.getElem?_eq_getElem (show kq < zs.length by omega)]
        have f1 := hown.frozenAt kq
        obtain ⟨yv, hyv⟩ : ∃ yv, zs.getD kq 0 = yv := ⟨_, rfl⟩
        have lyv : yv < 256 := by rw [← hyv]; exact getD_lt hz256.out (by omega)
        rw [hyv] at c1
        have lkqz : (kq : Int) < (m : Int) := by omega
        have lkq0 : (0 : Int) ≤ (kq : Int) := by omega
        have lkr0 : (0 : Int) ≤ (kr : Int) := by omega
        have H5 := box hyv
        have H6 := box hown
        clear hyv hown
        have lpw : (2 : Nat) ^ kr < 256 := Nat.lt_of_lt_of_le (Nat.pow_lt_pow_right (by decide) lkr) (by decide)
        have hxor : bits .xor .u8 (yv : Int) (2 ^ kr % 256) = ((yv ^^^ 2 ^ kr : Nat) : Int) := by
          have h := u8_xor_nat yv (2 ^ kr) lyv lpw
          have hcast : ((2 ^ kr : Nat) : Int) = (2 : Int) ^ kr := Int.natCast_pow 2 kr
          have h2 : (2 : Int) ^ kr % 256 = ((2 ^ kr : Nat) : Int) := by
            rw [hcast]
            exact Int.emod_eq_of_lt (by rw [← hcast]; exact Int.natCast_nonneg _) (by rw [← hcast]; exact Int.ofNat_lt.2 lpw)
          rw [h2]; exact h
        obtain ⟨nv, hnv⟩ : ∃ nv, yv ^^^ 2 ^ kr = nv := ⟨_, rfl⟩
        have lnv : nv < 256 := by rw [← hnv]; exact Nat.xor_lt_two_pow (n := 8) lyv lpw
        rw [hnv] at hxor
        have HF : Box (flip zs k = zs.set kq nv) := box (by unfold flip; rw [hkq.out, hkr.out, H5.out, hnv])
        have HN : Box (zs.set kq nv = (([x, y, z].map (· % (8 * m))).take (i + 1)).foldl flip ss) := box (by
          rw [List.take_succ_eq_append_getElem (by simpa using hlt3), List.foldl_append, ← hzs.out]
          simp only [List.foldl_cons, List.foldl_nil]
          rw [← HF.out]
          congr 1
          rw [← hk.out, ← hp.out]
          rw [List.getElem_map, List.getD_eq_getElem?_getD, List.getElem?_eq_getElem (show i < [x, y, z].length from hlt3)]; rfl)
        have hst := H6.out.stored kq (nU8 nv)
        have HS1 := box hst.1
        clear hst hnv HF
        go_region
        go_wp2_with fail
        go_roundw
        case rel =>
          refine ⟨i + 1, zs.set kq nv, by omega, by go_num, by simp [hzl], HN, box ?_, box ?_, box ?_, (kb3.setCell hg1 _).drew⟩
          · intro v hv
            rcases List.mem_or_eq_of_mem_set hv with h | h
            · exact hz256.out v h
            · rw [h]; exact lnv
          · rw [List.map_set]
            exact HS1.out.drew
          · intro j hj
            show (wr.setCell _ _).cell? _ = _
            rw [World.cell?_setCell_other _ _ _ _ (by intro h; cases h; omega)]
            exact hzc.out j hj
        case measure => simp [intOf]; omega
      · have hi3' : i = 3 := by omega
        subst hi3'
        have HZ : zs = flip (flip (flip ss (x % (8 * m))) (y % (8 * m))) (z % (8 * m)) := hzs.out
        have M := bits_math ss zs m x y z hln (by omega) (by omega) hsr.out HZ
        have hIs : In wr (some b2) ss := In.below (w := w2) (.inr ⟨b2, rfl, HA.out⟩) kb3
        have hIz : In wr (some ⟨g, 0, none⟩) zs := by
          refine .inr ⟨_, rfl, fun j hj => ?_⟩
          rw [add_off, hzo.out.cellAt j (by omega)]
          simp [List.getD_eq_getElem?_getD, List.getElem?_eq_getElem hj]
        have kb4 : Below w.heap.size w wr := kb.trans (kb3.mono kb.size)
        have E1 := box (errors_any (some b2) (some ⟨g, 0, none⟩) m c2 cap ss zs hln hzl hlt.out hz256.out (by omega) wr hIs hIz)
        have C1 := fun w' h1 h2 => box (check_bad (some ⟨g, 0, none⟩) m cap zs hzl hz256.out (by omega) (by omega) M.2 w' h1 h2)
        have HIz := box hIz
        clear HZ hIs hIz hzo hzc hzs HA
        obtain ⟨ec, ef, el, hec⟩ : ∃ ec ef el, errs (List.zipWith (· ^^^ ·) ss zs) = (ec, ef, el) := ⟨_, _, _, rfl⟩
        have M1 := M.1
        rw [hec] at E1 M1
        clear hec M
        simp only at M1 E1
        go_wp2_with fail
        refine E1.out.mono ?_
        rintro e w5 ⟨rfl, hb5⟩
        have kb5 : Below w.heap.size w w5 := kb4.trans (hb5.mono kb4.size)
        rcases M1 with rfl | rfl
        · go_wp2_with fail
          refine (C1 w5 (HIz.out.below hb5) (HT.out.below kb5)).out.mono ?_
          rintro e w6 ⟨rfl, hw6⟩
          have hw6' := hw6.symm
          subst hw6'
          go_wp2_with fail
          go_ret
          exact ⟨rfl, kb5⟩
        · go_wp2_with fail
          refine (C1 w5 (HIz.out.below hb5) (HT.out.below kb5)).out.mono ?_
          rintro e w6 ⟨rfl, hw6⟩
          have hw6' := hw6.symm
          subst hw6'
          go_wp2_with fail
          go_ret
          exact ⟨rfl, kb5⟩
end Go.Proofs.YtilacnfcohlbnaaDoor
