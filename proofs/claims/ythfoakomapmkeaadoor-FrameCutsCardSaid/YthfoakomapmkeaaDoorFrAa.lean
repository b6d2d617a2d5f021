/- FrameCuts: its walk. -/
import Derived.Test.YthfoakomapmkeaaDoorFrY
import Derived.Test.YthfoakomapmkeaaDoorFrZ
import Derived.Test.YthfoakomapmkeaaDoorFrI
namespace Go.Proofs.YthfoakomapmkeaaDoor
open Go.RowKit

set_option maxRecDepth 100000 in
set_option maxHeartbeats 8000000 in
theorem cuts_walk (kd : Nat) (c n v : Int) (a : Option Addr) (l cap : Nat) (pay : List Nat) (hl : pay.length = l) (hk : kd < 256) (hp : ∀ x ∈ pay, x < 256) (hnil : a = none → cap = 0) (cut : Nat) (hcut : cut < 256) (a2 : Option Addr) (l2 cap2 : Nat) (more : List Nat) (hl2 : more.length = l2) (hp2 : ∀ x ∈ more, x < 256) (hnil2 : a2 = none → cap2 = 0) (w : World) (hin : In w a pay) (hin2 : In w a2 more) (hT : Crc.HasTab w) (hT2 : HasTab w) :
    Calls Tryd.prog 11 #[pkV kd c n v a l cap, nU8 cut, .slice a2 l2 cap2] w fun e w' => e = .returned (.bool true) ∧ Below w.heap.size w w' := by
  have HP := box hp
  have HI := box hin
  have HNIL := box hnil
  have HT := box hT
  have HT2 := box hT2
  have HP2 := box hp2
  have HI2 := box hin2
  have HNIL2 := box hnil2
  clear hp hin hnil hT hT2 hp2 hin2 hnil2
  go_enter Tryd.func11, Tryd.ntmps11
  go_wp2_with fail
  have P := box (pk5_new w kd c n v a l cap w.heap.size rfl)
  have k : Below w.heap.size w (w.alloc (.cells (pkC kd c n v a l cap) 24)) := (Below.refl _ _).alloc (Nat.le_refl _) _
  generalize w.alloc (.cells (pkC kd c n v a l cap) 24) = w0 at P k ⊢
  refine (awake_any _ (HT.out.below k) (HT2.out.below k)).mono ?_
  rintro e w1 ⟨rfl, hb⟩
  replace k := k.trans (hb.mono k.size)
  replace P := box (P.out.keep hb)
  clear hb
  obtain ⟨r, hr⟩ : ∃ r, okP kd c n v l = r := ⟨_, rfl⟩
  cases r
  · obtain ⟨Pq0, Pq1, Pq2, Pq3, Pq4, Pz⟩ := P.out
    go_wp2_with fail
    clear Pq0 Pq1 Pq2 Pq3 Pq4 Pz
    refine (fencode_bad kd c n v a l cap hr _).mono ?_
    rintro e w2 ⟨rfl, hb⟩
    replace k := k.trans (hb.mono k.size)
    replace P := box (P.out.keep hb)
    clear hb
    obtain ⟨Pq0, Pq1, Pq2, Pq3, Pq4, Pz⟩ := P.out
    go_wp2_with fail
    clear Pq0 Pq1 Pq2 Pq3 Pq4 Pz
    go_ret
    exact ⟨rfl, k⟩
  · obtain ⟨_, c0, c1, n0, n1, v0, v1, l1⟩ := of_decide_eq_true hr
    obtain ⟨C, rfl⟩ := Int.eq_ofNat_of_zero_le c0
    obtain ⟨N, rfl⟩ := Int.eq_ofNat_of_zero_le n0
    obtain ⟨V, rfl⟩ := Int.eq_ofNat_of_zero_le v0
    have hC : C < 4 := by omega
    have HBL := box (bytesP_lt (n := N) (v := V) (pay := pay) hk (show C < 256 by omega) HP.out (by omega))
    have hbl : (bytesP kd C N V pay).length = 17 + l := by rw [bytesP_length, hl]
    have hN : N < 1099511627776 := by omega
    have hV : V < 1099511627776 := by omega
    clear c0 c1 n0 n1 v0 v1
    obtain ⟨Pq0, Pq1, Pq2, Pq3, Pq4, Pz⟩ := P.out
    go_wp2_with fail
    clear Pq0 Pq1 Pq2 Pq3 Pq4 Pz
    refine (fencode_pk kd C N V a l cap pay hl hk hr HP.out HNIL.out _ (HI.out.below k) (HT.out.below k)).mono ?_
    rintro e w2 ⟨u, rfl, ho, hb⟩
    replace k := k.trans (hb.mono k.size)
    replace P := box (P.out.keep hb)
    clear hb
    obtain ⟨g, uc, rfl, HU, huc, _⟩ := own_row ho (by omega)
    clear ho
    by_cases hbig : 40 < l2
    · have d1 : decide ((40 : Int) < (l2 : Int)) = true := decide_eq_true (by omega)
      obtain ⟨Pq0, Pq1, Pq2, Pq3, Pq4, Pz⟩ := P.out
      go_wp2_with fail
      clear Pq0 Pq1 Pq2 Pq3 Pq4 Pz
      go_ret
      exact ⟨rfl, k⟩
    have d1 : decide ((40 : Int) < (l2 : Int)) = false := decide_eq_false (by omega)
    obtain ⟨j, hj⟩ : ∃ j, cut % (17 + l) = j := ⟨_, rfl⟩
    have hj2 : j < 17 + l := by rw [← hj]; exact Nat.mod_lt _ (by omega)
    have ej : Int.tmod (cut : Int) (17 + (l : Int)) = (j : Int) := by rw [← hj]; push_cast; rfl
    have ej2 : (cut : Int) % (17 + (l : Int)) = (j : Int) := by rw [← hj]; push_cast; rfl
    have ne0 : ¬ ((17 : Int) + (l : Int) = 0) := by omega
    have ju : (j : Int) ≤ (uc : Int) := by omega
    have hd := dec_part kd C N V pay hN hV j (by omega)
    clear hj
    obtain ⟨Pq0, Pq1, Pq2, Pq3, Pq4, Pz⟩ := P.out
    go_wp2_with fail
    clear Pq0 Pq1 Pq2 Pq3 Pq4 Pz
    obtain ⟨r, hr2⟩ : ∃ r, (if j < 17 then 4 else 3) = r := ⟨_, rfl⟩
    rw [hr2] at hd
    have hr0 : r ≠ 0 := by rw [← hr2]; split <;> omega
    refine (fdec_err (some ⟨g, 0, none⟩) j uc ((bytesP kd C N V pay).take j) (by simp; omega) (fun x h => HBL.out x (List.mem_of_mem_take h)) (by omega) (by omega) r hd hr0 _ (in_take HU.out.inn j) (HT.out.below k)).mono ?_
    rintro e w3 ⟨rfl, hb⟩
    replace k := k.trans (hb.mono k.size)
    replace P := box (P.out.keep hb)
    replace HU := box (HU.out.below hb)
    clear hb
    have HR2 := box hr2
    clear hr2 hd
    have hw : ∃ q : Nat, q = r := ⟨r, rfl⟩
    by_cases h17 : j < 17
    · have d2 : decide ((j : Int) < 17) = true := decide_eq_true (by omega)
      obtain rfl : r = 4 := by rw [← HR2.out]; simp [h17]
      go_wp2_with fail
      have kA := (Below.refl w3.heap.size w3).alloc (Nat.le_refl _) (.cells (pkC 0 0 0 0 none 0 0) 24)
      have ksA : (w3.alloc (.cells (pkC 0 0 0 0 none 0 0) 24)).heap.size = w3.heap.size + 1 := by show (w3.heap.push _).size = _; rw [Array.size_push]
      change Calls _ _ _ ((w3.alloc (.cells (pkC 0 0 0 0 none 0 0) 24)).alloc (.cells #[.slice (some ⟨g, 0, none⟩) (17 + l) uc, .slice a2 l2 cap2] 22)) _
      generalize w3.alloc (.cells (pkC 0 0 0 0 none 0 0) 24) = wA at kA ksA ⊢
      have c0 := World.cell?_alloc_mark wA #[.slice (some ⟨g, 0, none⟩) (17 + l) uc, .slice a2 l2 cap2] 22 (0, 0) 0
      have c1 := World.cell?_alloc_mark wA #[.slice (some ⟨g, 0, none⟩) (17 + l) uc, .slice a2 l2 cap2] 22 (0, 0) 1
      have kB := (Below.refl wA.heap.size wA).alloc (Nat.le_refl _) (.cells #[.slice (some ⟨g, 0, none⟩) (17 + l) uc, .slice a2 l2 cap2] 22)
      rw [ksA] at c0 c1
      generalize wA.alloc (.cells #[.slice (some ⟨g, 0, none⟩) (17 + l) uc, .slice a2 l2 cap2] 22) = wB at c0 c1 kB ⊢
      have hb := kA.trans (kB.mono kA.size)
      replace k := k.trans (hb.mono k.size)
      replace P := box (P.out.keep hb)
      replace HU := box (HU.out.below hb)
      clear hb
      clear kA kB ksA
      refine (concat_two (w3.heap.size + 1) (some ⟨g, 0, none⟩) a2 (17 + l) l2 uc cap2 (bytesP kd C N V pay) more hbl hl2 (by omega) (by omega) (fun h => by cases h) HNIL2.out wB c0 c1 HU.out.inn (HI2.out.below k)).mono ?_
      rintro e w4 ⟨u, rfl, ho, hb⟩
      replace k := k.trans (hb.mono k.size)
      replace P := box (P.out.keep hb)
      replace HU := box (HU.out.below hb)
      clear hb
      obtain ⟨xa, xc, rfl, HX, _, hxc⟩ := own_any ho
      clear ho c0 c1
      have HL := box (show ∀ x ∈ bytesP kd C N V pay ++ more, x < 256 from fun x h => (List.mem_append.1 h).elim (HBL.out x) (HP2.out x))
      have hll : (bytesP kd C N V pay ++ more).length = 17 + l + l2 := by rw [List.length_append, hbl, hl2]
      have e3 : (17 : Int) + (l : Int) + (l2 : Int) = ((17 + l + l2 : Nat) : Int) := by push_cast; rfl
      by_cases h0 : l2 = 0
      · subst h0
        obtain rfl : more = [] := List.length_eq_zero_iff.1 hl2
        have HX' : Box (In _ xa (bytesP kd C N V pay)) := box (by have h := HX.out; rwa [List.append_nil] at h)
        clear HX
        go_wp2_with fail
        refine (fdec_enc kd C N V pay xa l (17 + l + 0) xc hl (by omega) hr hk HP.out (by omega) _ HX'.out (HT.out.below k)).mono ?_
        rintro e w5 ⟨a9, c9, rfl, _, _, _, _, hb⟩
        replace k := k.trans (hb.mono k.size)
        replace P := box (P.out.keep hb)
        replace HU := box (HU.out.below hb)
        clear hb
        go_wp2_with fail
        go_ret
        exact ⟨by simp, k.alloc k.size _⟩
      · have hne : more ≠ [] := fun h => h0 (by rw [← hl2, h]; rfl)
        have hd := dec_more kd C N V pay more hN hV hne
        have d5 : ((l2 : Int) == 0) = false := by simp; omega
        have l2p : ¬ ((l2 : Int) = 0) := by omega
        go_wp2_with fail
        refine (fdec_err xa (17 + l + l2) xc _ hll HL.out (by omega) hxc 3 hd (by omega) _ HX.out (HT.out.below k)).mono ?_
        rintro e w5 ⟨rfl, hb⟩
        replace k := k.trans (hb.mono k.size)
        replace P := box (P.out.keep hb)
        replace HU := box (HU.out.below hb)
        replace HX := box (HX.out.below hb)
        clear hb
        go_wp2_with fail
        go_ret
        exact ⟨by simp, k.alloc k.size _⟩
    · have d2 : decide ((j : Int) < 17) = false := decide_eq_false (by omega)
      obtain rfl : r = 3 := by rw [← HR2.out]; simp [h17]
      go_wp2_with fail
      have kA := (Below.refl w3.heap.size w3).alloc (Nat.le_refl _) (.cells (pkC 0 0 0 0 none 0 0) 24)
      have ksA : (w3.alloc (.cells (pkC 0 0 0 0 none 0 0) 24)).heap.size = w3.heap.size + 1 := by show (w3.heap.push _).size = _; rw [Array.size_push]
      change Calls _ _ _ ((w3.alloc (.cells (pkC 0 0 0 0 none 0 0) 24)).alloc (.cells #[.slice (some ⟨g, 0, none⟩) (17 + l) uc, .slice a2 l2 cap2] 22)) _
      generalize w3.alloc (.cells (pkC 0 0 0 0 none 0 0) 24) = wA at kA ksA ⊢
      have c0 := World.cell?_alloc_mark wA #[.slice (some ⟨g, 0, none⟩) (17 + l) uc, .slice a2 l2 cap2] 22 (0, 0) 0
      have c1 := World.cell?_alloc_mark wA #[.slice (some ⟨g, 0, none⟩) (17 + l) uc, .slice a2 l2 cap2] 22 (0, 0) 1
      have kB := (Below.refl wA.heap.size wA).alloc (Nat.le_refl _) (.cells #[.slice (some ⟨g, 0, none⟩) (17 + l) uc, .slice a2 l2 cap2] 22)
      rw [ksA] at c0 c1
      generalize wA.alloc (.cells #[.slice (some ⟨g, 0, none⟩) (17 + l) uc, .slice a2 l2 cap2] 22) = wB at c0 c1 kB ⊢
      have hb := kA.trans (kB.mono kA.size)
      replace k := k.trans (hb.mono k.size)
      replace P := box (P.out.keep hb)
      replace HU := box (HU.out.below hb)
      clear hb
      clear kA kB ksA
      refine (concat_two (w3.heap.size + 1) (some ⟨g, 0, none⟩) a2 (17 + l) l2 uc cap2 (bytesP kd C N V pay) more hbl hl2 (by omega) (by omega) (fun h => by cases h) HNIL2.out wB c0 c1 HU.out.inn (HI2.out.below k)).mono ?_
      rintro e w4 ⟨u, rfl, ho, hb⟩
      replace k := k.trans (hb.mono k.size)
      replace P := box (P.out.keep hb)
      replace HU := box (HU.out.below hb)
      clear hb
      obtain ⟨xa, xc, rfl, HX, _, hxc⟩ := own_any ho
      clear ho c0 c1
      have HL := box (show ∀ x ∈ bytesP kd C N V pay ++ more, x < 256 from fun x h => (List.mem_append.1 h).elim (HBL.out x) (HP2.out x))
      have hll : (bytesP kd C N V pay ++ more).length = 17 + l + l2 := by rw [List.length_append, hbl, hl2]
      have e3 : (17 : Int) + (l : Int) + (l2 : Int) = ((17 + l + l2 : Nat) : Int) := by push_cast; rfl
      by_cases h0 : l2 = 0
      · subst h0
        obtain rfl : more = [] := List.length_eq_zero_iff.1 hl2
        have HX' : Box (In _ xa (bytesP kd C N V pay)) := box (by have h := HX.out; rwa [List.append_nil] at h)
        clear HX
        go_wp2_with fail
        refine (fdec_enc kd C N V pay xa l (17 + l + 0) xc hl (by omega) hr hk HP.out (by omega) _ HX'.out (HT.out.below k)).mono ?_
        rintro e w5 ⟨a9, c9, rfl, _, _, _, _, hb⟩
        replace k := k.trans (hb.mono k.size)
        replace P := box (P.out.keep hb)
        replace HU := box (HU.out.below hb)
        clear hb
        go_wp2_with fail
        go_ret
        exact ⟨by simp, k.alloc k.size _⟩
      · have hne : more ≠ [] := fun h => h0 (by rw [← hl2, h]; rfl)
        have hd := dec_more kd C N V pay more hN hV hne
        have d5 : ((l2 : Int) == 0) = false := by simp; omega
        have l2p : ¬ ((l2 : Int) = 0) := by omega
        go_wp2_with fail
        refine (fdec_err xa (17 + l + l2) xc _ hll HL.out (by omega) hxc 3 hd (by omega) _ HX.out (HT.out.below k)).mono ?_
        rintro e w5 ⟨rfl, hb⟩
        replace k := k.trans (hb.mono k.size)
        replace P := box (P.out.keep hb)
        replace HU := box (HU.out.below hb)
        replace HX := box (HX.out.below hb)
        clear hb
        go_wp2_with fail
        go_ret
        exact ⟨by simp, k.alloc k.size _⟩
end Go.Proofs.YthfoakomapmkeaaDoor
