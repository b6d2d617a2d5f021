/- FrameDamage: its walk. -/
import Derived.Test.YthfoakomapmkeaaDoorFrY
import Derived.Test.YthfoakomapmkeaaDoorFrZ
import Derived.Test.YthfoakomapmkeaaDoorFrO
import Derived.Test.YthfoakomapmkeaaDoorCrcE
namespace Go.Proofs.YthfoakomapmkeaaDoor
open Go.RowKit

/-- Some bytes, to which the first i of others were combined from a place on. -/
def dmgTo (xs ds : List Nat) (p : Nat) : Nat → List Nat
  | 0 => xs
  | i + 1 => (dmgTo xs ds p i).set (p + i) ((dmgTo xs ds p i).getD (p + i) 0 ^^^ ds.getD i 0)
theorem dmgTo_length (xs ds : List Nat) (p : Nat) : ∀ i, (dmgTo xs ds p i).length = xs.length
  | 0 => rfl
  | i + 1 => by rw [dmgTo, List.length_set, dmgTo_length xs ds p i]
theorem dmgTo_lt {xs ds : List Nat} {p : Nat} (hx : ∀ x ∈ xs, x < 256) (hd : ∀ x ∈ ds, x < 256) : ∀ i ≤ ds.length, ∀ x ∈ dmgTo xs ds p i, x < 256
  | 0, _ => hx
  | i + 1, hi => by
    have ih := dmgTo_lt (p := p) hx hd i (by omega)
    intro x hm
    rw [dmgTo] at hm
    by_cases h : p + i < (dmgTo xs ds p i).length
    · rcases List.mem_or_eq_of_mem_set hm with h' | h'
      · exact ih x h'
      · rw [h']
        exact Nat.xor_lt_two_pow (n := 8) (getD_lt ih h) (getD_lt hd (by omega))
    · rw [List.set_eq_of_length_le (by omega)] at hm
      exact ih x hm

set_option maxRecDepth 100000 in
set_option maxHeartbeats 8000000 in
theorem damage_walk (kd : Nat) (c n v : Int) (a : Option Addr) (l cap : Nat) (pay : List Nat) (hl : pay.length = l) (hk : kd < 256) (hp : ∀ x ∈ pay, x < 256) (hnil : a = none → cap = 0) (a2 : Option Addr) (l2 cap2 : Nat) (ds : List Nat) (hl2 : ds.length = l2) (hp2 : ∀ x ∈ ds, x < 256) (pos : Nat) (hpos : pos < 256) (w : World) (hin : In w a pay) (hin2 : In w a2 ds) (hT : Crc.HasTab w) (hT2 : HasTab w) :
    Calls Tryd.prog 10 #[pkV kd c n v a l cap, .slice a2 l2 cap2, nU8 pos] w fun e w' => e = .returned (.bool true) ∧ Below w.heap.size w w' := by
  have HP := box hp
  have HI := box hin
  have HNIL := box hnil
  have HT := box hT
  have HT2 := box hT2
  have HP2 := box hp2
  have HI2 := box hin2
  clear hp hin hnil hT hT2 hp2 hin2
  go_enter Tryd.func10, Tryd.ntmps10
  go_wp2_with fail
  have P := box (pk5_new w kd c n v a l cap w.heap.size rfl)
  have k : Below w.heap.size w (w.alloc (.cells (pkC kd c n v a l cap) 24)) := (Below.refl _ _).alloc (Nat.le_refl _) _
  generalize w.alloc (.cells (pkC kd c n v a l cap) 24) = w0 at P k ⊢
  refine (awake_any _ (HT.out.below k) (HT2.out.below k)).mono ?_
  rintro e w1 ⟨rfl, hb⟩
  replace k := k.trans (hb.mono k.size)
  replace P := box (P.out.keep hb)
  clear hb
  obtain ⟨r, hr⟩ : ∃ r, okP kd c n v l = r := ⟨_, rfl⟩
  cases r
  · obtain ⟨Pq0, Pq1, Pq2, Pq3, Pq4, Pz⟩ := P.out
    go_wp2_with fail
    clear Pq0 Pq1 Pq2 Pq3 Pq4 Pz
    refine (fencode_bad kd c n v a l cap hr _).mono ?_
    rintro e w2 ⟨rfl, hb⟩
    replace k := k.trans (hb.mono k.size)
    replace P := box (P.out.keep hb)
    clear hb
    obtain ⟨Pq0, Pq1, Pq2, Pq3, Pq4, Pz⟩ := P.out
    go_wp2_with fail
    clear Pq0 Pq1 Pq2 Pq3 Pq4 Pz
    go_ret
    exact ⟨rfl, k⟩
  · obtain ⟨_, c0, c1, n0, n1, v0, v1, l1⟩ := of_decide_eq_true hr
    obtain ⟨C, rfl⟩ := Int.eq_ofNat_of_zero_le c0
    obtain ⟨N, rfl⟩ := Int.eq_ofNat_of_zero_le n0
    obtain ⟨V, rfl⟩ := Int.eq_ofNat_of_zero_le v0
    have hC : C < 4 := by omega
    have HBL := box (bytesP_lt (n := N) (v := V) (pay := pay) hk (show C < 256 by omega) HP.out (by omega))
    have hbl : (bytesP kd C N V pay).length = 17 + l := by rw [bytesP_length, hl]
    have HSE := box (show Crc.crc (bytesP kd C N V pay) = 558161692 from Crc.sealed_crc (bodyP_lt hk (by omega) HP.out (by omega)))
    clear c0 c1 n0 n1 v0 v1
    obtain ⟨Pq0, Pq1, Pq2, Pq3, Pq4, Pz⟩ := P.out
    go_wp2_with fail
    clear Pq0 Pq1 Pq2 Pq3 Pq4 Pz
    refine (fencode_pk kd C N V a l cap pay hl hk hr HP.out HNIL.out _ (HI.out.below k) (HT.out.below k)).mono ?_
    rintro e w2 ⟨u, rfl, ho, hb⟩
    replace k := k.trans (hb.mono k.size)
    replace P := box (P.out.keep hb)
    clear hb
    obtain ⟨g, uc, rfl, HU, huc, hgw⟩ := own_row ho (by omega)
    clear ho
    clear hgw
    generalize bytesP kd C N V pay = bs at HBL hbl HSE HU
    by_cases hbig : 100 < l2
    · have d1 : decide ((100 : Int) < (l2 : Int)) = true := decide_eq_true (by omega)
      go_wp2_with fail
      go_ret
      exact ⟨rfl, k⟩
    have d1 : decide ((100 : Int) < (l2 : Int)) = false := decide_eq_false (by omega)
    go_wp2_with fail
    have LT := HU.out.lt
    have LW := k.size
    refine (clone_any (some ⟨g, 0, none⟩) (17 + l) uc bs hbl (by omega) (fun h => by cases h) _ HU.out.inn).mono ?_
    rintro e w3 ⟨u, rfl, ho, hb⟩
    replace k := k.trans (hb.mono k.size)
    replace P := box (P.out.keep hb)
    replace HU := box (HU.out.below hb)
    clear hb
    obtain ⟨g2, uc2, rfl, HC, huc2, hg2⟩ := own_row ho (by omega)
    have LT2 := HU.out.lt
    clear ho
    have hgg : g ≠ g2 := by omega
    have lw2 : w.heap.size ≤ g2 := by omega
    go_wp2_with fail
    go_loopw [35] (fun t35 wr => ∃ i : Nat, i ≤ l2 ∧ t35 = .int .i64 i ∧ Box (RowIs wr g2 (dmgTo bs ds pos i)) ∧ Box (Apart g2 g2 w3 wr)) (fun t35 _ => l2 - (intOf t35).toNat)
    case atStart => exact ⟨0, by omega, rfl, box HC.out, box (Apart.refl _ _ _)⟩
    case round =>
      obtain ⟨i, hi, rfl, hrow, hap⟩ := hrel
      have kr := hap.out.below k k.size lw2 lw2
      by_cases hlt : i < l2
      · have hz : (i : Int) < (l2 : Int) := by omega
        have HL := box (dmgTo_length bs ds pos i)
        have lt256 := dmgTo_lt (p := pos) HBL.out HP2.out i (by omega)
        obtain ⟨b2, rfl, cx⟩ := in_some (HI2.out.below kr) (show i < ds.length by omega)
        have lx := getD_lt HP2.out (show i < ds.length by omega)
        have HS := box (show dmgTo bs ds pos (i + 1) = (dmgTo bs ds pos i).set (pos + i) ((dmgTo bs ds pos i).getD (pos + i) 0 ^^^ ds.getD i 0) from rfl)
        generalize ds.getD i 0 = x at cx lx HS
        by_cases hin : pos + i < 17 + l
        · have d2 : decide ((pos : Int) + (i : Int) < 17 + (l : Int)) = true := decide_eq_true (by omega)
          have et : ((pos : Int) + (i : Int)).toNat = pos + i := by omega
          have c1 := hrow.out.cell (pos + i) (by rw [HL.out]; omega)
          have f1 := hrow.out.free (pos + i)
          have ly := getD_lt lt256 (show pos + i < (dmgTo bs ds pos i).length by rw [HL.out]; omega)
          have hset := fun y => box (hrow.out.set (pos + i) y (by rw [HL.out]; omega))
          have hz2 : (pos : Int) + (i : Int) < 17 + (l : Int) := by omega
          clear lt256
          generalize (dmgTo bs ds pos i).getD (pos + i) 0 = y at c1 HS ly
          have ex := u8_xor_nat y x ly lx
          generalize y ^^^ x = z at ex HS
          go_wp2_with fail
          go_roundw
          case rel => exact ⟨i + 1, by omega, by go_num, box (by rw [HS.out]; exact (hset z).out), box (hap.out.setCell _ _)⟩
          case measure => simp [intOf]; omega
        · have d2 : decide ((pos : Int) + (i : Int) < 17 + (l : Int)) = false := decide_eq_false (by omega)
          clear lt256
          go_wp2_with fail
          go_roundw
          case rel => exact ⟨i + 1, by omega, by go_num, box (by rw [HS.out, List.set_eq_of_length_le (by rw [HL.out]; omega)]; exact hrow.out), hap⟩
          case measure => simp [intOf]; omega
      · obtain rfl : i = l2 := by omega
        have HL := box (dmgTo_length bs ds pos i)
        have HLT := box (dmgTo_lt (p := pos) HBL.out HP2.out i (by omega))
        have HUr := box (show RowIs wr g bs from by
          obtain ⟨cur, hc, hv⟩ := HU.out
          exact ⟨cur, (hap.out.block g (Array.getElem?_eq_some_iff.1 hc).1 hgg hgg).trans hc, hv⟩)
        have HDM := box (fun h1 h2 => Crc.damage_math (ss := bs) (zs := dmgTo bs ds pos i) HBL.out HLT.out HL.out (by omega) (by omega) HSE.out h1 h2)
        have hcl : (dmgTo bs ds pos i).length = 17 + l := by rw [HL.out, hbl]
        have EE := Crc.errors_any (some ⟨g, 0, none⟩) (some ⟨g2, 0, none⟩) (17 + l) uc uc2 bs (dmgTo bs ds pos i) hbl hcl HBL.out HLT.out (by omega) wr HUr.out.inn hrow.out.inn
        generalize dmgTo bs ds pos i = zs at hrow HLT HDM hcl EE
        generalize Crc.errs (List.zipWith (· ^^^ ·) bs zs) = es at EE HDM
        obtain ⟨e1, e2, e3⟩ := es
        have EEB := box EE
        clear EE HL
        go_wp2_with fail
        refine EEB.out.mono ?_
        rintro e wz ⟨rfl, hb⟩
        have kz := kr.trans (hb.mono kr.size)
        have hrz := box (hrow.out.below hb)
        clear hb EEB
        by_cases h1 : e1 < 1
        · have d3 : decide ((e1 : Int) < 1) = true := decide_eq_true (by omega)
          go_wp2_with fail
          go_ret
          exact ⟨by simp, kz⟩
        have d3 : decide ((e1 : Int) < 1) = false := decide_eq_false (by omega)
        have DEC : (e1 ≤ 3 ∨ e3 ≤ e2 + 32) → Calls Tryd.prog 22 #[.slice (some ⟨g2, 0, none⟩) (17 + l) uc2] wz fun e w' => ∃ r : Nat, (r = 9 ∨ r = 3) ∧ e = .returned (.tuple #[pk0, .int .i64 (r : Nat)]) ∧ Below wz.heap.size wz w' := fun h2 => by
          have hd := dec_damaged HLT.out (by omega) (HDM.out (by show 1 ≤ e1; omega) h2)
          refine (fdec_err (some ⟨g2, 0, none⟩) (17 + l) uc2 zs hcl HLT.out (by omega) huc2 (decE zs) rfl (by omega) wz hrz.out.inn (HT.out.below kz)).mono ?_
          rintro e w' ⟨h, hb⟩
          exact ⟨decE zs, hd, h, hb⟩
        have DE := box DEC
        clear DEC
        by_cases h3 : 3 < e1
        · have d4 : decide ((3 : Int) < (e1 : Int)) = true := decide_eq_true (by omega)
          by_cases h4 : 32 < (e3 : Int) - (e2 : Int)
          · have d5 : decide ((32 : Int) < (e3 : Int) - (e2 : Int)) = true := decide_eq_true h4
            go_wp2_with fail
            go_ret
            exact ⟨by simp, kz⟩
          have d5 : decide ((32 : Int) < (e3 : Int) - (e2 : Int)) = false := decide_eq_false h4
          have D := DE.out (.inr (by omega))
          clear DE
          go_wp2_with fail
          refine D.mono ?_
          rintro e wy ⟨r, hr9, rfl, hb⟩
          have ky := kz.trans (hb.mono kz.size)
          rcases hr9 with rfl | rfl <;>
          · go_wp2_with fail
            go_ret
            exact ⟨by simp, ky.alloc ky.size _⟩
        · have d4 : decide ((3 : Int) < (e1 : Int)) = false := decide_eq_false (by omega)
          have D := DE.out (.inl (by omega))
          clear DE
          go_wp2_with fail
          refine D.mono ?_
          rintro e wy ⟨r, hr9, rfl, hb⟩
          have ky := kz.trans (hb.mono kz.size)
          rcases hr9 with rfl | rfl <;>
          · go_wp2_with fail
            go_ret
            exact ⟨by simp, ky.alloc ky.size _⟩
end Go.Proofs.YthfoakomapmkeaaDoor
