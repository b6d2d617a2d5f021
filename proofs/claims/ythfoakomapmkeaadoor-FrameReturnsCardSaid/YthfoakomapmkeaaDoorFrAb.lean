/- FrameReturns: its walk. -/
import Derived.Test.YthfoakomapmkeaaDoorFrY
import Derived.Test.YthfoakomapmkeaaDoorFrZ
namespace Go.Proofs.YthfoakomapmkeaaDoor
open Go.RowKit

/-- The bytes, each one more, up to the i-th. -/
def incTo (xs : List Nat) (i : Nat) : List Nat := (xs.take i).map (fun x => (x + 1) % 256) ++ xs.drop i
theorem incTo_length (xs : List Nat) (i : Nat) : (incTo xs i).length = xs.length := by simp [incTo]; omega
theorem incTo_at (xs : List Nat) (i : Nat) (hi : i < xs.length) : (incTo xs i).getD i 0 = xs.getD i 0 := by
  unfold incTo
  rw [List.getD_eq_getElem?_getD, List.getElem?_append_right (by simp; omega), List.getElem?_drop]
  simp only [List.length_map, List.length_take]
  rw [show i + (i - min i xs.length) = i by omega, List.getD_eq_getElem?_getD]
theorem incTo_set (xs : List Nat) (i : Nat) (hi : i < xs.length) : (incTo xs i).set i ((xs.getD i 0 + 1) % 256) = incTo xs (i + 1) := by
  unfold incTo
  have h1 : xs.drop i = xs.getD i 0 :: xs.drop (i + 1) := drop_getD hi
  have h2 : xs.take (i + 1) = xs.take i ++ [xs.getD i 0] := by
    rw [List.take_add_one, List.getElem?_eq_getElem hi, List.getD_eq_getElem?_getD, List.getElem?_eq_getElem hi]; rfl
  have h3 : ((xs.take i).map (fun x => (x + 1) % 256)).length = i := by simp; omega
  rw [h2, h1, List.set_append_right _ _ (by omega), h3, Nat.sub_self]
  simp

set_option maxRecDepth 100000 in
set_option maxHeartbeats 8000000 in
theorem returns_walk (kd : Nat) (c n v : Int) (a : Option Addr) (l cap : Nat) (pay : List Nat) (hl : pay.length = l) (hk : kd < 256) (hp : ∀ x ∈ pay, x < 256) (hnil : a = none → cap = 0) (a2 : Option Addr) (l2 cap2 : Nat) (bs : List Nat) (hl2 : bs.length = l2) (hp2 : ∀ x ∈ bs, x < 256) (hcap2 : l2 ≤ cap2) (w : World) (hin : In w a pay) (hin2 : In w a2 bs) (hT : Crc.HasTab w) (hT2 : HasTab w) :
    Calls Tryd.prog 5 #[pkV kd c n v a l cap, .slice a2 l2 cap2] w fun e w' => e = .returned (.bool true) ∧ Below w.heap.size w w' := by
  have HP := box hp
  have HI := box hin
  have HNIL := box hnil
  have HT := box hT
  have HT2 := box hT2
  have HP2 := box hp2
  have HI2 := box hin2
  clear hp hin hnil hT hT2 hp2 hin2
  go_enter Tryd.func5, Tryd.ntmps5
  go_wp2_with fail
  have P := box (pk5_new w kd c n v a l cap w.heap.size rfl)
  have k : Below w.heap.size w (w.alloc (.cells (pkC kd c n v a l cap) 24)) := (Below.refl _ _).alloc (Nat.le_refl _) _
  generalize w.alloc (.cells (pkC kd c n v a l cap) 24) = w0 at P k ⊢
  refine (awake_any _ (HT.out.below k) (HT2.out.below k)).mono ?_
  rintro e w1 ⟨rfl, hb⟩
  replace k := k.trans (hb.mono k.size)
  replace P := box (P.out.keep hb)
  clear hb
  by_cases hb1 : 300 < l
  · have d1 : decide ((300 : Int) < (l : Int)) = true := decide_eq_true (by omega)
    obtain ⟨Pq0, Pq1, Pq2, Pq3, Pq4, Pz⟩ := P.out
    go_wp2_with fail
    clear Pq0 Pq1 Pq2 Pq3 Pq4 Pz
    go_ret
    exact ⟨rfl, k⟩
  have d1 : decide ((300 : Int) < (l : Int)) = false := decide_eq_false (by omega)
  by_cases hb2 : 300 < l2
  · have d2 : decide ((300 : Int) < (l2 : Int)) = true := decide_eq_true (by omega)
    obtain ⟨Pq0, Pq1, Pq2, Pq3, Pq4, Pz⟩ := P.out
    go_wp2_with fail
    clear Pq0 Pq1 Pq2 Pq3 Pq4 Pz
    go_ret
    exact ⟨rfl, k⟩
  have d2 : decide ((300 : Int) < (l2 : Int)) = false := decide_eq_false (by omega)
  obtain ⟨Pq0, Pq1, Pq2, Pq3, Pq4, Pz⟩ := P.out
  go_wp2_with fail
  clear Pq0 Pq1 Pq2 Pq3 Pq4 Pz
  by_cases hd : decE bs = 0
  · obtain ⟨hok, h17, hbs⟩ := bytes_dec HP2.out hd
    have HBS := box hbs
    clear hbs
    refine (fdec_ok a2 l2 cap2 bs hl2 HP2.out (by omega) hcap2 hd _ (HI2.out.below k) (HT.out.below k)).mono ?_
    rintro e w2 ⟨a5, c5, rfl, H5, hn5, hc5, _, hb⟩
    replace k := k.trans (hb.mono k.size)
    replace P := box (P.out.keep hb)
    clear hb
    have hlp : ((bs.drop 13).take (l2 - 17)).length = l2 - 17 := by simp; omega
    have HPP := box (show ∀ x ∈ (bs.drop 13).take (l2 - 17), x < 256 from fun x h => HP2.out x (List.mem_of_mem_drop (List.mem_of_mem_take h)))
    have hk0 := getD_lt HP2.out (show 0 < bs.length by omega)
    rw [hl2] at hok HBS
    generalize bs.getD 0 0 = x0 at hok HBS hk0 ⊢
    generalize bs.getD 1 0 = x1 at hok HBS ⊢
    generalize numAt bs 2 = x2 at hok HBS ⊢
    generalize numAt bs 7 = x3 at hok HBS ⊢
    generalize (bs.drop 13).take (l2 - 17) = py at H5 HBS hlp HPP
    obtain ⟨m, hm⟩ : ∃ m, l2 = 17 + m := ⟨l2 - 17, by omega⟩
    subst hm
    rw [Nat.add_sub_cancel_left] at hok hlp hc5
    rw [Nat.add_sub_cancel_left]
    have HBL5 := box (show ∀ x ∈ bytesP x0 x1 x2 x3 py, x < 256 by rw [← HBS.out]; exact HP2.out)
    have hbl5 : (bytesP x0 x1 x2 x3 py).length = 17 + m := by rw [bytesP_length, hlp]
    clear hd
    go_wp2_with fail
    have Q := box (pk5_new w2 x0 (x1 : Nat) (x2 : Nat) (x3 : Nat) a5 m c5 w2.heap.size rfl)
    have kA := (Below.refl w2.heap.size w2).alloc (Nat.le_refl _) (.cells (pkC x0 (x1 : Nat) (x2 : Nat) (x3 : Nat) a5 m c5) 24)
    change Calls _ _ _ (w2.alloc (.cells (pkC x0 (x1 : Nat) (x2 : Nat) (x3 : Nat) a5 m c5) 24)) _
    generalize w2.alloc (.cells (pkC x0 (x1 : Nat) (x2 : Nat) (x3 : Nat) a5 m c5) 24) = wA at Q kA ⊢
    have hb := kA
    replace k := k.trans (hb.mono k.size)
    replace P := box (P.out.keep hb)
    replace H5 := box (H5.out.below hb)
    clear hb
    clear kA
    refine (fencode_pk x0 x1 x2 x3 a5 m c5 py hlp hk0 hok HPP.out hn5 _ H5.out (HT.out.below k)).mono ?_
    rintro e w3 ⟨u, rfl, ho, hb⟩
    replace k := k.trans (hb.mono k.size)
    replace P := box (P.out.keep hb)
    replace H5 := box (H5.out.below hb)
    replace Q := box (Q.out.keep hb)
    clear hb
    obtain ⟨ua, uc, rfl, HV, _, _⟩ := own_any ho
    clear ho
    obtain ⟨Qq0, Qq1, Qq2, Qq3, Qq4, Qz⟩ := Q.out
    go_wp2_with fail
    clear Qq0 Qq1 Qq2 Qq3 Qq4 Qz
    refine (equal_bel ua a2 (17 + m) (17 + m) uc cap2 (bytesP x0 x1 x2 x3 py) bs hbl5 hl2 HBL5.out HP2.out (by omega) (by omega) _ HV.out (HI2.out.below k) true (decide_eq_true HBS.out.symm)).mono ?_
    rintro e w4 ⟨rfl, hb⟩
    replace k := k.trans (hb.mono k.size)
    replace P := box (P.out.keep hb)
    replace H5 := box (H5.out.below hb)
    replace Q := box (Q.out.keep hb)
    replace HV := box (HV.out.below hb)
    clear hb
    obtain ⟨Qq0, Qq1, Qq2, Qq3, Qq4, Qz⟩ := Q.out
    go_wp2_with fail
    clear Qq0 Qq1 Qq2 Qq3 Qq4 Qz
    refine (fvalid_any x0 x1 x2 x3 a5 m c5 true hok _).mono ?_
    rintro e w5 ⟨rfl, hb⟩
    replace k := k.trans (hb.mono k.size)
    replace P := box (P.out.keep hb)
    replace H5 := box (H5.out.below hb)
    replace Q := box (Q.out.keep hb)
    replace HV := box (HV.out.below hb)
    clear hb
    obtain ⟨Pq0, Pq1, Pq2, Pq3, Pq4, Pz⟩ := P.out
    go_wp2_with fail
    clear Pq0 Pq1 Pq2 Pq3 Pq4 Pz
    have PB := P
    obtain ⟨r, hr⟩ : ∃ r, okP kd c n v l = r := ⟨_, rfl⟩
    cases r
    · refine (fencode_bad kd c n v a l cap hr _).mono ?_
      rintro e w6 ⟨rfl, hb⟩
      replace k := k.trans (hb.mono k.size)
      replace P := box (P.out.keep hb)
      replace H5 := box (H5.out.below hb)
      replace Q := box (Q.out.keep hb)
      replace HV := box (HV.out.below hb)
      clear hb
      obtain ⟨Pq0, Pq1, Pq2, Pq3, Pq4, Pz⟩ := P.out
      go_wp2_with fail
      clear Pq0 Pq1 Pq2 Pq3 Pq4 Pz
      refine (fvalid_any kd c n v a l cap false hr _).mono ?_
      rintro e w7 ⟨rfl, hb⟩
      replace k := k.trans (hb.mono k.size)
      replace P := box (P.out.keep hb)
      replace H5 := box (H5.out.below hb)
      replace Q := box (Q.out.keep hb)
      replace HV := box (HV.out.below hb)
      clear hb
      obtain ⟨Pq0, Pq1, Pq2, Pq3, Pq4, Pz⟩ := P.out
      go_wp2_with fail
      clear Pq0 Pq1 Pq2 Pq3 Pq4 Pz
      go_ret
      exact ⟨by simp, k⟩
    · obtain ⟨_, c0, c1, n0, n1, v0, v1, l1⟩ := of_decide_eq_true hr
      obtain ⟨C, rfl⟩ := Int.eq_ofNat_of_zero_le c0
      obtain ⟨N, rfl⟩ := Int.eq_ofNat_of_zero_le n0
      obtain ⟨V, rfl⟩ := Int.eq_ofNat_of_zero_le v0
      have hC : C < 4 := by omega
      have HBL := box (bytesP_lt (n := N) (v := V) (pay := pay) hk (show C < 256 by omega) HP.out (by omega))
      have hbl : (bytesP kd C N V pay).length = 17 + l := by rw [bytesP_length, hl]
      clear c0 c1 n0 n1 v0 v1
      refine (fencode_pk kd C N V a l cap pay hl hk hr HP.out HNIL.out _ (HI.out.below k) (HT.out.below k)).mono ?_
      rintro e w6 ⟨u, rfl, ho, hb⟩
      replace k := k.trans (hb.mono k.size)
      replace P := box (P.out.keep hb)
      replace H5 := box (H5.out.below hb)
      replace Q := box (Q.out.keep hb)
      replace HV := box (HV.out.below hb)
      clear hb
      obtain ⟨g, uc, rfl, HU, huc, hgw⟩ := own_row ho (by omega)
      clear ho
      have LG := box (Nat.lt_of_lt_of_le (show w.heap.size < _ from World.block_lt_of_cell? _ ⟨w.heap.size, 0, none⟩ PB.out.q0) hgw)
      clear PB hgw
      obtain ⟨Pq0, Pq1, Pq2, Pq3, Pq4, Pz⟩ := P.out
      go_wp2_with fail
      clear Pq0 Pq1 Pq2 Pq3 Pq4 Pz
      have LT := HU.out.lt
      refine (fdec_enc kd C N V pay (some ⟨g, 0, none⟩) l (17 + l) uc hl rfl hr hk HP.out huc _ HU.out.inn (HT.out.below k)).mono ?_
      rintro e w7 ⟨a9, c9, rfl, H9, hn9, hc9, HF9, hb⟩
      replace k := k.trans (hb.mono k.size)
      replace P := box (P.out.keep hb)
      replace H5 := box (H5.out.below hb)
      replace Q := box (Q.out.keep hb)
      replace HV := box (HV.out.below hb)
      replace HU := box (HU.out.below hb)
      clear hb
      have HG9 := box (fun b hb => Nat.lt_of_lt_of_le LT (HF9.out b hb))
      clear HF9 LT
      have X := box (pk5_new w7 kd (C : Nat) (N : Nat) (V : Nat) a9 l c9 w7.heap.size rfl)
      have kA := (Below.refl w7.heap.size w7).alloc (Nat.le_refl _) (.cells (pkC kd (C : Nat) (N : Nat) (V : Nat) a9 l c9) 24)
      obtain ⟨Pq0, Pq1, Pq2, Pq3, Pq4, Pz⟩ := P.out.keep kA
      have XB := box (show g < w7.heap.size from HU.out.lt)
      have e1 : ((kd : Int) != (kd : Int)) = false := by simp
      have e2 : ((C : Int) != (C : Int)) = false := by simp
      have e3 : ((N : Int) != (N : Int)) = false := by simp
      have e4 : ((V : Int) != (V : Int)) = false := by simp
      go_wp2_with fail
      clear Pq0 Pq1 Pq2 Pq3 Pq4 Pz e1 e2 e3 e4
      change Calls _ _ _ (w7.alloc (.cells (pkC kd (C : Nat) (N : Nat) (V : Nat) a9 l c9) 24)) _
      generalize w7.alloc (.cells (pkC kd (C : Nat) (N : Nat) (V : Nat) a9 l c9) 24) = wA at X kA ⊢
      have hb := kA
      replace k := k.trans (hb.mono k.size)
      replace P := box (P.out.keep hb)
      replace H5 := box (H5.out.below hb)
      replace Q := box (Q.out.keep hb)
      replace HV := box (HV.out.below hb)
      replace HU := box (HU.out.below hb)
      replace H9 := box (H9.out.below hb)
      clear hb
      clear kA
      refine (equal_bel a9 a l l c9 cap pay pay hl hl HP.out HP.out (by omega) (by omega) _ H9.out (HI.out.below k) true (decide_eq_true rfl)).mono ?_
      rintro e w8 ⟨rfl, hb⟩
      replace k := k.trans (hb.mono k.size)
      replace P := box (P.out.keep hb)
      replace H5 := box (H5.out.below hb)
      replace Q := box (Q.out.keep hb)
      replace HV := box (HV.out.below hb)
      replace HU := box (HU.out.below hb)
      replace H9 := box (H9.out.below hb)
      replace X := box (X.out.keep hb)
      clear hb
      go_wp2_with fail
      have hbig : (bytesP kd C N V pay).length ≤ 400 := by omega
      go_loopw [105] (fun t105 wr => ∃ i : Nat, i ≤ 17 + l ∧ t105 = .int .i64 i ∧ Box (RowIs wr g (incTo (bytesP kd C N V pay) i)) ∧ Box (Apart g g w8 wr)) (fun t105 _ => 17 + l - (intOf t105).toNat)
      case atStart => exact ⟨0, by omega, rfl, box (by simpa [incTo] using HU.out), box (Apart.refl _ _ _)⟩
      case round =>
        obtain ⟨i, hi, rfl, hrow, hap⟩ := hrel
        by_cases hlt : i < 17 + l
        · have HL := box (incTo_length (bytesP kd C N V pay) i)
          have c1 := hrow.out.cell i (by rw [HL.out]; omega)
          rw [incTo_at _ _ (by omega)] at c1
          have HS := box (incTo_set (bytesP kd C N V pay) i (by omega))
          have f1 := hrow.out.free i
          have lx := getD_lt HBL.out (show i < (bytesP kd C N V pay).length by omega)
          have hset := fun y => box (hrow.out.set i y (by rw [HL.out]; omega))
          have hz : (i : Int) < 17 + (l : Int) := by omega
          generalize (bytesP kd C N V pay).getD i 0 = y at c1 HS lx
          have ey : ((y : Int) + 1) % 256 = (((y + 1) % 256 : Nat) : Int) := by omega
          generalize (y + 1) % 256 = z at ey HS
          go_wp2_with fail
          go_roundw
          case rel => exact ⟨i + 1, by omega, by go_num, box (by rw [← HS.out]; exact (hset z).out), box (hap.out.setCell i _)⟩
          case measure => simp [intOf]; omega
        · have kr := hap.out.below k k.size (Nat.le_of_lt LG.out) (Nat.le_of_lt LG.out)
          have HPr := P.out.apart hap.out (Nat.ne_of_lt LG.out) (Nat.ne_of_lt LG.out)
          have HXr := X.out.apart hap.out (Nat.ne_of_gt XB.out) (Nat.ne_of_gt XB.out)
          have H9r := box (hap.out.inn H9.out (fun b hb => ⟨Nat.ne_of_gt (HG9.out b hb), Nat.ne_of_gt (HG9.out b hb)⟩))
          obtain ⟨Pq0, Pq1, Pq2, Pq3, Pq4, Pz⟩ := HPr
          obtain ⟨Xq0, Xq1, Xq2, Xq3, Xq4, Xz⟩ := HXr
          have hz : ¬ ((i : Int) < 17 + (l : Int)) := by omega
          obtain rfl : i = 17 + l := by omega
          go_wp2_with fail
          refine (equal_bel a9 a l l c9 cap pay pay hl hl HP.out HP.out (by omega) (by omega) _ H9r.out (HI.out.below kr) true (decide_eq_true rfl)).mono ?_
          rintro e wz ⟨rfl, hb⟩
          go_wp2_with fail
          go_ret
          exact ⟨by simp, kr.trans (hb.mono kr.size)⟩
  · obtain ⟨r5, hr5⟩ : ∃ r, decE bs = r := ⟨_, rfl⟩
    have hr0 : r5 ≠ 0 := by rw [← hr5]; exact hd
    refine (fdec_err a2 l2 cap2 bs hl2 HP2.out (by omega) hcap2 r5 hr5 hr0 _ (HI2.out.below k) (HT.out.below k)).mono ?_
    rintro e w2 ⟨rfl, hb⟩
    replace k := k.trans (hb.mono k.size)
    replace P := box (P.out.keep hb)
    clear hb
    have d3 : ((r5 : Int) == 0) = false := by simp; omega
    clear hd
    have kA := (Below.refl w2.heap.size w2).alloc (Nat.le_refl _) (.cells #[.int .u8 0, .int .i64 0, .int .i64 0, .int .i64 0, .slice none 0 0] 24)
    obtain ⟨Pq0, Pq1, Pq2, Pq3, Pq4, Pz⟩ := P.out.keep kA
    go_wp2_with fail
    clear Pq0 Pq1 Pq2 Pq3 Pq4 Pz
    change Calls _ _ _ (w2.alloc (.cells #[.int .u8 0, .int .i64 0, .int .i64 0, .int .i64 0, .slice none 0 0] 24)) _
    generalize w2.alloc (.cells #[.int .u8 0, .int .i64 0, .int .i64 0, .int .i64 0, .slice none 0 0] 24) = wA at kA ⊢
    have hb := kA
    replace k := k.trans (hb.mono k.size)
    replace P := box (P.out.keep hb)
    clear hb
    clear kA
    have PB := P
    obtain ⟨r, hr⟩ : ∃ r, okP kd c n v l = r := ⟨_, rfl⟩
    cases r
    · refine (fencode_bad kd c n v a l cap hr _).mono ?_
      rintro e w3 ⟨rfl, hb⟩
      replace k := k.trans (hb.mono k.size)
      replace P := box (P.out.keep hb)
      clear hb
      obtain ⟨Pq0, Pq1, Pq2, Pq3, Pq4, Pz⟩ := P.out
      go_wp2_with fail
      clear Pq0 Pq1 Pq2 Pq3 Pq4 Pz
      refine (fvalid_any kd c n v a l cap false hr _).mono ?_
      rintro e w4 ⟨rfl, hb⟩
      replace k := k.trans (hb.mono k.size)
      replace P := box (P.out.keep hb)
      clear hb
      obtain ⟨Pq0, Pq1, Pq2, Pq3, Pq4, Pz⟩ := P.out
      go_wp2_with fail
      clear Pq0 Pq1 Pq2 Pq3 Pq4 Pz
      go_ret
      exact ⟨by simp, k⟩
    · obtain ⟨_, c0, c1, n0, n1, v0, v1, l1⟩ := of_decide_eq_true hr
      obtain ⟨C, rfl⟩ := Int.eq_ofNat_of_zero_le c0
      obtain ⟨N, rfl⟩ := Int.eq_ofNat_of_zero_le n0
      obtain ⟨V, rfl⟩ := Int.eq_ofNat_of_zero_le v0
      have hC : C < 4 := by omega
      have HBL := box (bytesP_lt (n := N) (v := V) (pay := pay) hk (show C < 256 by omega) HP.out (by omega))
      have hbl : (bytesP kd C N V pay).length = 17 + l := by rw [bytesP_length, hl]
      clear c0 c1 n0 n1 v0 v1
      refine (fencode_pk kd C N V a l cap pay hl hk hr HP.out HNIL.out _ (HI.out.below k) (HT.out.below k)).mono ?_
      rintro e w3 ⟨u, rfl, ho, hb⟩
      replace k := k.trans (hb.mono k.size)
      replace P := box (P.out.keep hb)
      clear hb
      obtain ⟨g, uc, rfl, HU, huc, hgw⟩ := own_row ho (by omega)
      clear ho
      have LG := box (Nat.lt_of_lt_of_le (show w.heap.size < _ from World.block_lt_of_cell? _ ⟨w.heap.size, 0, none⟩ PB.out.q0) hgw)
      clear PB hgw
      obtain ⟨Pq0, Pq1, Pq2, Pq3, Pq4, Pz⟩ := P.out
      go_wp2_with fail
      clear Pq0 Pq1 Pq2 Pq3 Pq4 Pz
      have LT := HU.out.lt
      refine (fdec_enc kd C N V pay (some ⟨g, 0, none⟩) l (17 + l) uc hl rfl hr hk HP.out huc _ HU.out.inn (HT.out.below k)).mono ?_
      rintro e w4 ⟨a9, c9, rfl, H9, hn9, hc9, HF9, hb⟩
      replace k := k.trans (hb.mono k.size)
      replace P := box (P.out.keep hb)
      replace HU := box (HU.out.below hb)
      clear hb
      have HG9 := box (fun b hb => Nat.lt_of_lt_of_le LT (HF9.out b hb))
      clear HF9 LT
      have X := box (pk5_new w4 kd (C : Nat) (N : Nat) (V : Nat) a9 l c9 w4.heap.size rfl)
      have kA := (Below.refl w4.heap.size w4).alloc (Nat.le_refl _) (.cells (pkC kd (C : Nat) (N : Nat) (V : Nat) a9 l c9) 24)
      obtain ⟨Pq0, Pq1, Pq2, Pq3, Pq4, Pz⟩ := P.out.keep kA
      have XB := box (show g < w4.heap.size from HU.out.lt)
      have e1 : ((kd : Int) != (kd : Int)) = false := by simp
      have e2 : ((C : Int) != (C : Int)) = false := by simp
      have e3 : ((N : Int) != (N : Int)) = false := by simp
      have e4 : ((V : Int) != (V : Int)) = false := by simp
      go_wp2_with fail
      clear Pq0 Pq1 Pq2 Pq3 Pq4 Pz e1 e2 e3 e4
      change Calls _ _ _ (w4.alloc (.cells (pkC kd (C : Nat) (N : Nat) (V : Nat) a9 l c9) 24)) _
      generalize w4.alloc (.cells (pkC kd (C : Nat) (N : Nat) (V : Nat) a9 l c9) 24) = wA at X kA ⊢
      have hb := kA
      replace k := k.trans (hb.mono k.size)
      replace P := box (P.out.keep hb)
      replace HU := box (HU.out.below hb)
      replace H9 := box (H9.out.below hb)
      clear hb
      clear kA
      refine (equal_bel a9 a l l c9 cap pay pay hl hl HP.out HP.out (by omega) (by omega) _ H9.out (HI.out.below k) true (decide_eq_true rfl)).mono ?_
      rintro e w5 ⟨rfl, hb⟩
      replace k := k.trans (hb.mono k.size)
      replace P := box (P.out.keep hb)
      replace HU := box (HU.out.below hb)
      replace H9 := box (H9.out.below hb)
      replace X := box (X.out.keep hb)
      clear hb
      go_wp2_with fail
      have hbig : (bytesP kd C N V pay).length ≤ 400 := by omega
      go_loopw [105] (fun t105 wr => ∃ i : Nat, i ≤ 17 + l ∧ t105 = .int .i64 i ∧ Box (RowIs wr g (incTo (bytesP kd C N V pay) i)) ∧ Box (Apart g g w5 wr)) (fun t105 _ => 17 + l - (intOf t105).toNat)
      case atStart => exact ⟨0, by omega, rfl, box (by simpa [incTo] using HU.out), box (Apart.refl _ _ _)⟩
      case round =>
        obtain ⟨i, hi, rfl, hrow, hap⟩ := hrel
        by_cases hlt : i < 17 + l
        · have HL := box (incTo_length (bytesP kd C N V pay) i)
          have c1 := hrow.out.cell i (by rw [HL.out]; omega)
          rw [incTo_at _ _ (by omega)] at c1
          have HS := box (incTo_set (bytesP kd C N V pay) i (by omega))
          have f1 := hrow.out.free i
          have lx := getD_lt HBL.out (show i < (bytesP kd C N V pay).length by omega)
          have hset := fun y => box (hrow.out.set i y (by rw [HL.out]; omega))
          have hz : (i : Int) < 17 + (l : Int) := by omega
          generalize (bytesP kd C N V pay).getD i 0 = y at c1 HS lx
          have ey : ((y : Int) + 1) % 256 = (((y + 1) % 256 : Nat) : Int) := by omega
          generalize (y + 1) % 256 = z at ey HS
          go_wp2_with fail
          go_roundw
          case rel => exact ⟨i + 1, by omega, by go_num, box (by rw [← HS.out]; exact (hset z).out), box (hap.out.setCell i _)⟩
          case measure => simp [intOf]; omega
        · have kr := hap.out.below k k.size (Nat.le_of_lt LG.out) (Nat.le_of_lt LG.out)
          have HPr := P.out.apart hap.out (Nat.ne_of_lt LG.out) (Nat.ne_of_lt LG.out)
          have HXr := X.out.apart hap.out (Nat.ne_of_gt XB.out) (Nat.ne_of_gt XB.out)
          have H9r := box (hap.out.inn H9.out (fun b hb => ⟨Nat.ne_of_gt (HG9.out b hb), Nat.ne_of_gt (HG9.out b hb)⟩))
          obtain ⟨Pq0, Pq1, Pq2, Pq3, Pq4, Pz⟩ := HPr
          obtain ⟨Xq0, Xq1, Xq2, Xq3, Xq4, Xz⟩ := HXr
          have hz : ¬ ((i : Int) < 17 + (l : Int)) := by omega
          obtain rfl : i = 17 + l := by omega
          go_wp2_with fail
          refine (equal_bel a9 a l l c9 cap pay pay hl hl HP.out HP.out (by omega) (by omega) _ H9r.out (HI.out.below kr) true (decide_eq_true rfl)).mono ?_
          rintro e wz ⟨rfl, hb⟩
          go_wp2_with fail
          go_ret
          exact ⟨by simp, kr.trans (hb.mono kr.size)⟩
end Go.Proofs.YthfoakomapmkeaaDoor
