/- RationalOf: Of returns the number in lowest terms, or the error. -/
import Derived.Test.YtokcgfpnokeanaaRatY
namespace Go.Proofs.Ytokcgfpnokeanaa
open Go.RowKit Go.Shelf

def OfTo (n d r1 r2 r3 : Int) : Prop := ∀ w : World, Calls Try.prog 14 #[.int .i64 n, .int .i64 d] w fun e w' => e = .returned (.tuple #[.agg #[.int .i64 r1, .int .i64 r2], .int .i64 r3]) ∧ Below w.heap.size w w'
def ROfTo (n d r1 r2 r3 : Int) : Prop := ∀ w : World, Calls Try.prog 16 #[.int .i64 n, .int .i64 d] w fun e w' => e = .returned (.tuple #[.agg #[.int .i64 r1, .int .i64 r2], .int .i64 r3]) ∧ Below w.heap.size w w'

/-- What may come of the law's second part. -/
def OfWays (n d m : Int) : Prop :=
  (d = 0 ∧ OfTo n d 0 0 2) ∨ ((d == 0) = false ∧ OfTo n d 0 0 10 ∧ smallB [n, d] = false) ∨
  ((d == 0) = false ∧ ∃ a b : Int, OfTo n d a b 0 ∧ ValidTo a b true ∧ 1 ≤ b ∧
    ((smallB [n, d] = false ∧ ROfSome m d) ∨ (smallB [n, d] = true ∧ (m != n) = true ∧ ROfSome m d) ∨ (smallB [n, d] = true ∧ (m != n) = false ∧ ROfTo m d a b 0)))

set_option maxRecDepth 100000 in
set_option maxHeartbeats 2000000 in
theorem of_law (n d n2 d2 m : Int) (hm : n.tmod 536870912 = m) (hr : (n2 != -9223372036854775808) = false ∨ ((n2 != -9223372036854775808) = true ∧ (d2 != -9223372036854775808) = false) ∨ ((n2 != -9223372036854775808) = true ∧ (d2 != -9223372036854775808) = true))
    (a1 : I64 n2) (a2 : I64 d2) (hall : OfWays n d m) (w : World) :
    Calls Try.prog 3 #[.int .i64 n, .int .i64 d, .agg #[.int .i64 n2, .int .i64 d2]] w fun e w' => e = .returned (.bool true) ∧ Below w.heap.size w w' := by
  have hka := @World.cell?_alloc_some
  have HR := Lib.hid hr
  have HALL := Lib.hid hall
  have HM := Lib.hid hm
  obtain ⟨v, hv⟩ : ∃ v, validB n2 d2 = v := ⟨_, rfl⟩
  have V1 := validTo a1 a2 hv
  have V2 : ∀ w : World, Calls Try.prog 12 #[.agg #[.int .i64 n2, .int .i64 d2]] w fun e w' => e = .returned (.bool v) ∧ Below w.heap.size w w' := fun w => by
    have := rvalid_any n2 d2 a1.1 a1.2 a2.1 a2.2 w
    rwa [hv] at this
  have HV2 := Lib.hid V2
  clear hr hall V2 hv hm
  go_enter Try.func3, Try.ntmps3
  go_wp2_with fail
  refine (awake_any _).mono ?_
  rintro e w1 ⟨rfl, hb1⟩
  have k0 : w1.cell? ⟨w.heap.size, 0, none⟩ = some (.int .i64 n2) := keepc hb1 (by simp [go_sem])
  have k1 : w1.cell? ⟨w.heap.size, 1, none⟩ = some (.int .i64 d2) := keepc hb1 (by simp [go_sem])
  have kb : Below w.heap.size w w1 := ((Below.refl w.heap.size w).alloc (by (try simp) <;> omega) _).trans (hb1.mono (by (try simp) <;> omega))
  clear hb1
  go_upto_region 3 with fail
  go_cut [28] (fun t28 wx => t28 = .bool false ∧ Below w.heap.size w wx)
  case first =>
    rcases HR.out with z | ⟨z, z'⟩ | ⟨z, z'⟩
    · go_quiet (fail)
      go_wp2_with fail
      go_meet
      exact ⟨rfl, below_drewN _ kb⟩
    · go_quiet (fail)
      go_wp2_with fail
      go_meet
      exact ⟨rfl, below_drewN _ kb⟩
    · have f0 : w.heap.size < w1.heap.size := block_lt k0
      have hds : ∀ x : World, x.drew.heap.size = x.heap.size := fun _ => rfl
      go_region_held3 (fun w' => w'.cell? ⟨w.heap.size, 0, none⟩ = some (.int .i64 n2) ∧ w'.cell? ⟨w.heap.size, 1, none⟩ = some (.int .i64 d2)) (first | go_keep)
        (first | (go_at_call 11; refine (V1 _).mono ?_; rintro e w2 ⟨rfl, hb2⟩; obtain ⟨hc2, hf2⟩ := bcell hb2; have y2 : w1.heap.size ≤ w2.heap.size := hb2.size; have f2 : w.heap.size < w2.heap.size := (by omega)) | (go_at_call 13; refine (plain_any _ _ _).mono ?_; rintro e w3 ⟨rfl, hb3⟩; obtain ⟨hc3, hf3⟩ := bcell hb3; have y3 : w2.heap.size ≤ w3.heap.size := hb3.size; have f3 : w.heap.size < w3.heap.size := (by omega)) | (go_at_call 12; refine (HV2.out _).mono ?_; rintro e w4 ⟨rfl, hb4⟩; obtain ⟨hc4, hf4⟩ := bcell hb4))
      all_goals
        go_wp2_with fail
        go_meet
        replace hb2 := hb2.mono (B' := w.heap.size) (Nat.le_trans (show w.heap.size ≤ w1.heap.size by omega) (Nat.le_refl _))
        replace hb3 := hb3.mono (B' := w.heap.size) (by omega)
        replace hb4 := hb4.mono (B' := w.heap.size) (by omega)
        exact ⟨rfl, by repeat (first | exact Below.refl _ _ | assumption | (refine Below.alloc ?_ (by (try simp) <;> omega) _) | (refine Below.setCell ?_ (by (try simp) <;> omega) _) | (refine Below.drew ?_) | (refine below_drewN _ ?_) | (refine Below.trans ?_ hb4) | (refine Below.trans ?_ hb3) | (refine Below.trans ?_ hb2))⟩
  case rest =>
    obtain ⟨rfl, kc⟩ := hcut
    clear HR V1 HV2 k0 k1 kb
    have kb := kc
    clear kc
    have hm := HM.out
    rcases HALL.out with ⟨rfl, hO⟩ | ⟨hd, hO, hS⟩ | ⟨hd, a, b, hO, hV, hb, ⟨hS, hT⟩ | ⟨hS, hn, hT⟩ | ⟨hS, hn, hT⟩⟩
    · clear HALL
      go_wp2_with fail
      refine (hO _).mono ?_
      rintro e w11 ⟨rfl, hb11⟩
      replace kb : Below w.heap.size w w11 := kb.trans (hb11.mono (Nat.le_trans kb.size (by simp)))
      clear hb11
      go_wp2_with fail
      go_ret
      exact ⟨rfl, (kb.alloc (Nat.le_trans kb.size (by simp)) _)⟩
    · clear HALL
      go_wp2_with fail
      refine (hO _).mono ?_
      rintro e w11 ⟨rfl, hb11⟩
      replace kb : Below w.heap.size w w11 := kb.trans (hb11.mono (Nat.le_trans kb.size (by simp)))
      clear hb11
      go_wp2_with fail
      refine (small_two n d _ _ _ (by simp [go_sem]) (by simp [go_sem]) hS).mono ?_
      rintro e w12 ⟨rfl, hb12⟩
      have k0 : w12.cell? ⟨w11.heap.size, 0, none⟩ = some (.int .i64 0) := keepc hb12 (by simp [go_sem])
      have k1 : w12.cell? ⟨w11.heap.size, 1, none⟩ = some (.int .i64 0) := keepc hb12 (by simp [go_sem])
      have k2 : w12.cell? ⟨w11.heap.size + 1, 0, none⟩ = some (.int .i64 n) := keepc hb12 (by simp [go_sem])
      have k3 : w12.cell? ⟨w11.heap.size + 1, 1, none⟩ = some (.int .i64 d) := keepc hb12 (by simp [go_sem])
      replace kb : Below w.heap.size w w12 := ((kb.alloc (Nat.le_trans kb.size (by simp)) _).alloc (Nat.le_trans kb.size (by simp)) _).trans (hb12.mono (Nat.le_trans kb.size (by (try simp) <;> omega)))
      clear hb12
      go_wp2_with fail
      go_ret
      exact ⟨rfl, kb⟩
    · clear HALL
      go_wp2_with fail
      refine (hO _).mono ?_
      rintro e w11 ⟨rfl, hb11⟩
      replace kb : Below w.heap.size w w11 := kb.trans (hb11.mono (Nat.le_trans kb.size (by simp)))
      clear hb11
      go_wp2_with fail
      refine (hV _).mono ?_
      rintro e w12 ⟨rfl, hb12⟩
      have k0 : w12.cell? ⟨w11.heap.size, 0, none⟩ = some (.int .i64 a) := keepc hb12 (by simp [go_sem])
      have k1 : w12.cell? ⟨w11.heap.size, 1, none⟩ = some (.int .i64 b) := keepc hb12 (by simp [go_sem])
      replace kb : Below w.heap.size w w12 := (kb.alloc (Nat.le_trans kb.size (by simp)) _).trans (hb12.mono (Nat.le_trans kb.size (by simp)))
      clear hb12
      go_wp2_with fail
      refine (hT _).mono ?_
      rintro e w13 ⟨a', b', c', rfl, hb13⟩
      replace k0 := keepc hb13 k0
      replace k1 := keepc hb13 k1
      replace kb : Below w.heap.size w w13 := kb.trans (hb13.mono (Nat.le_trans kb.size (by simp)))
      clear hb13
      go_wp2_with fail
      refine (small_two n d _ _ _ (by simp [go_sem]) (by simp [go_sem]) hS).mono ?_
      rintro e w14 ⟨rfl, hb14⟩
      replace k0 := keepc hb14 (keepa _ (keepa _ k0))
      replace k1 := keepc hb14 (keepa _ (keepa _ k1))
      have k2 : w14.cell? ⟨w13.heap.size, 0, none⟩ = some (.int .i64 a') := keepc hb14 (by simp [go_sem])
      have k3 : w14.cell? ⟨w13.heap.size, 1, none⟩ = some (.int .i64 b') := keepc hb14 (by simp [go_sem])
      have k4 : w14.cell? ⟨w13.heap.size + 1, 0, none⟩ = some (.int .i64 n) := keepc hb14 (by simp [go_sem])
      have k5 : w14.cell? ⟨w13.heap.size + 1, 1, none⟩ = some (.int .i64 d) := keepc hb14 (by simp [go_sem])
      replace kb : Below w.heap.size w w14 := ((kb.alloc (Nat.le_trans kb.size (by simp)) _).alloc (Nat.le_trans kb.size (by simp)) _).trans (hb14.mono (Nat.le_trans kb.size (by (try simp) <;> omega)))
      clear hb14
      go_wp2_with fail
      go_ret
      exact ⟨rfl, kb⟩
    · clear HALL
      go_wp2_with fail
      refine (hO _).mono ?_
      rintro e w11 ⟨rfl, hb11⟩
      replace kb : Below w.heap.size w w11 := kb.trans (hb11.mono (Nat.le_trans kb.size (by simp)))
      clear hb11
      go_wp2_with fail
      refine (hV _).mono ?_
      rintro e w12 ⟨rfl, hb12⟩
      have k0 : w12.cell? ⟨w11.heap.size, 0, none⟩ = some (.int .i64 a) := keepc hb12 (by simp [go_sem])
      have k1 : w12.cell? ⟨w11.heap.size, 1, none⟩ = some (.int .i64 b) := keepc hb12 (by simp [go_sem])
      replace kb : Below w.heap.size w w12 := (kb.alloc (Nat.le_trans kb.size (by simp)) _).trans (hb12.mono (Nat.le_trans kb.size (by simp)))
      clear hb12
      go_wp2_with fail
      refine (hT _).mono ?_
      rintro e w13 ⟨a', b', c', rfl, hb13⟩
      replace k0 := keepc hb13 k0
      replace k1 := keepc hb13 k1
      replace kb : Below w.heap.size w w13 := kb.trans (hb13.mono (Nat.le_trans kb.size (by simp)))
      clear hb13
      go_wp2_with fail
      refine (small_two n d _ _ _ (by simp [go_sem]) (by simp [go_sem]) hS).mono ?_
      rintro e w14 ⟨rfl, hb14⟩
      replace k0 := keepc hb14 (keepa _ (keepa _ k0))
      replace k1 := keepc hb14 (keepa _ (keepa _ k1))
      have k2 : w14.cell? ⟨w13.heap.size, 0, none⟩ = some (.int .i64 a') := keepc hb14 (by simp [go_sem])
      have k3 : w14.cell? ⟨w13.heap.size, 1, none⟩ = some (.int .i64 b') := keepc hb14 (by simp [go_sem])
      have k4 : w14.cell? ⟨w13.heap.size + 1, 0, none⟩ = some (.int .i64 n) := keepc hb14 (by simp [go_sem])
      have k5 : w14.cell? ⟨w13.heap.size + 1, 1, none⟩ = some (.int .i64 d) := keepc hb14 (by simp [go_sem])
      replace kb : Below w.heap.size w w14 := ((kb.alloc (Nat.le_trans kb.size (by simp)) _).alloc (Nat.le_trans kb.size (by simp)) _).trans (hb14.mono (Nat.le_trans kb.size (by (try simp) <;> omega)))
      clear hb14
      go_wp2_with fail
      go_ret
      exact ⟨rfl, kb⟩
    · clear HALL
      go_wp2_with fail
      refine (hO _).mono ?_
      rintro e w11 ⟨rfl, hb11⟩
      replace kb : Below w.heap.size w w11 := kb.trans (hb11.mono (Nat.le_trans kb.size (by simp)))
      clear hb11
      go_wp2_with fail
      refine (hV _).mono ?_
      rintro e w12 ⟨rfl, hb12⟩
      have k0 : w12.cell? ⟨w11.heap.size, 0, none⟩ = some (.int .i64 a) := keepc hb12 (by simp [go_sem])
      have k1 : w12.cell? ⟨w11.heap.size, 1, none⟩ = some (.int .i64 b) := keepc hb12 (by simp [go_sem])
      replace kb : Below w.heap.size w w12 := (kb.alloc (Nat.le_trans kb.size (by simp)) _).trans (hb12.mono (Nat.le_trans kb.size (by simp)))
      clear hb12
      go_wp2_with fail
      refine (hT _).mono ?_
      rintro e w13 ⟨rfl, hb13⟩
      replace k0 := keepc hb13 k0
      replace k1 := keepc hb13 k1
      replace kb : Below w.heap.size w w13 := kb.trans (hb13.mono (Nat.le_trans kb.size (by simp)))
      clear hb13
      go_wp2_with fail
      refine (small_two n d _ _ _ (by simp [go_sem]) (by simp [go_sem]) hS).mono ?_
      rintro e w14 ⟨rfl, hb14⟩
      replace k0 := keepc hb14 (keepa _ (keepa _ k0))
      replace k1 := keepc hb14 (keepa _ (keepa _ k1))
      have k2 : w14.cell? ⟨w13.heap.size, 0, none⟩ = some (.int .i64 a) := keepc hb14 (by simp [go_sem])
      have k3 : w14.cell? ⟨w13.heap.size, 1, none⟩ = some (.int .i64 b) := keepc hb14 (by simp [go_sem])
      have k4 : w14.cell? ⟨w13.heap.size + 1, 0, none⟩ = some (.int .i64 n) := keepc hb14 (by simp [go_sem])
      have k5 : w14.cell? ⟨w13.heap.size + 1, 1, none⟩ = some (.int .i64 d) := keepc hb14 (by simp [go_sem])
      replace kb : Below w.heap.size w w14 := ((kb.alloc (Nat.le_trans kb.size (by simp)) _).alloc (Nat.le_trans kb.size (by simp)) _).trans (hb14.mono (Nat.le_trans kb.size (by (try simp) <;> omega)))
      clear hb14
      go_wp2_with fail
      refine (is_any a b 0 _).mono ?_
      rintro e w15 ⟨rfl, hb15⟩
      replace k0 := keepc hb15 k0
      replace k1 := keepc hb15 k1
      replace k2 := keepc hb15 k2
      replace k3 := keepc hb15 k3
      replace k4 := keepc hb15 k4
      replace k5 := keepc hb15 k5
      replace kb : Below w.heap.size w w15 := kb.trans (hb15.mono (Nat.le_trans kb.size (by simp)))
      clear hb15
      go_wp2_with fail
      go_ret
      exact ⟨rfl, kb⟩

theorem of_law_any (n d n2 d2 : Int) (a1 : I64 n) (a2 : I64 d) (b1 : I64 n2) (b2 : I64 d2) (w : World) :
    Calls Try.prog 3 #[.int .i64 n, .int .i64 d, .agg #[.int .i64 n2, .int .i64 d2]] w fun e w' => e = .returned (.bool true) ∧ Below w.heap.size w w' := by
  refine of_law n d n2 d2 _ rfl ?_ b1 b2 ?_ w
  · cases h : (n2 != -9223372036854775808)
    · exact .inl rfl
    · cases h' : (d2 != -9223372036854775808)
      · exact .inr (.inl ⟨rfl, rfl⟩)
      · exact .inr (.inr ⟨rfl, rfl⟩)
  by_cases hd : d = 0
  · subst hd
    exact .inl ⟨rfl, fun w => of_zero n w⟩
  have hdb : (d == 0) = false := beq_eq_false_iff_ne.2 hd
  have hO : ∀ {a b c : Int}, outR (Rat.divInt n d) = (a, b, c) → OfTo n d a b c := fun {a b c} h w => by
    have := of_any n d a1.1 a1.2 a2.1 a2.2 hd w
    rwa [h] at this
  have ms1 : -536870912 < n.tmod 536870912 := by have := Int.lt_tmod_of_pos n (show (0 : Int) < 536870912 by decide); omega
  have ms2 : n.tmod 536870912 < 536870912 := Int.tmod_lt_of_pos _ (by decide)
  have hsome : ROfSome (n.tmod 536870912) d := by
    generalize n.tmod 536870912 = m at *
    by_cases hneg : d < 0
    · refine rof_some m d (wrap64 (-d)) (by omega) (by omega) (decide_eq_true hneg) hdb rfl ?_ ?_ ?_ <;> unfold wrap64 <;> (obtain ⟨q1, q2⟩ := a2; omega)
    · intro w
      exact (rof_pos m d (by omega) (by omega) (by omega) a2.2 w).mono fun e w' h => ⟨_, _, _, h⟩
  rcases outR_cases (Rat.divInt n d) with k | ⟨k, k1, k2⟩
  · refine .inr (.inl ⟨hdb, hO k, ?_⟩)
    rw [← Bool.not_eq_true, smallB_iff]
    intro hs
    have s1 := hs n (by simp)
    have s2 := hs d (by simp)
    obtain ⟨g0, hB⟩ := of_spec hd rfl
    rw [k] at hB
    have q1 : mag n / gd (mag n) (mag d) ≤ mag n := Int.ediv_le_self _ (mag_nonneg n)
    have q2 : mag d / gd (mag n) (mag d) ≤ mag d := Int.ediv_le_self _ (mag_nonneg d)
    have q3 : mag n ≤ 536870912 := mag_le s1.1 s1.2
    have q4 : mag d ≤ 536870912 := mag_le s2.1 s2.2
    unfold boundS at hB
    rw [if_neg (by omega)] at hB
    have hB' := congrArg (fun p : Int × Int × Int => p.2.2) hB
    simp at hB'
  · have hden : 1 ≤ ((Rat.divInt n d).den : Int) := by have := (Rat.divInt n d).den_pos; omega
    refine .inr (.inr ⟨hdb, _, _, hO k, validTo (okR_i64 k1).1 (okR_i64 k1).2 (validB_of k1), hden, ?_⟩)
    by_cases hs : smallB [n, d] = true
    · by_cases hm : n.tmod 536870912 = n
      · refine .inr (.inr ⟨hs, by rw [hm]; simp, ?_⟩)
        rw [hm]
        have hs' := hs
        rw [smallB_iff] at hs'
        have s1 := hs' n (by simp)
        have s2 := hs' d (by simp)
        intro w
        rcases Int.lt_or_le d 0 with h | h
        · have := rof_neg n d (by omega) (by omega) (by omega) (by omega) w
          rwa [k] at this
        · have := rof_pos n d (by omega) (by omega) (by omega) (by omega) w
          rwa [k] at this
      · exact .inr (.inl ⟨hs, by rw [bne_iff_ne]; exact hm, hsome⟩)
    · rw [Bool.not_eq_true] at hs
      exact .inl ⟨hs, hsome⟩
end Go.Proofs.Ytokcgfpnokeanaa
