/- Plain mathematics: rational numbers in lowest terms, and what the program's results are of them. -/
import Derived.Test.YtlglagihekadhaaDoorRatM
namespace Go.Proofs.YtlglagihekadhaaDoor

/-- What a function returns for the exact result q: numerator, denominator, error. -/
def outR (q : Rat) : Int × Int × Int := if 1152921504606846976 < mag q.num ∨ 1152921504606846976 < (q.den : Int) then (0, 0, 10) else (q.num, (q.den : Int), 0)
/-- What bounded returns: numerator, denominator, error. -/
def boundS (neg : Bool) (T B : Int) : Int × Int × Int := if 1152921504606846976 < T ∨ 1152921504606846976 < B then (0, 0, 10) else (if neg then -T else T, B, 0)
theorem boundS_of (q : Rat) (neg : Bool) (T B : Int) (hT : T = mag q.num) (hB : B = (q.den : Int)) (hs : q.num ≠ 0 → neg = decide (q.num < 0)) : boundS neg T B = outR q := by
  subst hT hB
  unfold boundS outR
  split
  · rfl
  · congr 1
    by_cases h : q.num = 0
    · rw [h]; cases neg <;> rfl
    · rw [hs h]; unfold mag
      by_cases k : q.num < 0 <;> simp [k]
/-- The number that n over d stands for; 0 / 0 is 0. -/
def toR (n d : Int) : Rat := mkRat n d.toNat
/-- What holds of a valid value. -/
def okR (n d : Int) : Prop := (n = 0 ∧ d = 0) ∨ (1 ≤ d ∧ d ≤ 1152921504606846976 ∧ -1152921504606846976 ≤ n ∧ n ≤ 1152921504606846976 ∧ gd n d = 1)
/-- The denominator that is not 0. -/
def full (d : Int) : Int := if d = 0 then 1 else d

theorem toR_num {n d : Int} (h : okR n d) : (toR n d).num = n ∧ ((toR n d).den : Int) = full d := by
  rcases h with ⟨rfl, rfl⟩ | ⟨h1, _, _, _, h5⟩
  · exact ⟨rfl, rfl⟩
  · unfold toR full
    rw [if_neg (by omega), Rat.num_mkRat, Rat.den_mkRat, if_neg (by omega), if_neg (by omega)]
    have hg : d.toNat.gcd n.natAbs = 1 := by
      unfold gd at h5
      have : Int.gcd n d = 1 := by omega
      rw [Int.gcd, show d.natAbs = d.toNat by omega] at this
      rw [Nat.gcd_comm]; exact this
    rw [hg]; omega

theorem full_pos {n d : Int} (h : okR n d) : 1 ≤ full d ∧ full d ≤ 1152921504606846976 := by
  rcases h with ⟨rfl, rfl⟩ | ⟨h1, h2, _⟩
  · exact ⟨by decide, by decide⟩
  · unfold full; rw [if_neg (by omega)]; omega
theorem okR_num {n d : Int} (h : okR n d) : -1152921504606846976 ≤ n ∧ n ≤ 1152921504606846976 ∧ 0 ≤ d ∧ d ≤ 1152921504606846976 ∧ (d = 0 → n = 0) := by
  rcases h with ⟨rfl, rfl⟩ | ⟨h1, h2, h3, h4, _⟩
  · omega
  · exact ⟨h3, h4, by omega, h2, by omega⟩
theorem gd_nat (a b : Nat) : gd (a : Int) (b : Int) = ((a.gcd b : Nat) : Int) := rfl

/-- The sum of two numbers in lowest terms, as the program computes it. -/
theorem add_core (a b : Rat) : ∃ c : Nat, c = ((a.num * ((b.den / a.den.gcd b.den : Nat) : Int) + b.num * ((a.den / a.den.gcd b.den : Nat) : Int)).natAbs).gcd (a.den.gcd b.den) ∧ 0 < c ∧
    (a + b).num = (a.num * ((b.den / a.den.gcd b.den : Nat) : Int) + b.num * ((a.den / a.den.gcd b.den : Nat) : Int)) / (c : Int) ∧
    (c : Int) ∣ (a.num * ((b.den / a.den.gcd b.den : Nat) : Int) + b.num * ((a.den / a.den.gcd b.den : Nat) : Int)) ∧
    (a + b).den = (a.den / a.den.gcd b.den) * (b.den / c) := by
  have aux := Rat.add.aux a b (g := a.den.gcd b.den) rfl rfl rfl
  have gp : 0 < a.den.gcd b.den := Nat.gcd_pos_of_pos_left _ a.den_pos
  have ga : a.den.gcd b.den ∣ a.den := Nat.gcd_dvd_left ..
  have gb : a.den.gcd b.den ∣ b.den := Nat.gcd_dvd_right ..
  generalize a.den.gcd b.den = g at *
  obtain ⟨p, hp⟩ := ga
  obtain ⟨q, hq⟩ := gb
  have ep : a.den / g = p := by rw [hp, Nat.mul_div_cancel_left _ gp]
  have eq : b.den / g = q := by rw [hq, Nat.mul_div_cancel_left _ gp]
  simp only [ep, eq] at aux ⊢
  generalize ht : a.num * (q : Int) + b.num * (p : Int) = t at *
  have hs : a + b = mkRat t (p * b.den) := by
    rw [Rat.add_def', ← Rat.mkRat_mul_right (n := t) (d := p * b.den) (a := g) (by omega)]
    congr 1
    · rw [← ht, hp, hq, Int.natCast_mul, Int.natCast_mul, Int.add_mul, Int.mul_assoc, Int.mul_assoc, Int.mul_comm (q : Int), Int.mul_comm (p : Int)]
    · rw [hp]; simp [Nat.mul_comm, Nat.mul_left_comm]
  have hd0 : p * b.den ≠ 0 := by
    have h1 := a.den_pos
    have h2 := b.den_pos
    rw [hp] at h1
    have : p ≠ 0 := by rintro rfl; omega
    exact Nat.mul_ne_zero this (by omega)
  have cp : 0 < t.natAbs.gcd g := Nat.gcd_pos_of_pos_right _ gp
  refine ⟨t.natAbs.gcd g, rfl, cp, ?_, ?_, ?_⟩
  · rw [hs, Rat.num_mkRat, if_neg hd0, Nat.gcd_comm, ← aux]
  · exact Int.ofNat_dvd_left.2 (Nat.gcd_dvd_left ..)
  · rw [hs, Rat.den_mkRat, if_neg hd0, Nat.gcd_comm, ← aux, Nat.mul_div_assoc]
    rw [hq]; exact Nat.dvd_mul_right_of_dvd (Nat.gcd_dvd_right ..) _

theorem mul_core (a b : Rat) : (a * b).num = a.num / ((a.num.natAbs.gcd b.den : Nat) : Int) * (b.num / ((b.num.natAbs.gcd a.den : Nat) : Int)) ∧
    (a * b).den = (a.den / b.num.natAbs.gcd a.den) * (b.den / a.num.natAbs.gcd b.den) := by
  have e : a * b = Rat.mul a b := rfl
  rw [e]
  unfold Rat.mul
  simp only [Int.divExact_eq_ediv, Nat.divExact_eq_div]
  exact ⟨trivial, trivial⟩

theorem mag_div {t c : Int} (hc : 0 < c) (hd : c ∣ t) : mag t / c = mag (t / c) ∧ (t / c < 0 ↔ t < 0) ∧ (t / c = 0 ↔ t = 0) := by
  obtain ⟨k, rfl⟩ := hd
  rw [Int.mul_ediv_cancel_left _ (by omega)]
  have h1 : c * k < 0 ↔ k < 0 := by
    rcases Int.lt_trichotomy k 0 with h | h | h
    · have := Int.mul_neg_of_pos_of_neg hc h; omega
    · subst h; omega
    · have := Int.mul_pos hc h; omega
  have h2 : c * k = 0 ↔ k = 0 := by rw [Int.mul_eq_zero]; omega
  refine ⟨?_, h1.symm, h2.symm⟩
  unfold mag
  by_cases h : k < 0
  · rw [if_pos h, if_pos (h1.2 h), ← Int.mul_neg, Int.mul_ediv_cancel_left _ (by omega)]
  · rw [if_neg h, if_neg (by omega), Int.mul_ediv_cancel_left _ (by omega)]
theorem gd_mod (t g : Int) (hg : 0 < g) : gd (mag t % g) g = ((t.natAbs.gcd g.natAbs : Nat) : Int) := by
  obtain ⟨k, rfl⟩ := Int.eq_ofNat_of_zero_le (show 0 ≤ g by omega)
  rw [mag_eq_natAbs, ← Int.natCast_emod, gd_nat, Int.natAbs_natCast, Nat.gcd_comm t.natAbs, Nat.gcd_rec k t.natAbs]

theorem add_spec {n1 d1 n2 d2 : Int} (h1 : okR n1 d1) (h2 : okR n2 d2) {g t c : Int} (eg : g = gd (full d1) (full d2)) (et : t = n1 * (full d2 / g) + n2 * (full d1 / g)) (ec : c = gd (mag t % g) g) :
    1 ≤ g ∧ g ≤ 1152921504606846976 ∧ 1 ≤ c ∧ c ≤ g ∧ boundS (decide (t < 0)) (mag t / c) (full d1 / g * (full d2 / c)) = outR (toR n1 d1 + toR n2 d2) := by
  obtain ⟨a1, a2⟩ := toR_num h1
  obtain ⟨b1, b2⟩ := toR_num h2
  have f1 := full_pos h1
  have f2 := full_pos h2
  have gp : 1 ≤ g := by rw [eg]; exact gd_pos_left (by omega)
  have gl : g ≤ full d1 := by rw [eg]; exact gd_le_left (by omega)
  obtain ⟨k, hk, k0, e1, e2, e3⟩ := add_core (toR n1 d1) (toR n2 d2)
  rw [← a2, ← b2, gd_nat] at eg
  rw [← a2, ← b2] at et ⊢
  rw [a1, b1] at hk e1 e2
  have et' : n1 * ((((toR n2 d2).den / (toR n1 d1).den.gcd (toR n2 d2).den : Nat)) : Int) + n2 * (((toR n1 d1).den / (toR n1 d1).den.gcd (toR n2 d2).den : Nat) : Int) = t := by
    rw [et, eg, Int.natCast_ediv, Int.natCast_ediv]
  rw [et'] at hk e1 e2
  have ck : c = (k : Int) := by rw [ec, gd_mod t g (by omega), hk, eg, Int.natAbs_natCast]
  have cp : 1 ≤ c := by omega
  have cl : c ≤ g := by rw [ec]; exact gd_le_right (by omega)
  refine ⟨gp, by omega, cp, cl, boundS_of _ _ _ _ ?_ ?_ ?_⟩
  · rw [e1, ck]; exact (mag_div (by omega) e2).1
  · rw [e3, eg, ck, Int.natCast_mul, Int.natCast_ediv, Int.natCast_ediv]
  · intro _
    rw [e1, decide_eq_decide]
    exact (mag_div (by omega) e2).2.1.symm

theorem gcd_gd {q : Rat} {d : Int} {n : Nat} (e : q.num = d) : ((q.num.natAbs.gcd n : Nat) : Int) = gd (mag d) n := by
  rw [← e, mag_eq_natAbs, gd_nat]
theorem mul_sign (a b : Int) : a * b ≠ 0 → ((decide (a < 0) != decide (b < 0)) = decide (a * b < 0)) := by
  intro h
  have ha : a ≠ 0 := by rintro rfl; simp at h
  have hb : b ≠ 0 := by rintro rfl; simp at h
  rcases Int.lt_or_le a 0 with p | p <;> rcases Int.lt_or_le b 0 with q | q
  · have := Int.mul_pos_of_neg_of_neg p q
    rw [decide_eq_true p, decide_eq_true q, decide_eq_false (by omega)]; rfl
  · have := Int.mul_neg_of_neg_of_pos p (show 0 < b by omega)
    rw [decide_eq_true p, decide_eq_false (by omega), decide_eq_true this]; rfl
  · have := Int.mul_neg_of_pos_of_neg (show 0 < a by omega) q
    rw [decide_eq_false (by omega), decide_eq_true q, decide_eq_true this]; rfl
  · have := Int.mul_pos (show 0 < a by omega) (show 0 < b by omega)
    rw [decide_eq_false (by omega), decide_eq_false (by omega), decide_eq_false (by omega)]; rfl
theorem mag_mul' (a b : Int) : mag (a * b) = mag a * mag b := by
  rw [mag_eq_natAbs, mag_eq_natAbs, mag_eq_natAbs, Int.natAbs_mul, Int.natCast_mul]

theorem mul_spec {n1 d1 n2 d2 : Int} (h1 : okR n1 d1) (h2 : okR n2 d2) {g h : Int} (eg : g = gd (mag n1) (full d2)) (eh : h = gd (mag n2) (full d1)) :
    1 ≤ g ∧ g ≤ 1152921504606846976 ∧ 1 ≤ h ∧ h ≤ 1152921504606846976 ∧ boundS (decide (n1 < 0) != decide (n2 < 0)) (mag n1 / g * (mag n2 / h)) (full d1 / h * (full d2 / g)) = outR (toR n1 d1 * toR n2 d2) := by
  obtain ⟨a1, a2⟩ := toR_num h1
  obtain ⟨b1, b2⟩ := toR_num h2
  have f1 := full_pos h1
  have f2 := full_pos h2
  obtain ⟨e1, e2⟩ := mul_core (toR n1 d1) (toR n2 d2)
  have gp : 1 ≤ g := by rw [eg]; exact gd_pos_right (by omega)
  have gl : g ≤ full d2 := by rw [eg]; exact gd_le_right (by omega)
  have hp : 1 ≤ h := by rw [eh]; exact gd_pos_right (by omega)
  have hl : h ≤ full d1 := by rw [eh]; exact gd_le_right (by omega)
  rw [← b2] at eg
  rw [← a2] at eh
  have kg := gcd_gd (n := (toR n2 d2).den) a1
  have kh := gcd_gd (n := (toR n1 d1).den) b1
  rw [← eg] at kg
  rw [← eh] at kh
  have dg : g ∣ n1 := by rw [← kg, a1]; exact Int.ofNat_dvd_left.2 (Nat.gcd_dvd_left ..)
  have dh : h ∣ n2 := by rw [← kh, b1]; exact Int.ofNat_dvd_left.2 (Nat.gcd_dvd_left ..)
  rw [kg, kh, a1, b1] at e1
  obtain ⟨m1, m2, m3⟩ := mag_div (show 0 < g by omega) dg
  obtain ⟨m4, m5, m6⟩ := mag_div (show 0 < h by omega) dh
  refine ⟨gp, by omega, hp, by omega, boundS_of _ _ _ _ ?_ ?_ ?_⟩
  · rw [m1, m4, e1, mag_mul']
  · rw [e2, Int.natCast_mul, Int.natCast_ediv, Int.natCast_ediv, kg, kh, a2, b2]
  · intro hne
    rw [e1] at hne ⊢
    rw [← mul_sign _ _ hne]
    congr 1
    · rw [decide_eq_decide]; exact m2.symm
    · rw [decide_eq_decide]; exact m5.symm

theorem of_spec {n d : Int} (hd : d ≠ 0) {g : Int} (eg : g = gd (mag n) (mag d)) : 1 ≤ g ∧ boundS (decide (n < 0) != decide (d < 0)) (mag n / g) (mag d / g) = outR (Rat.divInt n d) := by
  have gp : 1 ≤ g := by rw [eg]; exact gd_pos_right (by have := mag_pos hd; omega)
  rw [gd_mag] at eg
  have ge : g = ((Int.gcd d n : Nat) : Int) := by rw [eg, Int.gcd_comm]; rfl
  have dn : g ∣ n := by rw [ge]; exact Int.gcd_dvd_right ..
  have dd : g ∣ d := by rw [ge]; exact Int.gcd_dvd_left ..
  have e1 := Rat.num_divInt n d
  have e2 := Rat.den_divInt n d
  rw [← ge] at e1
  rw [if_neg hd] at e2
  obtain ⟨m1, m2, m3⟩ := mag_div (show 0 < g by omega) dn
  obtain ⟨m4, m5, m6⟩ := mag_div (show 0 < g by omega) dd
  refine ⟨gp, boundS_of _ _ _ _ ?_ ?_ ?_⟩
  · rw [e1, m1]
    rcases Int.lt_or_le d 0 with h | h
    · rw [Int.sign_eq_neg_one_of_neg h, Int.neg_one_mul, Int.neg_ediv_of_dvd dn]; unfold mag; split <;> split <;> omega
    · rw [Int.sign_eq_one_of_pos (by omega), Int.one_mul]
  · rw [e2, Int.natCast_ediv, ← mag_eq_natAbs, ← ge]
  · intro hne
    rw [e1] at hne ⊢
    rcases Int.lt_or_le d 0 with h | h
    · rw [Int.sign_eq_neg_one_of_neg h, Int.neg_one_mul, Int.neg_ediv_of_dvd dn] at hne ⊢
      rw [decide_eq_true h]
      rcases Int.lt_or_le n 0 with q | q
      · rw [decide_eq_true q, decide_eq_false (by omega)]; rfl
      · rw [decide_eq_false (by omega), decide_eq_true (by omega)]; rfl
    · rw [Int.sign_eq_one_of_pos (by omega), Int.one_mul, decide_eq_false (show ¬ d < 0 by omega)]
      rw [show decide (n / g < 0) = decide (n < 0) from decide_eq_decide.2 m2]
      cases decide (n < 0) <;> rfl
end Go.Proofs.YtlglagihekadhaaDoor
