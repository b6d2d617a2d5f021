/- RationalComputes: the cases together. -/
import Derived.Test.YthiemhkhlggenaaRatC1
import Derived.Test.YthiemhkhlggenaaRatC2
import Derived.Test.YthiemhkhlggenaaRatU
namespace Go.Proofs.Ythiemhkhlggenaa
open Go.RowKit Go.Shelf

theorem validB_neg {n d : Int} (h1 : I64 n) (hv : validB n d = false) : validB (wrap64 (-n)) d = false := by
  cases hb : validB (wrap64 (-n)) d with
  | false => rfl
  | true =>
    have ho := okR_of hb
    obtain ⟨i1, i2, _⟩ := okR_num ho
    have hw : wrap64 (-n) = -n := by
      unfold wrap64 at i1 i2 ⊢
      obtain ⟨l, u⟩ := h1
      omega
    rw [hw] at ho
    have hn : okR n d := by
      rcases ho with ⟨h, rfl⟩ | ⟨a1, a2, a3, a4, a5⟩
      · exact .inl ⟨by omega, rfl⟩
      · exact .inr ⟨a1, a2, by omega, by omega, by unfold gd at *; rw [Int.neg_gcd] at a5; exact a5⟩
    rw [validB_of hn] at hv
    cases hv

theorem computes_any (n1 d1 n2 d2 : Int) (h1 : I64 n1) (h2 : I64 d1) (h3 : I64 n2) (h4 : I64 d2) (w : World) :
    Calls Try.prog 4 #[.agg #[.int .i64 n1, .int .i64 d1], .agg #[.int .i64 n2, .int .i64 d2]] w fun e w' => e = .returned (.bool true) ∧ Below w.heap.size w w' := by
  cases v1 : validB n1 d1 with
  | false =>
    exact comp_bad1 n1 d1 n2 d2 (addTo h1 h2 h3 h4 (by unfold addS; rw [v1]; rfl)) (subTo h1 h2 h4 (by unfold addS; rw [v1]; rfl)) (mulTo h1 h2 h3 h4 (by unfold mulS; rw [v1]; rfl)) (divTo h1 h2 h3 h4 (by unfold divS; rw [v1]; rfl)) (validTo h1 h2 v1) w
  | true =>
  cases v2 : validB n2 d2 with
  | false =>
    have v3 := validB_neg h3 v2
    exact comp_bad2 n1 d1 n2 d2 (addTo h1 h2 h3 h4 (by unfold addS; rw [v1, v2]; rfl)) (subTo h1 h2 h4 (by unfold addS; rw [v1, v3]; rfl)) (mulTo h1 h2 h3 h4 (by unfold mulS; rw [v1, v2]; rfl)) (divTo h1 h2 h3 h4 (by unfold divS; rw [v1, v2]; rfl)) (validTo h1 h2 v1) (validTo h3 h4 v2) w
  | true =>
  have o1 := okR_of v1
  have o2 := okR_of v2
  obtain ⟨e1, o3, e2⟩ := wrap_neg o2
  obtain ⟨s1, s2, s3, hs⟩ : ∃ a b c, addS n1 d1 n2 d2 = (a, b, c) := ⟨_, _, _, rfl⟩
  obtain ⟨r1, r2, r3, hr⟩ : ∃ a b c, addS n1 d1 (wrap64 (-n2)) d2 = (a, b, c) := ⟨_, _, _, rfl⟩
  obtain ⟨p1, p2, p3, hp⟩ : ∃ a b c, mulS n1 d1 n2 d2 = (a, b, c) := ⟨_, _, _, rfl⟩
  obtain ⟨q1, q2, q3, hq⟩ : ∃ a b c, divS n1 d1 n2 d2 = (a, b, c) := ⟨_, _, _, rfl⟩
  cases hB : smallB [n1, d1, n2, d2] with
  | false => exact comp_big n1 d1 n2 d2 s1 s2 s3 r1 r2 r3 p1 p2 p3 q1 q2 q3 (addTo h1 h2 h3 h4 hs) (subTo h1 h2 h4 hr) (mulTo h1 h2 h3 h4 hp) (divTo h1 h2 h3 h4 hq) (validTo h1 h2 v1) (validTo h3 h4 v2) hB w
  | true =>
    have hb := (smallB_iff _).1 hB
    have b1 := hb n1 (by simp)
    have b2 := hb d1 (by simp)
    have b3 := hb n2 (by simp)
    have b4 := hb d2 (by simp)
    refine comp_main n1 d1 n2 d2 (wrap64 (-n2)) s1 s2 s3 r1 r2 r3 p1 p2 p3 q1 q2 q3 (addTo h1 h2 h3 h4 hs) (subTo h1 h2 h4 hr) (mulTo h1 h2 h3 h4 hp) (divTo h1 h2 h3 h4 hq) (validTo h1 h2 v1) (validTo h3 h4 v2) hB (fun w => ?_) (fun w => ?_) rfl (fun w => ?_) (fun w => ?_) w
    · have h := radd_any n1 d1 n2 d2 o1 o2 b1.1 b1.2 b2.2 b3.1 b3.2 b4.2 w
      rw [← addS_ok o1 o2, hs] at h
      exact h
    · rw [e1] at hr ⊢
      have h := radd_any n1 d1 (-n2) d2 o1 o3 b1.1 b1.2 b2.2 (by omega) (by omega) b4.2 w
      rw [← addS_ok o1 o3, hr] at h
      exact h
    · have h := rmul_any n1 d1 n2 d2 o1 o2 b1.1 b1.2 b2.2 b3.1 b3.2 b4.2 w
      rw [← mulS_ok o1 o2, hp] at h
      exact h
    · by_cases hz : n2 = 0
      · subst hz
        have h := rdiv_zero n1 d1 d2 o1 o2 b1.1 b1.2 b2.2 b4.2 w
        have hd : divS n1 d1 0 d2 = (0, 0, 2) := by unfold divS; rw [v1, v2]; rfl
        rw [hd] at hq
        cases hq
        exact h
      · rw [divS_ok o1 o2 hz] at hq
        rcases Int.lt_or_gt_of_ne hz with hn | hn
        · have h := rdiv_neg n1 d1 n2 d2 o1 o2 b1.1 b1.2 b2.2 b3.1 b3.2 b4.2 hn w
          rw [hq] at h
          exact h
        · have h := rdiv_pos n1 d1 n2 d2 o1 o2 b1.1 b1.2 b2.2 b3.1 b3.2 b4.2 hn w
          rw [hq] at h
          exact h
end Go.Proofs.Ythiemhkhlggenaa
