/- RationalOrders: Cmp is an order that adding a number preserves. -/
import Derived.Test.YtokcgfpnokeanaaRatOc0
import Derived.Test.YtokcgfpnokeanaaRatOc1
import Derived.Test.YtokcgfpnokeanaaRatOc2
import Derived.Test.YtokcgfpnokeanaaRatOc3
import Derived.Test.YtokcgfpnokeanaaRatOc4
import Derived.Test.YtokcgfpnokeanaaRatOc5
namespace Go.Proofs.Ytokcgfpnokeanaa
open Go.RowKit Go.Shelf

/-- The order of two numbers. -/
def qc (p q : Rat) : Int := if p < q then -1 else if q < p then 1 else 0
theorem cmpS_ok {a b c d : Int} (h1 : okR a b) (h2 : okR c d) : cmpS a b c d = qc (toR a b) (toR c d) := by
  obtain ⟨x1, x2⟩ := toR_num h1
  obtain ⟨y1, y2⟩ := toR_num h2
  unfold cmpS cmpI qc
  rw [validB_of h1, validB_of h2, Bool.and_self, if_pos rfl]
  simp only [Rat.lt_iff, x1, x2, y1, y2]
theorem cmpS_bad1 {a b c d : Int} (h : validB a b = false) : cmpS a b c d = 0 := by unfold cmpS; rw [h]; rfl
theorem cmpS_bad2 {a b c d : Int} (h : validB c d = false) : cmpS a b c d = 0 := by unfold cmpS; rw [h, Bool.and_false]; rfl
theorem qc_range (p q : Rat) : -1 ≤ qc p q ∧ qc p q ≤ 1 := by unfold qc; split <;> (try split) <;> omega
theorem qc_anti (p q : Rat) : -(qc q p) = qc p q := by unfold qc; grind
theorem qc_add (p q r : Rat) : qc (p + r) (q + r) = qc p q := by unfold qc; simp only [Rat.add_lt_add_right]
theorem qc_le {p q r : Rat} (h1 : qc p q ≤ 0) (h2 : qc q r ≤ 0) : qc p r ≤ 0 := by unfold qc at *; grind
theorem qc_lt {p q r : Rat} (h1 : qc p q < 0) (h2 : qc q r ≤ 0) : qc p r = -1 := by unfold qc at *; grind
theorem conds (ab bc ac : Int) (h1 : ab ≤ 0 → bc ≤ 0 → ac ≤ 0) (h2 : ab < 0 → bc ≤ 0 → ac = -1) :
    (decide (ab ≤ 0) = false ∧ decide (ab < 0) = false) ∨ (decide (ab ≤ 0) = true ∧ decide (bc ≤ 0) = false ∧ decide (ab < 0) = false) ∨ (decide (ab ≤ 0) = true ∧ decide (bc ≤ 0) = false ∧ decide (ab < 0) = true) ∨
    (decide (ab ≤ 0) = true ∧ decide (bc ≤ 0) = true ∧ decide (0 < ac) = false ∧ decide (ab < 0) = false) ∨ (decide (ab ≤ 0) = true ∧ decide (bc ≤ 0) = true ∧ decide (0 < ac) = false ∧ decide (ab < 0) = true ∧ (ac != -1) = false) := by
  simp only [decide_eq_true_eq, decide_eq_false_iff_not, bne_eq_false_iff_eq]
  omega

theorem orders_any (n1 d1 n2 d2 n3 d3 : Int) (a1 : I64 n1) (a2 : I64 d1) (b1 : I64 n2) (b2 : I64 d2) (c1 : I64 n3) (c2 : I64 d3) (w : World) :
    Calls Try.prog 7 #[.agg #[.int .i64 n1, .int .i64 d1], .agg #[.int .i64 n2, .int .i64 d2], .agg #[.int .i64 n3, .int .i64 d3]] w fun e w' => e = .returned (.bool true) ∧ Below w.heap.size w w' := by
  have hBC := cmpTo b1 b2 c1 c2 rfl
  have hAC := cmpTo a1 a2 c1 c2 rfl
  cases v1 : validB n1 d1
  · exact orders_bad1 n1 d1 n2 d2 n3 d3 _ _ (cmpTo a1 a2 b1 b2 (cmpS_bad1 v1)) (cmpTo b1 b2 a1 a2 (cmpS_bad2 v1)) hBC hAC (validTo a1 a2 v1) w
  cases v2 : validB n2 d2
  · exact orders_bad2 n1 d1 n2 d2 n3 d3 _ _ (cmpTo a1 a2 b1 b2 (cmpS_bad2 v2)) (cmpTo b1 b2 a1 a2 (cmpS_bad1 v2)) hBC hAC (validTo a1 a2 v1) (validTo b1 b2 v2) w
  have o1 := okR_of v1
  have o2 := okR_of v2
  have V1 := validTo a1 a2 v1
  have V2 := validTo b1 b2 v2
  have hAB := cmpTo a1 a2 b1 b2 (cmpS_ok o1 o2)
  have hBA := cmpTo b1 b2 a1 a2 (cmpS_ok o2 o1)
  obtain ⟨r1, r2⟩ := qc_range (toR n1 d1) (toR n2 d2)
  have hn := qc_anti (toR n1 d1) (toR n2 d2)
  have hw : IntKind.i64.wrap (qc (toR n1 d1) (toR n2 d2)) = qc (toR n1 d1) (toR n2 d2) := by
    obtain h | h | h : qc (toR n1 d1) (toR n2 d2) = -1 ∨ qc (toR n1 d1) (toR n2 d2) = 0 ∨ qc (toR n1 d1) (toR n2 d2) = 1 := by omega
    all_goals rw [h]; rfl
  have hn2 : decide (qc (toR n1 d1) (toR n2 d2) < -1) = false := decide_eq_false (by omega)
  have hn3 : decide (1 < qc (toR n1 d1) (toR n2 d2)) = false := decide_eq_false (by omega)
  have hR : smallB [n1, d1, n2, d2] = true → RCmpTo n1 d1 n2 d2 (qc (toR n1 d1) (toR n2 d2)) := by
    intro hs w
    rw [smallB_iff] at hs
    have s1 := hs n1 (by simp)
    have s2 := hs d1 (by simp)
    have s3 := hs n2 (by simp)
    have s4 := hs d2 (by simp)
    have := rcmp_any n1 d1 n2 d2 o1 o2 (by omega) (by omega) (by omega) (by omega) (by omega) (by omega) w
    have e := cmpS_ok o1 o2
    unfold cmpS at e
    rw [v1, v2, Bool.and_self, if_pos rfl] at e
    rwa [e] at this
  cases v3 : validB n3 d3
  · have V3 := validTo c1 c2 v3
    cases hs : smallB [n1, d1, n2, d2]
    · exact orders_great_c n1 d1 n2 d2 n3 d3 _ _ _ _ hAB hBA hBC hAC hn hw hn2 hn3 V1 V2 hs V3 w
    · exact orders_small_c n1 d1 n2 d2 n3 d3 _ _ _ _ hAB hBA hBC hAC hn hw hn2 hn3 V1 V2 hs (hR hs) V3 w
  have o3 := okR_of v3
  have V3 := validTo c1 c2 v3
  obtain ⟨x1, x2, x3, hx⟩ : ∃ a b c, addS n1 d1 n3 d3 = (a, b, c) := ⟨_, _, _, rfl⟩
  obtain ⟨y1, y2, y3, hy⟩ : ∃ a b c, addS n2 d2 n3 d3 = (a, b, c) := ⟨_, _, _, rfl⟩
  have hX := addTo a1 a2 c1 c2 hx
  have hY := addTo b1 b2 c1 c2 hy
  have hrest : (x3 != 0) = true ∨ ((x3 != 0) = false ∧ (y3 != 0) = true) ∨ ((x3 != 0) = false ∧ (y3 != 0) = false ∧ CmpTo x1 x2 y1 y2 (qc (toR n1 d1) (toR n2 d2))) := by
    by_cases zx : x3 = 0
    · by_cases zy : y3 = 0
      · obtain ⟨_, _, ox, ex, _⟩ := addS_zero hx zx
        obtain ⟨_, _, oy, ey, _⟩ := addS_zero hy zy
        refine .inr (.inr ⟨by simp [zx], by simp [zy], cmpTo (okR_i64 ox).1 (okR_i64 ox).2 (okR_i64 oy).1 (okR_i64 oy).2 ?_⟩)
        rw [cmpS_ok ox oy, ex, ey, qc_add]
      · exact .inr (.inl ⟨by simp [zx], by simp [zy]⟩)
    · exact .inl (by simp [zx])
  rw [cmpS_ok o2 o3] at hBC
  rw [cmpS_ok o1 o3] at hAC
  rcases conds (qc (toR n1 d1) (toR n2 d2)) (qc (toR n2 d2) (toR n3 d3)) (qc (toR n1 d1) (toR n3 d3)) qc_le qc_lt with ⟨k0, k1⟩ | ⟨k0, k1, k2⟩ | ⟨k0, k1, k2⟩ | ⟨k0, k1, k2, k3⟩ | ⟨k0, k1, k2, k3, k4⟩
  · cases hs : smallB [n1, d1, n2, d2]
    · exact orders_great_0 n1 d1 n2 d2 n3 d3 _ _ _ _ x1 x2 x3 y1 y2 y3 hAB hBA hBC hAC hn hw hn2 hn3 V1 V2 hs V3 k0 k1 hX hY hrest w
    · exact orders_small_0 n1 d1 n2 d2 n3 d3 _ _ _ _ x1 x2 x3 y1 y2 y3 hAB hBA hBC hAC hn hw hn2 hn3 V1 V2 hs (hR hs) V3 k0 k1 hX hY hrest w
  · cases hs : smallB [n1, d1, n2, d2]
    · exact orders_great_1 n1 d1 n2 d2 n3 d3 _ _ _ _ x1 x2 x3 y1 y2 y3 hAB hBA hBC hAC hn hw hn2 hn3 V1 V2 hs V3 k0 k1 k2 hX hY hrest w
    · exact orders_small_1 n1 d1 n2 d2 n3 d3 _ _ _ _ x1 x2 x3 y1 y2 y3 hAB hBA hBC hAC hn hw hn2 hn3 V1 V2 hs (hR hs) V3 k0 k1 k2 hX hY hrest w
  · cases hs : smallB [n1, d1, n2, d2]
    · exact orders_great_2 n1 d1 n2 d2 n3 d3 _ _ _ _ x1 x2 x3 y1 y2 y3 hAB hBA hBC hAC hn hw hn2 hn3 V1 V2 hs V3 k0 k1 k2 hX hY hrest w
    · exact orders_small_2 n1 d1 n2 d2 n3 d3 _ _ _ _ x1 x2 x3 y1 y2 y3 hAB hBA hBC hAC hn hw hn2 hn3 V1 V2 hs (hR hs) V3 k0 k1 k2 hX hY hrest w
  · cases hs : smallB [n1, d1, n2, d2]
    · exact orders_great_3 n1 d1 n2 d2 n3 d3 _ _ _ _ x1 x2 x3 y1 y2 y3 hAB hBA hBC hAC hn hw hn2 hn3 V1 V2 hs V3 k0 k1 k2 k3 hX hY hrest w
    · exact orders_small_3 n1 d1 n2 d2 n3 d3 _ _ _ _ x1 x2 x3 y1 y2 y3 hAB hBA hBC hAC hn hw hn2 hn3 V1 V2 hs (hR hs) V3 k0 k1 k2 k3 hX hY hrest w
  · cases hs : smallB [n1, d1, n2, d2]
    · exact orders_great_4 n1 d1 n2 d2 n3 d3 _ _ _ _ x1 x2 x3 y1 y2 y3 hAB hBA hBC hAC hn hw hn2 hn3 V1 V2 hs V3 k0 k1 k2 k3 k4 hX hY hrest w
    · exact orders_small_4 n1 d1 n2 d2 n3 d3 _ _ _ _ x1 x2 x3 y1 y2 y3 hAB hBA hBC hAC hn hw hn2 hn3 V1 V2 hs (hR hs) V3 k0 k1 k2 k3 k4 hX hY hrest w
end Go.Proofs.Ytokcgfpnokeanaa
