/- The contract of Parse. -/
import Derived.Test.YtlglagihekadhaaDoorTexT
import Derived.Lib.AtoiErrMem
namespace Go.Proofs.YtlglagihekadhaaDoor
open Go.RowKit Go.Lib

/-- What Parse asks of the library's variables. -/
structure EnvW (w : World) : Prop where
  tab : TabW w
  maxLen : ∃ m, w.cell? ⟨2, 0, none⟩ = some (.int .i64 m)
  synt : ∃ ev, w.cell? ⟨3, 0, none⟩ = some ev ∧ (ev = .nilIface ∨ ∃ te pe, ev = .iface te pe)
  rang : ∃ ev, w.cell? ⟨4, 0, none⟩ = some ev ∧ (ev = .nilIface ∨ ∃ te pe, ev = .iface te pe)
theorem keepb {W w : World} {a : Addr} {v : Value} (hb : Below W.heap.size W w) (h : W.cell? a = some v) : w.cell? a = some v := (hb.cell (World.block_lt_of_cell? W a h)).trans h
theorem EnvW.below {w w' : World} (h : EnvW w) (hb : Below w.heap.size w w') : EnvW w' := by
  obtain ⟨ht, ⟨m, hm⟩, ⟨e1, h1, k1⟩, ⟨e2, h2, k2⟩⟩ := h
  exact ⟨ht.below hb, ⟨m, keepb hb hm⟩, ⟨e1, keepb hb h1, k1⟩, ⟨e2, keepb hb h2, k2⟩⟩

theorem cut_any (l : List UInt8) (hl : l.length ≤ 100) (w : World) (h : EnvW w) :
    Calls Tryd.prog 19 #[st l, st [47]] w fun e w' => e = .returned (.tuple #[st (cut l [47]).1, st (cut l [47]).2.1, .bool (cut l [47]).2.2]) ∧ Below w.heap.size w w' := by
  obtain ⟨m, hm⟩ := h.maxLen
  refine (Tryd.strings_Cut ⟨l.toArray⟩ ⟨#[47]⟩ m w (by simp [ByteArray.size]; omega) hm).mono fun e w' ⟨he, n, hw⟩ => ⟨by simpa using he, ?_⟩
  subst hw
  exact below_drewN _ (Below.refl _ _)

theorem atoi_ok {l : List UInt8} (hl : l.length ≤ 100) {v : Int} (h : atoiAll l = .ok v) (w : World) :
    Calls Tryd.prog 20 #[st l] w fun e w' => e = .returned (.tuple #[.int .i64 v, .nilIface]) ∧ Below w.heap.size w w' :=
  (Tryd.strconv_Atoi_ok ⟨l.toArray⟩ (by simp [ByteArray.size]; omega) v (by simpa using h) w).mono fun e w' ⟨he, hw⟩ => ⟨he, by
    rcases hw with rfl | ⟨t, rfl⟩
    · exact Below.refl _ _
    · exact bytesWorld_below w _ t⟩
theorem atoi_no {l : List UInt8} (hl : l.length ≤ 100) (h : ∀ v, atoiAll l ≠ .ok v) (w : World) (hw : EnvW w) :
    Calls Tryd.prog 20 #[st l] w fun e w' => ∃ (x : Int) (N : Nat), e = .returned (.tuple #[.int .i64 x, .iface 79 (.pointer (some ⟨N, 0, none⟩))]) ∧ Below w.heap.size w w' := by
  cases hk : atoiAll l with
  | ok v => exact absurd hk (h v)
  | «syntax» =>
    obtain ⟨ev, h1, h2⟩ := hw.synt
    exact (Tryd.strconv_Atoi_syntax ⟨l.toArray⟩ (by simp [ByteArray.size]; omega) (by simpa using hk) ev w h1 h2).mono fun e w' ⟨N, he, _, _, hb⟩ => ⟨0, N, he, hb⟩
  | range =>
    obtain ⟨ev, h1, h2⟩ := hw.rang
    exact (Tryd.strconv_Atoi_range ⟨l.toArray⟩ (by simp [ByteArray.size]; omega) (by simpa using hk) ev w h1 h2).mono fun e w' ⟨N, he, _, _, hb⟩ => ⟨_, N, he, hb⟩

/-- The two pieces that are read as numbers. -/
def topOf (l : List UInt8) : List UInt8 := (cut l [47]).1
def botOf (l : List UInt8) : List UInt8 := if (cut l [47]).2.2 then (cut l [47]).2.1 else [49]
theorem cut_len (l : List UInt8) (hl : l.length ≤ 100) : (cut l [47]).1.length ≤ 100 ∧ (cut l [47]).2.1.length ≤ 100 := by
  unfold cut
  split <;> simp <;> omega
/-- The text that Text answers. -/
def textS (n d : Int) : List UInt8 := if validB n d then tx n (full d) else []
theorem text_any (n d : Int) (n0 : -9223372036854775808 ≤ n) (n1 : n ≤ 9223372036854775807) (d0 : -9223372036854775808 ≤ d) (d1 : d ≤ 9223372036854775807) (w : World) (ht : TabW w) :
    Calls Tryd.prog 5 #[.agg #[.int .i64 n, .int .i64 d]] w fun e w' => e = .returned (st (textS n d)) ∧ Below w.heap.size w w' := by
  unfold textS
  cases hv : validB n d with
  | true => exact text_ok n d (okR_of hv) w ht
  | false => exact text_bad n d n0 n1 d0 d1 hv w
theorem atoiAll_range {l : List UInt8} {v : Int} (h : atoiAll l = .ok v) : -9223372036854775808 ≤ v ∧ v ≤ 9223372036854775807 := by
  unfold atoiAll at h
  split at h
  · cases h
  · rename_i c r
    simp only at h
    split at h
    · cases h
    · cases h
    · rename_i u _
      split at h
      · cases h
      · split at h
        · cases h
        · rename_i h1 h2
          injection h with h
          subst h
          split <;> omega

/-- The result's own block, as it was laid. -/
structure RB (w : World) (p : Nat) : Prop where
  lt : p < w.heap.size
  c0 : w.cell? ⟨p, 0, none⟩ = some (.int .i64 0)
  c1 : w.cell? ⟨p, 1, none⟩ = some (.int .i64 0)
  f0 : w.frozen? ⟨p, 0, none⟩ = false
  f1 : w.frozen? ⟨p, 1, none⟩ = false
theorem RB.below {w w' : World} {p : Nat} (h : RB w p) (hb : Below w.heap.size w w') : RB w' p :=
  ⟨Nat.lt_of_lt_of_le h.lt hb.size, (hb.cell h.lt).trans h.c0, (hb.cell h.lt).trans h.c1, (hb.frozen h.lt).trans h.f0, (hb.frozen h.lt).trans h.f1⟩
theorem RB.laid (w : World) (t : TypeId) : RB (w.alloc (.cells #[.int .i64 0, .int .i64 0] t)) w.heap.size :=
  ⟨by show w.heap.size < (w.heap.push _).size; simp, by simp [go_sem], by simp [go_sem], by simp [go_sem], by simp [go_sem]⟩
set_option maxRecDepth 10000 in
set_option maxHeartbeats 4000000 in
theorem parse_yes (l : List UInt8) (hl : l.length ≤ 100) (n d : Int) (h1 : atoiAll (topOf l) = .ok n) (h2 : atoiAll (botOf l) = .ok d) (w : World) (hw : EnvW w) (b : Bool) (hb : decide (textS n d = l) = b) :
    Calls Tryd.prog 7 #[st l] w fun e w' => e = .returned (if b then .tuple #[.agg #[.int .i64 n, .int .i64 d], .int .i64 0] else .tuple #[.agg #[.int .i64 0, .int .i64 0], .int .i64 3]) ∧ Below w.heap.size w w' := by
  obtain ⟨n0, n1⟩ := atoiAll_range h1
  obtain ⟨d0, d1⟩ := atoiAll_range h2
  obtain ⟨c1, c2⟩ := cut_len l hl
  have HW := box hw
  have CU := fun w h => box (cut_any l hl w h)
  have TX := fun w h => box (text_any n d n0 n1 d0 d1 w h)
  unfold topOf at h1
  unfold botOf at h2
  have A1 := fun w => box (atoi_ok c1 h1 w)
  have hcb : (textS n d == l) = b := by
    subst hb
    by_cases he : textS n d = l
    · rw [he]; simp
    · rw [decide_eq_false he]; simpa using he
  generalize textS n d = tl at TX hcb
  clear hw h1 hb
  cases hsl : (cut l [47]).2.2 with
  | true =>
    rw [hsl, if_pos rfl] at h2
    have A2 := fun w => box (atoi_ok c2 h2 w)
    rw [hsl] at CU
    generalize (cut l [47]).1 = t1 at CU A1
    generalize (cut l [47]).2.1 = t2 at CU A2
    clear h2 c1 c2
    go_enter Tryd.func7, Tryd.ntmps7
    go_wp2_with fail
    have R := box (RB.laid w 23)
    have kb := (Below.refl w.heap.size w).alloc (Nat.le_refl _) (.cells #[.int .i64 0, .int .i64 0] 23)
    refine (CU _ (HW.out.below kb)).out.mono ?_
    rintro e w1 ⟨rfl, hb1⟩
    replace R := box (R.out.below hb1)
    replace kb : Below w.heap.size w w1 := kb.trans (hb1.mono kb.size)
    clear hb1
    go_wp2_with fail
    refine (A1 _).out.mono ?_
    rintro e w2 ⟨rfl, hb2⟩
    replace R := box (R.out.below hb2)
    replace kb : Below w.heap.size w w2 := kb.trans (hb2.mono kb.size)
    clear hb2
    go_wp2_with fail
    refine (A2 _).out.mono ?_
    rintro e w3 ⟨rfl, hb3⟩
    replace R := box (R.out.below hb3)
    replace kb : Below w.heap.size w w3 := kb.trans (hb3.mono kb.size)
    clear hb3
    go_wp2_with fail
    replace R := box (R.out.below ((Below.refl w3.heap.size w3).alloc (Nat.le_refl _) (.cells #[.int .i64 n, .int .i64 d] 23)))
    replace kb := kb.alloc kb.size (.cells #[.int .i64 n, .int .i64 d] 23)
    refine (TX _ (HW.out.below kb).tab).out.mono ?_
    rintro e w4 ⟨rfl, hb4⟩
    have q0 : w4.cell? ⟨w3.heap.size, 0, none⟩ = some (.int .i64 n) := keepb hb4 (by simp [go_sem])
    have q1 : w4.cell? ⟨w3.heap.size, 1, none⟩ = some (.int .i64 d) := keepb hb4 (by simp [go_sem])
    replace R := box (R.out.below hb4)
    replace kb : Below w.heap.size w w4 := kb.trans (hb4.mono kb.size)
    clear hb4
    obtain ⟨_, c0, c1, f0, f1⟩ := R.out
    cases b with
    | true =>
      go_wp2_with fail
      refine bodyPost_ret (v := .tuple #[.agg #[.int .i64 n, .int .i64 d], .int .i64 0]) (by simp [results, Tryd.results7, go_sem, *]) rfl ⟨rfl, ?_⟩
      exact (kb.setCell (Nat.le_refl _) _).setCell (Nat.le_refl _) _
    | false =>
      go_wp2_with fail
      refine bodyPost_ret (v := .tuple #[.agg #[.int .i64 0, .int .i64 0], .int .i64 3]) (by simp [results, Tryd.results7, go_sem, *]) rfl ⟨rfl, ?_⟩
      exact (kb.setCell (Nat.le_refl _) _).setCell (Nat.le_refl _) _
  | false =>
    rw [hsl] at h2
    have h2' : atoiAll [49] = .ok d := h2
    have A2 := fun w => box (atoi_ok (l := [49]) (by decide) h2' w)
    rw [hsl] at CU
    generalize (cut l [47]).1 = t1 at CU A1
    generalize (cut l [47]).2.1 = t2 at CU
    clear h2 h2' c1 c2
    go_enter Tryd.func7, Tryd.ntmps7
    go_wp2_with fail
    have R := box (RB.laid w 23)
    have kb := (Below.refl w.heap.size w).alloc (Nat.le_refl _) (.cells #[.int .i64 0, .int .i64 0] 23)
    refine (CU _ (HW.out.below kb)).out.mono ?_
    rintro e w1 ⟨rfl, hb1⟩
    replace R := box (R.out.below hb1)
    replace kb : Below w.heap.size w w1 := kb.trans (hb1.mono kb.size)
    clear hb1
    go_wp2_with fail
    refine (A1 _).out.mono ?_
    rintro e w2 ⟨rfl, hb2⟩
    replace R := box (R.out.below hb2)
    replace kb : Below w.heap.size w w2 := kb.trans (hb2.mono kb.size)
    clear hb2
    go_wp2_with fail
    refine (A2 _).out.mono ?_
    rintro e w3 ⟨rfl, hb3⟩
    replace R := box (R.out.below hb3)
    replace kb : Below w.heap.size w w3 := kb.trans (hb3.mono kb.size)
    clear hb3
    go_wp2_with fail
    replace R := box (R.out.below ((Below.refl w3.heap.size w3).alloc (Nat.le_refl _) (.cells #[.int .i64 n, .int .i64 d] 23)))
    replace kb := kb.alloc kb.size (.cells #[.int .i64 n, .int .i64 d] 23)
    refine (TX _ (HW.out.below kb).tab).out.mono ?_
    rintro e w4 ⟨rfl, hb4⟩
    have q0 : w4.cell? ⟨w3.heap.size, 0, none⟩ = some (.int .i64 n) := keepb hb4 (by simp [go_sem])
    have q1 : w4.cell? ⟨w3.heap.size, 1, none⟩ = some (.int .i64 d) := keepb hb4 (by simp [go_sem])
    replace R := box (R.out.below hb4)
    replace kb : Below w.heap.size w w4 := kb.trans (hb4.mono kb.size)
    clear hb4
    obtain ⟨_, c0, c1, f0, f1⟩ := R.out
    cases b with
    | true =>
      go_wp2_with fail
      refine bodyPost_ret (v := .tuple #[.agg #[.int .i64 n, .int .i64 d], .int .i64 0]) (by simp [results, Tryd.results7, go_sem, *]) rfl ⟨rfl, ?_⟩
      exact (kb.setCell (Nat.le_refl _) _).setCell (Nat.le_refl _) _
    | false =>
      go_wp2_with fail
      refine bodyPost_ret (v := .tuple #[.agg #[.int .i64 0, .int .i64 0], .int .i64 3]) (by simp [results, Tryd.results7, go_sem, *]) rfl ⟨rfl, ?_⟩
      exact (kb.setCell (Nat.le_refl _) _).setCell (Nat.le_refl _) _

set_option maxRecDepth 10000 in
set_option maxHeartbeats 4000000 in
theorem parse_nn (l : List UInt8) (hl : l.length ≤ 100) (h1 : ∀ v, atoiAll (topOf l) ≠ .ok v) (h2 : ∀ v, atoiAll (botOf l) ≠ .ok v) (w : World) (hw : EnvW w) :
    Calls Tryd.prog 7 #[st l] w fun e w' => e = .returned (.tuple #[.agg #[.int .i64 0, .int .i64 0], .int .i64 3]) ∧ Below w.heap.size w w' := by
  obtain ⟨c1, c2⟩ := cut_len l hl
  have HW := box hw
  have CU := fun w h => box (cut_any l hl w h)
  unfold topOf at h1
  unfold botOf at h2
  have A1 := fun w h => box (atoi_no c1 h1 w h)
  clear hw h1
  cases hsl : (cut l [47]).2.2 with
  | true =>
    simp only [hsl, if_true] at h2
    have A2 := fun w h => box (atoi_no c2 h2 w h)
    rw [hsl] at CU
    generalize (cut l [47]).1 = t1 at CU A1
    generalize (cut l [47]).2.1 = t2 at CU A2
    clear h2 c1 c2
    go_enter Tryd.func7, Tryd.ntmps7
    go_wp2_with fail
    have R := box (RB.laid w 23)
    have kb := (Below.refl w.heap.size w).alloc (Nat.le_refl _) (.cells #[.int .i64 0, .int .i64 0] 23)
    refine (CU _ (HW.out.below kb)).out.mono ?_
    rintro e w1 ⟨rfl, hb1⟩
    replace R := box (R.out.below hb1)
    replace kb : Below w.heap.size w w1 := kb.trans (hb1.mono kb.size)
    clear hb1
    go_wp2_with fail
    refine (A1 _ (HW.out.below kb)).out.mono ?_
    rintro e w2 ⟨x1, N1, rfl, hb2⟩
    replace R := box (R.out.below hb2)
    replace kb : Below w.heap.size w w2 := kb.trans (hb2.mono kb.size)
    clear hb2
    go_wp2_with fail
    refine (A2 _ (HW.out.below kb)).out.mono ?_
    rintro e w3 ⟨x2, N2, rfl, hb3⟩
    replace R := box (R.out.below hb3)
    replace kb : Below w.heap.size w w3 := kb.trans (hb3.mono kb.size)
    clear hb3
    obtain ⟨_, c0, c1, f0, f1⟩ := R.out
    go_wp2_with fail
    refine bodyPost_ret (v := .tuple #[.agg #[.int .i64 0, .int .i64 0], .int .i64 3]) (by simp [results, Tryd.results7, go_sem, *]) rfl ⟨rfl, ?_⟩
    exact (kb.setCell (Nat.le_refl _) _).setCell (Nat.le_refl _) _
  | false =>
    simp only [hsl] at h2
    exact absurd rfl (h2 1)

set_option maxRecDepth 10000 in
set_option maxHeartbeats 4000000 in
theorem parse_ny (l : List UInt8) (hl : l.length ≤ 100) (n : Int) (h1 : ∀ v, atoiAll (topOf l) ≠ .ok v) (h2 : atoiAll (botOf l) = .ok n) (w : World) (hw : EnvW w) :
    Calls Tryd.prog 7 #[st l] w fun e w' => e = .returned (.tuple #[.agg #[.int .i64 0, .int .i64 0], .int .i64 3]) ∧ Below w.heap.size w w' := by
  obtain ⟨c1, c2⟩ := cut_len l hl
  have HW := box hw
  have CU := fun w h => box (cut_any l hl w h)
  unfold topOf at h1
  unfold botOf at h2
  have A1 := fun w h => box (atoi_no c1 h1 w h)
  clear hw h1
  cases hsl : (cut l [47]).2.2 with
  | true =>
    rw [hsl, if_pos rfl] at h2
    have A2 := fun w => box (atoi_ok c2 h2 w)
    rw [hsl] at CU
    generalize (cut l [47]).1 = t1 at CU A1
    generalize (cut l [47]).2.1 = t2 at CU A2
    clear h2 c1 c2
    go_enter Tryd.func7, Tryd.ntmps7
    go_wp2_with fail
    have R := box (RB.laid w 23)
    have kb := (Below.refl w.heap.size w).alloc (Nat.le_refl _) (.cells #[.int .i64 0, .int .i64 0] 23)
    refine (CU _ (HW.out.below kb)).out.mono ?_
    rintro e w1 ⟨rfl, hb1⟩
    replace R := box (R.out.below hb1)
    replace kb : Below w.heap.size w w1 := kb.trans (hb1.mono kb.size)
    clear hb1
    go_wp2_with fail
    refine (A1 _ (HW.out.below kb)).out.mono ?_
    rintro e w2 ⟨x1, N1, rfl, hb2⟩
    replace R := box (R.out.below hb2)
    replace kb : Below w.heap.size w w2 := kb.trans (hb2.mono kb.size)
    clear hb2
    go_wp2_with fail
    refine (A2 _).out.mono ?_
    rintro e w3 ⟨rfl, hb3⟩
    replace R := box (R.out.below hb3)
    replace kb : Below w.heap.size w w3 := kb.trans (hb3.mono kb.size)
    clear hb3
    obtain ⟨_, c0, c1, f0, f1⟩ := R.out
    go_wp2_with fail
    refine bodyPost_ret (v := .tuple #[.agg #[.int .i64 0, .int .i64 0], .int .i64 3]) (by simp [results, Tryd.results7, go_sem, *]) rfl ⟨rfl, ?_⟩
    exact (kb.setCell (Nat.le_refl _) _).setCell (Nat.le_refl _) _
  | false =>
    rw [hsl] at h2
    have h2' : atoiAll [49] = .ok n := h2
    have A2 := fun w => box (atoi_ok (l := [49]) (by decide) h2' w)
    rw [hsl] at CU
    generalize (cut l [47]).1 = t1 at CU A1
    generalize (cut l [47]).2.1 = t2 at CU
    clear h2 h2' c1 c2
    go_enter Tryd.func7, Tryd.ntmps7
    go_wp2_with fail
    have R := box (RB.laid w 23)
    have kb := (Below.refl w.heap.size w).alloc (Nat.le_refl _) (.cells #[.int .i64 0, .int .i64 0] 23)
    refine (CU _ (HW.out.below kb)).out.mono ?_
    rintro e w1 ⟨rfl, hb1⟩
    replace R := box (R.out.below hb1)
    replace kb : Below w.heap.size w w1 := kb.trans (hb1.mono kb.size)
    clear hb1
    go_wp2_with fail
    refine (A1 _ (HW.out.below kb)).out.mono ?_
    rintro e w2 ⟨x1, N1, rfl, hb2⟩
    replace R := box (R.out.below hb2)
    replace kb : Below w.heap.size w w2 := kb.trans (hb2.mono kb.size)
    clear hb2
    go_wp2_with fail
    refine (A2 _).out.mono ?_
    rintro e w3 ⟨rfl, hb3⟩
    replace R := box (R.out.below hb3)
    replace kb : Below w.heap.size w w3 := kb.trans (hb3.mono kb.size)
    clear hb3
    obtain ⟨_, c0, c1, f0, f1⟩ := R.out
    go_wp2_with fail
    refine bodyPost_ret (v := .tuple #[.agg #[.int .i64 0, .int .i64 0], .int .i64 3]) (by simp [results, Tryd.results7, go_sem, *]) rfl ⟨rfl, ?_⟩
    exact (kb.setCell (Nat.le_refl _) _).setCell (Nat.le_refl _) _

set_option maxRecDepth 10000 in
set_option maxHeartbeats 4000000 in
theorem parse_yn (l : List UInt8) (hl : l.length ≤ 100) (n : Int) (h1 : atoiAll (topOf l) = .ok n) (h2 : ∀ v, atoiAll (botOf l) ≠ .ok v) (w : World) (hw : EnvW w) :
    Calls Tryd.prog 7 #[st l] w fun e w' => e = .returned (.tuple #[.agg #[.int .i64 0, .int .i64 0], .int .i64 3]) ∧ Below w.heap.size w w' := by
  obtain ⟨c1, c2⟩ := cut_len l hl
  have HW := box hw
  have CU := fun w h => box (cut_any l hl w h)
  unfold topOf at h1
  unfold botOf at h2
  have A1 := fun w => box (atoi_ok c1 h1 w)
  clear hw h1
  cases hsl : (cut l [47]).2.2 with
  | true =>
    simp only [hsl, if_true] at h2
    have A2 := fun w h => box (atoi_no c2 h2 w h)
    rw [hsl] at CU
    generalize (cut l [47]).1 = t1 at CU A1
    generalize (cut l [47]).2.1 = t2 at CU A2
    clear h2 c1 c2
    go_enter Tryd.func7, Tryd.ntmps7
    go_wp2_with fail
    have R := box (RB.laid w 23)
    have kb := (Below.refl w.heap.size w).alloc (Nat.le_refl _) (.cells #[.int .i64 0, .int .i64 0] 23)
    refine (CU _ (HW.out.below kb)).out.mono ?_
    rintro e w1 ⟨rfl, hb1⟩
    replace R := box (R.out.below hb1)
    replace kb : Below w.heap.size w w1 := kb.trans (hb1.mono kb.size)
    clear hb1
    go_wp2_with fail
    refine (A1 _).out.mono ?_
    rintro e w2 ⟨rfl, hb2⟩
    replace R := box (R.out.below hb2)
    replace kb : Below w.heap.size w w2 := kb.trans (hb2.mono kb.size)
    clear hb2
    go_wp2_with fail
    refine (A2 _ (HW.out.below kb)).out.mono ?_
    rintro e w3 ⟨x2, N2, rfl, hb3⟩
    replace R := box (R.out.below hb3)
    replace kb : Below w.heap.size w w3 := kb.trans (hb3.mono kb.size)
    clear hb3
    obtain ⟨_, c0, c1, f0, f1⟩ := R.out
    go_wp2_with fail
    refine bodyPost_ret (v := .tuple #[.agg #[.int .i64 0, .int .i64 0], .int .i64 3]) (by simp [results, Tryd.results7, go_sem, *]) rfl ⟨rfl, ?_⟩
    exact (kb.setCell (Nat.le_refl _) _).setCell (Nat.le_refl _) _
  | false =>
    simp only [hsl] at h2
    exact absurd rfl (h2 1)
end Go.Proofs.YtlglagihekadhaaDoor
