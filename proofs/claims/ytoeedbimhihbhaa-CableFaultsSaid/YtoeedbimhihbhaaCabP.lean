/- CableFaults: its walk. -/
import Derived.Test.YtoeedbimhihbhaaCabMb
namespace Go.Proofs.Ytoeedbimhihbhaa
open Go.RowKit

theorem theF_one (f : Ft) (x : Int) : theF [f] x = if f.at_ = x then f else ⟨0, 0, 0⟩ := by
  unfold theF
  by_cases h : f.at_ = x <;> simp [h]
theorem sendR_double {s s' : Cab} {xs : List Nat} {code : Int} (hk3 : (theF s.fs s.sent).kind = 3) (hup : s.up = true) (hl : s.fl.length < 63) (h : sendR s xs s' code) :
    code = 0 ∧ ∃ f1 f2 : Fl, (f1.xs = xs ∧ f1.t = s.time + s.d) ∧ (f2.xs = xs ∧ f2.t = s.time + s.d) ∧ s' = ⟨s.d, s.fa, s.fc, s.fs, s.up, s.time, s.sent + 1, s.fl ++ [f1, f2], s.lost⟩ := by
  unfold sendR at h
  rw [if_neg (fun h => h.elim (fun h => by rw [hup] at h; cases h) (fun h => by rw [hk3] at h; cases h)), if_pos hk3, if_neg (by omega)] at h
  obtain ⟨news, h1, h2, h3, h4⟩ := h
  have hd : damage (theF s.fs s.sent) xs = xs := by unfold damage; rw [if_neg (by rw [hk3]; decide)]
  rw [hd] at h2
  match news, h1 with
  | [f1, f2], _ => exact ⟨h4, f1, f2, h2 f1 (by simp), h2 f2 (by simp), h3⟩
theorem ok_one_fault (K G : Int) (h1 : K = 1 ∨ K = 2 ∨ K = 3) (hG : 0 ≤ G) : okF [⟨1, K, G⟩] = true := by
  show (okOne (-1) ⟨1, K, G⟩ && true) = true
  unfold okOne
  rcases h1 with rfl | rfl | rfl <;> simp <;> omega

/-- How many of the lowest bits of a number are ones. -/
def popF : Nat → Nat → Nat
  | 0, _ => 0
  | k + 1, x => x % 2 + popF k (x / 2)
theorem pop_step : ∀ x, x < 64 → popF 6 x = x % 2 + popF 6 (x / 2) := by decide
theorem pop_le : ∀ x, x < 64 → popF 6 x ≤ 6 := by decide
theorem pop_pow : ∀ r, r < 6 → 2 ^ r < 64 ∧ popF 6 (2 ^ r) = 1 := by decide
theorem xor_back (a p : Nat) : (a ^^^ p) ^^^ a = p := by rw [Nat.xor_comm a p, Nat.xor_assoc, Nat.xor_self, Nat.xor_zero]
theorem flip_bits (xs : List Nat) (y i : Nat) (hi : i < xs.length) : ((flipA xs y).getD i 0 ^^^ xs.getD i 0) < 64 ∧ popF 6 ((flipA xs y).getD i 0 ^^^ xs.getD i 0) = (if i = y % (6 * xs.length) / 6 then 1 else 0) := by
  unfold flipA
  rw [if_neg (by omega)]
  unfold flipS
  generalize y % (6 * xs.length) = k
  by_cases h : i = k / 6
  · subst h
    rw [if_pos rfl]
    have e : (xs.set (k / 6) (xs.getD (k / 6) 0 ^^^ 2 ^ (k % 6))).getD (k / 6) 0 = xs.getD (k / 6) 0 ^^^ 2 ^ (k % 6) := by
      rw [List.getD_eq_getElem?_getD, List.getElem?_set_self hi]; rfl
    rw [e, xor_back]
    exact pop_pow _ (Nat.mod_lt _ (by decide))
  · rw [if_neg h]
    have e : (xs.set (k / 6) (xs.getD (k / 6) 0 ^^^ 2 ^ (k % 6))).getD i 0 = xs.getD i 0 := by
      rw [List.getD_eq_getElem?_getD, List.getElem?_set_ne (fun h2 => h h2.symm), ← List.getD_eq_getElem?_getD]
    rw [e, Nat.xor_self]
    exact ⟨by decide, rfl⟩

set_option maxRecDepth 100000 in
set_option maxHeartbeats 8000000 in
theorem faults_any (y0 y1 : Nat) (hy0 : y0 < 256) (hy1 : y1 < 65536) (a : Option Addr) (n c : Nat) (xs : List Nat) (hn : xs.length = n) (hx : ∀ x ∈ xs, x < 256) (hnil : a = none → c = 0) (w : World) (hin : In w a xs) :
    Calls Try.prog 7 #[.int .u8 y0, .int .u16 y1, .slice a n c] w fun e w' => e = .returned (.bool true) ∧ Below w.heap.size w w' := by
  have HIN := box hin
  have HX := box hx
  have HNIL := box hnil
  clear hin hx hnil
  go_enter Try.func7, Try.ntmps7
  go_wp2_with fail
  refine (awake_any w).mono ?_
  rintro e w1 ⟨rfl, hb⟩
  have HB := box hb
  by_cases hbig : 60 < n
  · have d1 : decide ((60 : Int) < (n : Int)) = true := decide_eq_true (by omega)
    go_wp2_with fail
    refine (awake_any w1).mono ?_
    rintro e w2 ⟨rfl, hb2⟩
    go_wp2_with fail
    go_ret
    exact ⟨rfl, HB.out.trans (hb2.mono HB.out.size)⟩
  have d1 : decide ((60 : Int) < (n : Int)) = false := decide_eq_false (by omega)
  obtain ⟨K, hK⟩ : ∃ K, 1 + y0 % 3 = K := ⟨_, rfl⟩
  have eK : (1 : Int) + (y0 : Int) % 3 = (K : Int) := by omega
  have lK : K = 1 ∨ K = 2 ∨ K = 3 := by omega
  clear hK
  obtain ⟨m, hm⟩ : ∃ m, w1.heap.size = m := ⟨_, rfl⟩
  have k2 : Below w1.heap.size w1 (w1.alloc (.cells #[.int .i64 1, .int .i64 K, .int .i64 y1] 53)) := (Below.refl _ _).alloc (Nat.le_refl _) _
  have s2 := size_alloc' w1 (.cells #[.int .i64 1, .int .i64 K, .int .i64 y1] 53)
  have FC := box (ft_cells w1 ⟨1, K, y1⟩ m hm.symm)
  simp only at FC
  have HM := box hm
  have HB2 := box (HB.out.trans (k2.mono HB.out.size))
  clear hb
  go_upto_region 4 with fail
  rw [hm] at s2
  generalize w1.alloc (.cells #[.int .i64 1, .int .i64 K, .int .i64 y1] 53) = w2 at k2 s2 FC HB2 ⊢
  obtain ⟨f0, f1, f2, ff⟩ := FC.out
  have k3 : Below w2.heap.size w2 (w2.alloc (.cells #[.int .i64 1, .int .i64 K, .int .i64 y1] 53)) := (Below.refl _ _).alloc (Nat.le_refl _) _
  have NW := box (new_ok 1 (by decide) (by decide) (some ⟨m + 1, 0, none⟩) 1 1 [⟨1, K, y1⟩] rfl (by decide) (fun h => by cases h) (ok_one_fault K y1 (by omega) (by omega)) (w2.alloc (.cells #[.int .i64 1, .int .i64 K, .int .i64 y1] 53)) (.inr ⟨m + 1, 0, rfl, fun i hi => by
    have hi0 : i = 0 := by simpa using hi
    subst hi0
    obtain ⟨g0, g1, g2, _⟩ := ft_cells w2 ⟨1, K, y1⟩ (m + 1) s2.symm
    exact ⟨g0, g1, g2⟩⟩))
  have K3 := box k3
  go_wp2_with fail
  refine NW.out.mono ?_
  rintro e w3 ⟨g, fa, fc, rfl, hb3, x3⟩
  obtain ⟨B, hBB⟩ : ∃ B, (w2.alloc (.cells #[.int .i64 1, .int .i64 K, .int .i64 y1] 53)).heap.size = B := ⟨_, rfl⟩
  rw [hBB] at hb3 x3
  have HSB := box (show B = m + 2 by rw [← hBB, size_alloc', s2])
  have X3 := box x3
  have KB := box (show Below B (w2.alloc (.cells #[.int .i64 1, .int .i64 K, .int .i64 y1] 53)) w3 from hb3)
  have HBW := box (show Below w.heap.size w w3 from (HB2.out.trans (K3.out.mono HB2.out.size)).trans (hb3.mono (by rw [← hBB]; exact (HB2.out.trans (K3.out.mono HB2.out.size)).size)))
  have HW0 := box (show w.heap.size ≤ m from by rw [← HM.out]; exact HB.out.size)
  have HBS := box (show B ≤ w3.heap.size by rw [← hBB]; exact hb3.size)
  have Y1 := box (show w3.cell? ⟨m, 1, none⟩ = some (.int .i64 K) from by
    have h1 : (w2.alloc (.cells #[.int .i64 1, .int .i64 K, .int .i64 y1] 53)).cell? ⟨m, 1, none⟩ = some (.int .i64 K) := keepa _ f1
    rw [hb3.cell (p := ⟨m, 1, none⟩) (show m < B by rw [HSB.out]; omega)]
    exact h1)
  have HIN3 := box (HIN.out.below HBW.out)
  have HZA := box (show xs ≠ [] → ∀ q, a = some q → q.block < B from fun hx q hq => by
    have h := HIN.out
    rw [hq] at h
    have := in_lt h hx
    have := HW0.out
    rw [HSB.out]; omega)
  have hn60 : n ≤ 60 := by omega
  have HN := box hn
  clear NW k2 k3 s2 f0 f1 f2 ff x3 hb3 hBB FC HB2 K3 HB hm hbig hn
  -- the first
  have SD1 := box (send_any B (fun k => k < B) g _ _ w3 (fun k h => Nat.lt_of_lt_of_le h HBS.out) X3.out a n c xs HN.out HX.out (by omega) HIN3.out HNIL.out HZA.out (by simp) (by simp) (by simp) (by simp))
  go_wp2_with fail
  refine SD1.out.mono ?_
  rintro e w4 ⟨v4, s4, code, rfl, hr, x4, st4⟩
  obtain ⟨rfl, p1, e1, e2, rfl⟩ := sendR_plain (by rw [theF_one]; simp) (by rw [theF_one]; simp) rfl (by simp) hr
  rw [theF_one] at e1
  have E1 := box (show p1.xs = xs from e1)
  have T1 := box (show p1.t = 1 from e2)
  have X4 := box (show CabAt B (fun k => k < B) w4 g v4 ⟨1, fa, fc, [⟨1, K, y1⟩], true, 0, 1, [p1], 0⟩ from x4)
  have S4 := box st4
  have B4 := box (X3.out.steps st4 (Below.refl B w3))
  have HIN4 := box (in_same HIN3.out (fun hx q hq => B4.out.block _ (HZA.out hx q hq)))
  clear x4 st4 hr e1 e2 SD1
  have SD2 := box (send_any B (fun k => k < B) g _ _ w4 (fun k h => Nat.lt_of_lt_of_le h (Nat.le_trans HBS.out B4.out.size)) X4.out a n c xs HN.out HX.out (by omega) HIN4.out HNIL.out HZA.out (by simp) (by simp) (by simp) (by simp))
  rcases lK with rfl | rfl | rfl
  · go_wp2_with fail
    refine SD2.out.mono ?_
    rintro e w5 ⟨v5, s5, code, rfl, hr, x5, st5⟩
    obtain ⟨rfl, rfl⟩ := sendR_drop (by rw [theF_one]; simp) hr
    have X5 := box (show CabAt B (fun k => k < B) w5 g v5 ⟨1, fa, fc, [⟨1, 1, y1⟩], true, 0, 2, [p1], 1⟩ from x5)
    have B5 := box (X4.out.steps st5 B4.out)
    have HIN5 := box (in_same HIN3.out (fun hx q hq => B5.out.block _ (HZA.out hx q hq)))
    clear x5 st5 hr SD2
    have SD3 := box (send_any B (fun k => k < B) g _ _ w5 (fun k h => Nat.lt_of_lt_of_le h (Nat.le_trans HBS.out B5.out.size)) X5.out a n c xs HN.out HX.out (by omega) HIN5.out HNIL.out HZA.out (by simp) (by simp) (by simp) (by simp))
    go_wp2_with fail
    refine SD3.out.mono ?_
    rintro e w6 ⟨v6, s6, code, rfl, hr, x6, st6⟩
    obtain ⟨rfl, p3, e1, e2, rfl⟩ := sendR_plain (by rw [theF_one]; simp) (by rw [theF_one]; simp) rfl (by simp) hr
    rw [theF_one] at e1
    have E3 := box (show p3.xs = xs from e1)
    have T3 := box (show p3.t = 1 from e2)
    have X6 := box (show CabAt B (fun k => k < B) w6 g v6 ⟨1, fa, fc, [⟨1, 1, y1⟩], true, 0, 3, [p1] ++ [p3], 1⟩ from x6)
    have B6 := box (X5.out.steps st6 B5.out)
    clear x6 st6 hr e1 e2 SD3
    have DU := box (show due ([p1] ++ [p3]) 1 = ([p1] ++ [p3]).length from due_all _ 1 (fun i hi => by
      have h : ∀ f ∈ [p1] ++ [p3], f.t ≤ 1 := fun f hf => by
        simp at hf
        have t1 := T1.out; have t3 := T3.out
        rcases hf with rfl | rfl <;> omega
      exact h _ (List.getElem_mem hi)))
    go_wp2_with fail
    refine (tick_any B _ g v6 _ w6 X6.out (by simp)).mono ?_
    rintro e w7 ⟨v7, a7, c7, he, hrow, x7, st7, _, hsym⟩
    have he : e = .returned (.slice a7 (due ([p1] ++ [p3]) 1) c7) := he
    have hrow : w7.ownsRow w6.heap.size 36 1 (.slice a7 (due ([p1] ++ [p3]) 1) c7) (due ([p1] ++ [p3]) 1) ((([p1] ++ [p3]).take (due ([p1] ++ [p3]) 1)).map slV) := hrow
    have hsym : ∀ f ∈ [p1] ++ [p3], SymIn _ w7 f.a f.c f.xs := hsym
    have x7 : CabAt B (fun k => k < B) w7 g v7 ⟨1, fa, fc, [⟨1, 1, y1⟩], true, 1, 3, ([p1] ++ [p3]).drop (due ([p1] ++ [p3]) 1), 1⟩ := x7
    rw [DU.out] at he hrow x7
    rw [List.take_length] at hrow
    subst he
    have B7 := box (X6.out.steps st7 B6.out)
    have HIN7 := box (in_same HIN3.out (fun hx q hq => B7.out.block _ (HZA.out hx q hq)))
    have Y7 : w7.cell? ⟨m, 1, none⟩ = some (.int .i64 1) := (B7.out.cell (p := ⟨m, 1, none⟩) (show m < B by rw [HSB.out]; omega)).trans Y1.out
    obtain ⟨b, rfl, hb6, hlt7, hc⟩ := rows_at hrow (by simp)
    have LO := box (lost_any _ _ _ _ _ _ (x7.keep ((Below.refl _ _).drew)))
    have HLM := box (show m < w7.heap.size from World.block_lt_of_cell? w7 ⟨m, 1, none⟩ Y7)
    have z0 : w7.cell? ⟨b, 0, none⟩ = some (.slice p1.a n p1.c) := by
      have h := hc 0 (by simp)
      have e : p1.xs.length = n := by rw [E1.out, HN.out]
      simp at h
      rw [h]; show some (Value.slice p1.a p1.xs.length p1.c) = _; rw [e]
    have cv0 : (convert 36 9 (.slice p1.a n p1.c)).run Try.prog w7.drew = .ok (.string (strOf xs)) w7.drew := conv_any HN.out ((by rw [← E1.out]; exact (hsym p1 (by simp)).inn : In w7 p1.a xs).below ((Below.refl _ _).drew))
    have z1 : w7.cell? ⟨b, 1, none⟩ = some (.slice p3.a n p3.c) := by
      have h := hc 1 (by simp)
      have e : p3.xs.length = n := by rw [E3.out, HN.out]
      simp at h
      rw [h]; show some (Value.slice p3.a p3.xs.length p3.c) = _; rw [e]
    have cv1 : (convert 36 9 (.slice p3.a n p3.c)).run Try.prog w7.drew = .ok (.string (strOf xs)) w7.drew := conv_any HN.out ((by rw [← E3.out]; exact (hsym p3 (by simp)).inn : In w7 p3.a xs).below ((Below.refl _ _).drew))
    have cvd : (convert 36 9 (.slice a n c)).run Try.prog w7.drew = .ok (.string (strOf xs)) w7.drew := conv_any HN.out (HIN7.out.below ((Below.refl _ _).drew))
    have be : ((strOf xs).toList == (strOf xs).toList) = true := by simp
    have bne' : ((strOf xs).toList != (strOf xs).toList) = false := by simp
    clear hc hsym hrow x7 st7
    go_wp2_with fail
    refine wp_region_held_drew (S := fun w' => w' = w7.drew) (by kernel_rfl) (rfl) (fun hHeld => ?_)
    refine wpAnyH_take (i := 0) (oi := { dst := some 61, op := Go.Op.move (Go.Operand.tmp 10), type := 42, pos := "law.go:181", after := #[], guard := none }) (v := ?_) rfl (by kernel_rfl) (by kernel_rfl) (by kernel_rfl) (fun _ _ _ h => h) (Or.inl ⟨by rfl, ?_⟩) (by assumption) ?_
    rotate_left
    · (intro w hSw; (try dsimp only at hSw); subst hSw; go_simp; (try with_reducible rfl))
    simp only [Act.put, List.setIfInBounds_toArray, List.set_cons_zero, List.set_cons_succ]
    refine wpAnyH_take (i := 1) (oi := { dst := some 62, op := Go.Op.call { callee := Go.Callee.builtin Go.Builtin.len, args := #[Go.Operand.tmp 61], argTypes := #[42] }, type := 3, pos := "law.go:181", after := #[{ on := 0, ground := Go.Ground.data }], guard := none }) (v := ?_) rfl (by kernel_rfl) (by kernel_rfl) (by kernel_rfl) (fun _ _ _ h => h) (Or.inl ⟨by rfl, ?_⟩) (by assumption) ?_
    rotate_left
    · (intro w hSw; (try dsimp only at hSw); subst hSw; go_simp; (try with_reducible rfl))
    simp only [Act.put, List.setIfInBounds_toArray, List.set_cons_zero, List.set_cons_succ]
    refine wpAnyH_take (i := 2) (oi := { dst := some 63, op := Go.Op.binOp Go.BinOp.eql 3 (Go.Operand.tmp 62) (Go.Operand.const (Go.Value.int Go.IntKind.i64 2)) 3, type := 4, pos := "law.go:181", after := #[{ on := 1, ground := Go.Ground.data }], guard := none }) (v := ?_) rfl (by kernel_rfl) (by kernel_rfl) (by kernel_rfl) (fun _ _ _ h => h) (Or.inl ⟨by rfl, ?_⟩) (by assumption) ?_
    rotate_left
    · (intro w hSw; (try dsimp only at hSw); subst hSw; go_simp; (try with_reducible rfl))
    simp only [Act.put, List.setIfInBounds_toArray, List.set_cons_zero, List.set_cons_succ]
    refine wpAnyH_take (i := 3) (oi := { dst := some 64, op := Go.Op.move (Go.Operand.tmp 63), type := 4, pos := "law.go:181", after := #[{ on := 2, ground := Go.Ground.data }], guard := none }) (v := ?_) rfl (by kernel_rfl) (by kernel_rfl) (by kernel_rfl) (fun _ _ _ h => h) (Or.inl ⟨by rfl, ?_⟩) (by assumption) ?_
    rotate_left
    · (intro w hSw; (try dsimp only at hSw); subst hSw; go_simp; (try with_reducible rfl))
    simp only [Act.put, List.setIfInBounds_toArray, List.set_cons_zero, List.set_cons_succ]
    refine wpAnyH_take (i := 4) (oi := { dst := some 65, op := Go.Op.move (Go.Operand.tmp 10), type := 42, pos := "law.go:181", after := #[{ on := 3, ground := Go.Ground.guard }], guard := some (3, true) }) (v := ?_) rfl (by kernel_rfl) (by kernel_rfl) (by kernel_rfl) (fun _ _ _ h => h) (Or.inl ⟨by rfl, ?_⟩) (by assumption) ?_
    rotate_left
    · (intro w hSw; (try dsimp only at hSw); subst hSw; go_simp; (try with_reducible rfl))
    simp only [Act.put, List.setIfInBounds_toArray, List.set_cons_zero, List.set_cons_succ]
    refine wpAnyH_take (i := 5) (oi := { dst := some 66, op := Go.Op.indexAddr 42 (Go.Operand.tmp 65) (Go.Operand.const (Go.Value.int Go.IntKind.i64 0)), type := 0, pos := "law.go:181", after := #[{ on := 4, ground := Go.Ground.data }, { on := 3, ground := Go.Ground.guard }], guard := some (3, true) }) (v := ?_) rfl (by kernel_rfl) (by kernel_rfl) (by kernel_rfl) (fun _ _ _ h => h) (Or.inl ⟨by rfl, ?_⟩) (by assumption) ?_
    rotate_left
    · (intro w hSw; (try dsimp only at hSw); subst hSw; go_simp; (try with_reducible rfl))
    simp only [Act.put, List.setIfInBounds_toArray, List.set_cons_zero, List.set_cons_succ]
    refine wpAnyH_take (i := 6) (oi := { dst := some 67, op := Go.Op.load 36 (Go.Operand.tmp 66), type := 36, pos := "law.go:181", after := #[{ on := 5, ground := Go.Ground.data }, { on := 3, ground := Go.Ground.guard }], guard := some (3, true) }) (v := ?_) rfl (by kernel_rfl) (by kernel_rfl) (by kernel_rfl) (fun _ _ _ h => h) (Or.inl ⟨by rfl, ?_⟩) (by assumption) ?_
    rotate_left
    · (intro w hSw; (try dsimp only at hSw); subst hSw; go_simp; (try with_reducible rfl))
    simp only [Act.put, List.setIfInBounds_toArray, List.set_cons_zero, List.set_cons_succ]
    refine wpAnyH_take (i := 7) (oi := { dst := some 68, op := Go.Op.convert 36 9 (Go.Operand.tmp 67), type := 9, pos := "law.go:181", after := #[{ on := 6, ground := Go.Ground.data }, { on := 3, ground := Go.Ground.guard }], guard := some (3, true) }) (v := ?_) rfl (by kernel_rfl) (by kernel_rfl) (by kernel_rfl) (fun _ _ _ h => h) (Or.inl ⟨by rfl, ?_⟩) (by assumption) ?_
    rotate_left
    · (intro w hSw; (try dsimp only at hSw); subst hSw; go_simp; (try with_reducible rfl))
    simp only [Act.put, List.setIfInBounds_toArray, List.set_cons_zero, List.set_cons_succ]
    refine wpAnyH_take (i := 8) (oi := { dst := some 69, op := Go.Op.move (Go.Operand.tmp 2), type := 36, pos := "law.go:181", after := #[{ on := 3, ground := Go.Ground.guard }], guard := some (3, true) }) (v := ?_) rfl (by kernel_rfl) (by kernel_rfl) (by kernel_rfl) (fun _ _ _ h => h) (Or.inl ⟨by rfl, ?_⟩) (by assumption) ?_
    rotate_left
    · (intro w hSw; (try dsimp only at hSw); subst hSw; go_simp; (try with_reducible rfl))
    simp only [Act.put, List.setIfInBounds_toArray, List.set_cons_zero, List.set_cons_succ]
    refine wpAnyH_take (i := 9) (oi := { dst := some 70, op := Go.Op.convert 36 9 (Go.Operand.tmp 69), type := 9, pos := "law.go:181", after := #[{ on := 8, ground := Go.Ground.data }, { on := 3, ground := Go.Ground.guard }], guard := some (3, true) }) (v := ?_) rfl (by kernel_rfl) (by kernel_rfl) (by kernel_rfl) (fun _ _ _ h => h) (Or.inl ⟨by rfl, ?_⟩) (by assumption) ?_
    rotate_left
    · (intro w hSw; (try dsimp only at hSw); subst hSw; go_simp; (try with_reducible rfl))
    simp only [Act.put, List.setIfInBounds_toArray, List.set_cons_zero, List.set_cons_succ]
    refine wpAnyH_take (i := 10) (oi := { dst := some 71, op := Go.Op.binOp Go.BinOp.eql 9 (Go.Operand.tmp 68) (Go.Operand.tmp 70) 9, type := 4, pos := "law.go:181", after := #[{ on := 7, ground := Go.Ground.data }, { on := 9, ground := Go.Ground.data }, { on := 3, ground := Go.Ground.guard }], guard := some (3, true) }) (v := ?_) rfl (by kernel_rfl) (by kernel_rfl) (by kernel_rfl) (fun _ _ _ h => h) (Or.inl ⟨by rfl, ?_⟩) (by assumption) ?_
    rotate_left
    · (intro w hSw; (try dsimp only at hSw); subst hSw; go_simp; (try with_reducible rfl))
    simp only [Act.put, List.setIfInBounds_toArray, List.set_cons_zero, List.set_cons_succ]
    refine wpAnyH_take (i := 11) (oi := { dst := some 72, op := Go.Op.pick (Go.Operand.tmp 64) (Go.Operand.tmp 71) (Go.Operand.const (Go.Value.bool false)), type := 4, pos := "law.go:181", after := #[{ on := 3, ground := Go.Ground.data }, { on := 10, ground := Go.Ground.data }], guard := none }) (v := ?_) rfl (by kernel_rfl) (by kernel_rfl) (by kernel_rfl) (fun _ _ _ h => h) (Or.inl ⟨by rfl, ?_⟩) (by assumption) ?_
    rotate_left
    · (intro w hSw; (try dsimp only at hSw); subst hSw; go_simp; (try with_reducible rfl))
    simp only [Act.put, List.setIfInBounds_toArray, List.set_cons_zero, List.set_cons_succ]
    refine wpAnyH_take (i := 12) (oi := { dst := some 73, op := Go.Op.move (Go.Operand.tmp 72), type := 4, pos := "law.go:181", after := #[{ on := 11, ground := Go.Ground.data }, { on := 3, ground := Go.Ground.chain }], guard := none }) (v := ?_) rfl (by kernel_rfl) (by kernel_rfl) (by kernel_rfl) (fun _ _ _ h => h) (Or.inl ⟨by rfl, ?_⟩) (by assumption) ?_
    rotate_left
    · (intro w hSw; (try dsimp only at hSw); subst hSw; go_simp; (try with_reducible rfl))
    simp only [Act.put, List.setIfInBounds_toArray, List.set_cons_zero, List.set_cons_succ]
    refine wpAnyH_take (i := 13) (oi := { dst := some 74, op := Go.Op.move (Go.Operand.tmp 10), type := 42, pos := "law.go:181", after := #[{ on := 12, ground := Go.Ground.guard }], guard := some (12, true) }) (v := ?_) rfl (by kernel_rfl) (by kernel_rfl) (by kernel_rfl) (fun _ _ _ h => h) (Or.inl ⟨by rfl, ?_⟩) (by assumption) ?_
    rotate_left
    · (intro w hSw; (try dsimp only at hSw); subst hSw; go_simp; (try with_reducible rfl))
    simp only [Act.put, List.setIfInBounds_toArray, List.set_cons_zero, List.set_cons_succ]
    refine wpAnyH_take (i := 14) (oi := { dst := some 75, op := Go.Op.indexAddr 42 (Go.Operand.tmp 74) (Go.Operand.const (Go.Value.int Go.IntKind.i64 1)), type := 0, pos := "law.go:181", after := #[{ on := 13, ground := Go.Ground.data }, { on := 12, ground := Go.Ground.guard }], guard := some (12, true) }) (v := ?_) rfl (by kernel_rfl) (by kernel_rfl) (by kernel_rfl) (fun _ _ _ h => h) (Or.inl ⟨by rfl, ?_⟩) (by assumption) ?_
    rotate_left
    · (intro w hSw; (try dsimp only at hSw); subst hSw; go_simp; (try with_reducible rfl))
    simp only [Act.put, List.setIfInBounds_toArray, List.set_cons_zero, List.set_cons_succ]
    refine wpAnyH_take (i := 15) (oi := { dst := some 76, op := Go.Op.load 36 (Go.Operand.tmp 75), type := 36, pos := "law.go:181", after := #[{ on := 14, ground := Go.Ground.data }, { on := 12, ground := Go.Ground.guard }], guard := some (12, true) }) (v := ?_) rfl (by kernel_rfl) (by kernel_rfl) (by kernel_rfl) (fun _ _ _ h => h) (Or.inl ⟨by rfl, ?_⟩) (by assumption) ?_
    rotate_left
    · (intro w hSw; (try dsimp only at hSw); subst hSw; go_simp; (try with_reducible rfl))
    simp only [Act.put, List.setIfInBounds_toArray, List.set_cons_zero, List.set_cons_succ]
    refine wpAnyH_take (i := 16) (oi := { dst := some 77, op := Go.Op.convert 36 9 (Go.Operand.tmp 76), type := 9, pos := "law.go:181", after := #[{ on := 15, ground := Go.Ground.data }, { on := 12, ground := Go.Ground.guard }], guard := some (12, true) }) (v := ?_) rfl (by kernel_rfl) (by kernel_rfl) (by kernel_rfl) (fun _ _ _ h => h) (Or.inl ⟨by rfl, ?_⟩) (by assumption) ?_
    rotate_left
    · (intro w hSw; (try dsimp only at hSw); subst hSw; go_simp; (try with_reducible rfl))
    simp only [Act.put, List.setIfInBounds_toArray, List.set_cons_zero, List.set_cons_succ]
    refine wpAnyH_take (i := 17) (oi := { dst := some 78, op := Go.Op.move (Go.Operand.tmp 2), type := 36, pos := "law.go:181", after := #[{ on := 12, ground := Go.Ground.guard }], guard := some (12, true) }) (v := ?_) rfl (by kernel_rfl) (by kernel_rfl) (by kernel_rfl) (fun _ _ _ h => h) (Or.inl ⟨by rfl, ?_⟩) (by assumption) ?_
    rotate_left
    · (intro w hSw; (try dsimp only at hSw); subst hSw; go_simp; (try with_reducible rfl))
    simp only [Act.put, List.setIfInBounds_toArray, List.set_cons_zero, List.set_cons_succ]
    refine wpAnyH_take (i := 18) (oi := { dst := some 79, op := Go.Op.convert 36 9 (Go.Operand.tmp 78), type := 9, pos := "law.go:181", after := #[{ on := 17, ground := Go.Ground.data }, { on := 12, ground := Go.Ground.guard }], guard := some (12, true) }) (v := ?_) rfl (by kernel_rfl) (by kernel_rfl) (by kernel_rfl) (fun _ _ _ h => h) (Or.inl ⟨by rfl, ?_⟩) (by assumption) ?_
    rotate_left
    · (intro w hSw; (try dsimp only at hSw); subst hSw; go_simp; (try with_reducible rfl))
    simp only [Act.put, List.setIfInBounds_toArray, List.set_cons_zero, List.set_cons_succ]
    refine wpAnyH_take (i := 19) (oi := { dst := some 80, op := Go.Op.binOp Go.BinOp.eql 9 (Go.Operand.tmp 77) (Go.Operand.tmp 79) 9, type := 4, pos := "law.go:181", after := #[{ on := 16, ground := Go.Ground.data }, { on := 18, ground := Go.Ground.data }, { on := 12, ground := Go.Ground.guard }], guard := some (12, true) }) (v := ?_) rfl (by kernel_rfl) (by kernel_rfl) (by kernel_rfl) (fun _ _ _ h => h) (Or.inl ⟨by rfl, ?_⟩) (by assumption) ?_
    rotate_left
    · (intro w hSw; (try dsimp only at hSw); subst hSw; go_simp; (try with_reducible rfl))
    simp only [Act.put, List.setIfInBounds_toArray, List.set_cons_zero, List.set_cons_succ]
    refine wpAnyH_take (i := 20) (oi := { dst := some 81, op := Go.Op.pick (Go.Operand.tmp 73) (Go.Operand.tmp 80) (Go.Operand.const (Go.Value.bool false)), type := 4, pos := "law.go:181", after := #[{ on := 12, ground := Go.Ground.data }, { on := 19, ground := Go.Ground.data }], guard := none }) (v := ?_) rfl (by kernel_rfl) (by kernel_rfl) (by kernel_rfl) (fun _ _ _ h => h) (Or.inl ⟨by rfl, ?_⟩) (by assumption) ?_
    rotate_left
    · (intro w hSw; (try dsimp only at hSw); subst hSw; go_simp; (try with_reducible rfl))
    simp only [Act.put, List.setIfInBounds_toArray, List.set_cons_zero, List.set_cons_succ]
    refine wpAnyH_take (i := 21) (oi := { dst := some 82, op := Go.Op.move (Go.Operand.tmp 81), type := 4, pos := "law.go:181", after := #[{ on := 20, ground := Go.Ground.data }, { on := 12, ground := Go.Ground.chain }], guard := none }) (v := ?_) rfl (by kernel_rfl) (by kernel_rfl) (by kernel_rfl) (fun _ _ _ h => h) (Or.inl ⟨by rfl, ?_⟩) (by assumption) ?_
    rotate_left
    · (intro w hSw; (try dsimp only at hSw); subst hSw; go_simp; (try with_reducible rfl))
    simp only [Act.put, List.setIfInBounds_toArray, List.set_cons_zero, List.set_cons_succ]
    refine wpAnyH_take (i := 22) (oi := { dst := some 83, op := Go.Op.move (Go.Operand.tmp 8), type := 24, pos := "law.go:181", after := #[{ on := 21, ground := Go.Ground.guard }], guard := some (21, true) }) (v := ?_) rfl (by kernel_rfl) (by kernel_rfl) (by kernel_rfl) (fun _ _ _ h => h) (Or.inl ⟨by rfl, ?_⟩) (by assumption) ?_
    rotate_left
    · (intro w hSw; (try dsimp only at hSw); subst hSw; go_simp; (try with_reducible rfl))
    simp only [Act.put, List.setIfInBounds_toArray, List.set_cons_zero, List.set_cons_succ]
    refine wpAnyH_ready (rs := [23]) (by kernel_rfl) (by simp) ?_
    refine (AllReadyH.cons (o := { dst := some 84, op := Go.Op.call { callee := Go.Callee.value (Go.Operand.func 16), args := #[Go.Operand.tmp 83], argTypes := #[24] }, type := 3, pos := "law.go:181", after := #[{ on := 22, ground := Go.Ground.data }, { on := 21, ground := Go.Ground.chain }, { on := 21, ground := Go.Ground.guard }], guard := some (21, true) }) rfl (fun K hK => ?_) AllReadyH.nil)
    go_simp
    refine LO.out.mono ?_
    rintro e w8 ⟨rfl, hw8⟩
    subst hw8
    refine hK.out _ _ (rfl) (fun hHeld1 => ?_)
    clear hK K
    refine wpAnyH_take (i := 24) (oi := { dst := some 85, op := Go.Op.binOp Go.BinOp.eql 3 (Go.Operand.tmp 84) (Go.Operand.const (Go.Value.int Go.IntKind.i64 1)) 3, type := 4, pos := "law.go:181", after := #[{ on := 23, ground := Go.Ground.data }, { on := 21, ground := Go.Ground.guard }], guard := some (21, true) }) (v := ?_) rfl (by kernel_rfl) (by kernel_rfl) (by kernel_rfl) (fun _ _ _ h => h) (Or.inl ⟨by rfl, ?_⟩) (by assumption) ?_
    rotate_left
    · (intro w hSw; (try dsimp only at hSw); subst hSw; go_simp; (try with_reducible rfl))
    simp only [Act.put, List.setIfInBounds_toArray, List.set_cons_zero, List.set_cons_succ]
    refine wpAnyH_take (i := 25) (oi := { dst := some 86, op := Go.Op.pick (Go.Operand.tmp 82) (Go.Operand.tmp 85) (Go.Operand.const (Go.Value.bool false)), type := 4, pos := "law.go:181", after := #[{ on := 21, ground := Go.Ground.data }, { on := 24, ground := Go.Ground.data }], guard := none }) (v := ?_) rfl (by kernel_rfl) (by kernel_rfl) (by kernel_rfl) (fun _ _ _ h => h) (Or.inl ⟨by rfl, ?_⟩) (by assumption) ?_
    rotate_left
    · (intro w hSw; (try dsimp only at hSw); subst hSw; go_simp; (try with_reducible rfl))
    simp only [Act.put, List.setIfInBounds_toArray, List.set_cons_zero, List.set_cons_succ]
    refine wpAnyH_take (i := 26) (oi := { dst := some 6, op := Go.Op.assign (Go.Operand.tmp 86), type := 4, pos := "law.go:181", after := #[{ on := 25, ground := Go.Ground.data }, { on := 23, ground := Go.Ground.chain }, { on := 0, ground := Go.Ground.phase }, { on := 1, ground := Go.Ground.phase }, { on := 2, ground := Go.Ground.phase }, { on := 3, ground := Go.Ground.phase }, { on := 4, ground := Go.Ground.phase }, { on := 5, ground := Go.Ground.phase }, { on := 6, ground := Go.Ground.phase }, { on := 7, ground := Go.Ground.phase }, { on := 8, ground := Go.Ground.phase }, { on := 9, ground := Go.Ground.phase }, { on := 10, ground := Go.Ground.phase }, { on := 11, ground := Go.Ground.phase }, { on := 12, ground := Go.Ground.phase }, { on := 13, ground := Go.Ground.phase }, { on := 14, ground := Go.Ground.phase }, { on := 15, ground := Go.Ground.phase }, { on := 16, ground := Go.Ground.phase }, { on := 17, ground := Go.Ground.phase }, { on := 18, ground := Go.Ground.phase }, { on := 19, ground := Go.Ground.phase }, { on := 20, ground := Go.Ground.phase }, { on := 21, ground := Go.Ground.phase }, { on := 22, ground := Go.Ground.phase }, { on := 23, ground := Go.Ground.phase }, { on := 24, ground := Go.Ground.phase }, { on := 25, ground := Go.Ground.phase }], guard := none }) (v := ?_) rfl (by kernel_rfl) (by kernel_rfl) (by kernel_rfl) (fun _ _ _ h => h) (Or.inl ⟨by rfl, ?_⟩) (by assumption) ?_
    rotate_left
    · (intro w hSw; (try dsimp only at hSw); subst hSw; go_simp; (try with_reducible rfl))
    simp only [Act.put, List.setIfInBounds_toArray, List.set_cons_zero, List.set_cons_succ]
    refine wpAnyH_done (by kernel_rfl) ?_ _
    go_wp2_with fail
    go_ret
    exact ⟨by simp, (HBW.out.trans (B7.out.mono (by rw [HSB.out]; have := HW0.out; omega))).drew⟩
  · go_wp2_with fail
    refine SD2.out.mono ?_
    rintro e w5 ⟨v5, s5, code, rfl, hr, x5, st5⟩
    obtain ⟨rfl, p2, d1', d2', rfl⟩ := sendR_plain (by rw [theF_one]; simp) (by rw [theF_one]; simp) rfl (by simp) hr
    rw [theF_one] at d1'
    have E2 := box (show p2.xs = flipA xs y1 from d1')
    have T2 := box (show p2.t = 1 from d2')
    have X5 := box (show CabAt B (fun k => k < B) w5 g v5 ⟨1, fa, fc, [⟨1, 2, y1⟩], true, 0, 2, [p1, p2], 0⟩ from x5)
    clear d1' d2'
    have B5 := box (X4.out.steps st5 B4.out)
    have HIN5 := box (in_same HIN3.out (fun hx q hq => B5.out.block _ (HZA.out hx q hq)))
    clear x5 st5 hr SD2
    have SD3 := box (send_any B (fun k => k < B) g _ _ w5 (fun k h => Nat.lt_of_lt_of_le h (Nat.le_trans HBS.out B5.out.size)) X5.out a n c xs HN.out HX.out (by omega) HIN5.out HNIL.out HZA.out (by simp) (by simp) (by simp) (by simp))
    go_wp2_with fail
    refine SD3.out.mono ?_
    rintro e w6 ⟨v6, s6, code, rfl, hr, x6, st6⟩
    obtain ⟨rfl, p3, e1, e2, rfl⟩ := sendR_plain (by rw [theF_one]; simp) (by rw [theF_one]; simp) rfl (by simp) hr
    rw [theF_one] at e1
    have E3 := box (show p3.xs = xs from e1)
    have T3 := box (show p3.t = 1 from e2)
    have X6 := box (show CabAt B (fun k => k < B) w6 g v6 ⟨1, fa, fc, [⟨1, 2, y1⟩], true, 0, 3, [p1, p2] ++ [p3], 0⟩ from x6)
    have B6 := box (X5.out.steps st6 B5.out)
    clear x6 st6 hr e1 e2 SD3
    have DU := box (show due ([p1, p2] ++ [p3]) 1 = ([p1, p2] ++ [p3]).length from due_all _ 1 (fun i hi => by
      have h : ∀ f ∈ [p1, p2] ++ [p3], f.t ≤ 1 := fun f hf => by
        simp at hf
        have t1 := T1.out; have t2 := T2.out; have t3 := T3.out
        rcases hf with rfl | rfl | rfl <;> omega
      exact h _ (List.getElem_mem hi)))
    go_wp2_with fail
    refine (tick_any B _ g v6 _ w6 X6.out (by simp)).mono ?_
    rintro e w7 ⟨v7, a7, c7, he, hrow, x7, st7, _, hsym⟩
    have he : e = .returned (.slice a7 (due ([p1, p2] ++ [p3]) 1) c7) := he
    have hrow : w7.ownsRow w6.heap.size 36 1 (.slice a7 (due ([p1, p2] ++ [p3]) 1) c7) (due ([p1, p2] ++ [p3]) 1) ((([p1, p2] ++ [p3]).take (due ([p1, p2] ++ [p3]) 1)).map slV) := hrow
    have hsym : ∀ f ∈ [p1, p2] ++ [p3], SymIn _ w7 f.a f.c f.xs := hsym
    have x7 : CabAt B (fun k => k < B) w7 g v7 ⟨1, fa, fc, [⟨1, 2, y1⟩], true, 1, 3, ([p1, p2] ++ [p3]).drop (due ([p1, p2] ++ [p3]) 1), 0⟩ := x7
    rw [DU.out] at he hrow x7
    rw [List.take_length] at hrow
    subst he
    have B7 := box (X6.out.steps st7 B6.out)
    have HIN7 := box (in_same HIN3.out (fun hx q hq => B7.out.block _ (HZA.out hx q hq)))
    have Y7 : w7.cell? ⟨m, 1, none⟩ = some (.int .i64 2) := (B7.out.cell (p := ⟨m, 1, none⟩) (show m < B by rw [HSB.out]; omega)).trans Y1.out
    obtain ⟨b, rfl, hb6, hlt7, hc⟩ := rows_at hrow (by simp)
    have LO := box (lost_any _ _ _ _ _ _ (x7.keep ((Below.refl _ _).drew)))
    have HLM := box (show m < w7.heap.size from World.block_lt_of_cell? w7 ⟨m, 1, none⟩ Y7)
    have z0 : w7.cell? ⟨b, 0, none⟩ = some (.slice p1.a n p1.c) := by
      have h := hc 0 (by simp)
      have e : p1.xs.length = n := by rw [E1.out, HN.out]
      simp at h
      rw [h]; show some (Value.slice p1.a p1.xs.length p1.c) = _; rw [e]
    have cv0 : (convert 36 9 (.slice p1.a n p1.c)).run Try.prog w7.drew = .ok (.string (strOf xs)) w7.drew := conv_any HN.out ((by rw [← E1.out]; exact (hsym p1 (by simp)).inn : In w7 p1.a xs).below ((Below.refl _ _).drew))
    have z2 : w7.cell? ⟨b, 2, none⟩ = some (.slice p3.a n p3.c) := by
      have h := hc 2 (by simp)
      have e : p3.xs.length = n := by rw [E3.out, HN.out]
      simp at h
      rw [h]; show some (Value.slice p3.a p3.xs.length p3.c) = _; rw [e]
    have cv2 : (convert 36 9 (.slice p3.a n p3.c)).run Try.prog w7.drew = .ok (.string (strOf xs)) w7.drew := conv_any HN.out ((by rw [← E3.out]; exact (hsym p3 (by simp)).inn : In w7 p3.a xs).below ((Below.refl _ _).drew))
    have z1 : w7.cell? ⟨b, 1, none⟩ = some (.slice p2.a n p2.c) := by
      have h := hc 1 (by simp)
      have e : p2.xs.length = n := by rw [E2.out, flipA_length, HN.out]
      simp at h
      rw [h]; show some (Value.slice p2.a p2.xs.length p2.c) = _; rw [e]
    have HI2 := box (by rw [← E2.out]; exact (hsym p2 (by simp)).inn : In w7 p2.a (flipA xs y1))
    have cvd : (convert 36 9 (.slice a n c)).run Try.prog w7.drew = .ok (.string (strOf xs)) w7.drew := conv_any HN.out (HIN7.out.below ((Below.refl _ _).drew))
    have be : ((strOf xs).toList == (strOf xs).toList) = true := by simp
    have bne' : ((strOf xs).toList != (strOf xs).toList) = false := by simp
    clear hc hsym hrow x7 st7 LO
    go_wp2_with fail
    refine wp_region_held_drew (S := fun w' => w' = w7.drew) (by kernel_rfl) (rfl) (fun hHeld => ?_)
    refine wpAnyH_take (i := 0) (oi := { dst := some 124, op := Go.Op.move (Go.Operand.tmp 10), type := 42, pos := "law.go:185", after := #[], guard := none }) (v := ?_) rfl (by kernel_rfl) (by kernel_rfl) (by kernel_rfl) (fun _ _ _ h => h) (Or.inl ⟨by rfl, ?_⟩) (by assumption) ?_
    rotate_left
    · (intro w hSw; (try dsimp only at hSw); subst hSw; go_simp; (try with_reducible rfl))
    simp only [Act.put, List.setIfInBounds_toArray, List.set_cons_zero, List.set_cons_succ]
    refine wpAnyH_take (i := 1) (oi := { dst := some 125, op := Go.Op.call { callee := Go.Callee.builtin Go.Builtin.len, args := #[Go.Operand.tmp 124], argTypes := #[42] }, type := 3, pos := "law.go:185", after := #[{ on := 0, ground := Go.Ground.data }], guard := none }) (v := ?_) rfl (by kernel_rfl) (by kernel_rfl) (by kernel_rfl) (fun _ _ _ h => h) (Or.inl ⟨by rfl, ?_⟩) (by assumption) ?_
    rotate_left
    · (intro w hSw; (try dsimp only at hSw); subst hSw; go_simp; (try with_reducible rfl))
    simp only [Act.put, List.setIfInBounds_toArray, List.set_cons_zero, List.set_cons_succ]
    refine wpAnyH_take (i := 2) (oi := { dst := some 126, op := Go.Op.binOp Go.BinOp.neq 3 (Go.Operand.tmp 125) (Go.Operand.const (Go.Value.int Go.IntKind.i64 3)) 3, type := 4, pos := "law.go:185", after := #[{ on := 1, ground := Go.Ground.data }], guard := none }) (v := ?_) rfl (by kernel_rfl) (by kernel_rfl) (by kernel_rfl) (fun _ _ _ h => h) (Or.inl ⟨by rfl, ?_⟩) (by assumption) ?_
    rotate_left
    · (intro w hSw; (try dsimp only at hSw); subst hSw; go_simp; (try with_reducible rfl))
    simp only [Act.put, List.setIfInBounds_toArray, List.set_cons_zero, List.set_cons_succ]
    refine wpAnyH_take (i := 3) (oi := { dst := some 127, op := Go.Op.move (Go.Operand.tmp 126), type := 4, pos := "law.go:185", after := #[{ on := 2, ground := Go.Ground.data }], guard := none }) (v := ?_) rfl (by kernel_rfl) (by kernel_rfl) (by kernel_rfl) (fun _ _ _ h => h) (Or.inl ⟨by rfl, ?_⟩) (by assumption) ?_
    rotate_left
    · (intro w hSw; (try dsimp only at hSw); subst hSw; go_simp; (try with_reducible rfl))
    simp only [Act.put, List.setIfInBounds_toArray, List.set_cons_zero, List.set_cons_succ]
    refine wpAnyH_take (i := 4) (oi := { dst := some 128, op := Go.Op.move (Go.Operand.tmp 10), type := 42, pos := "law.go:185", after := #[{ on := 3, ground := Go.Ground.guard }], guard := some (3, false) }) (v := ?_) rfl (by kernel_rfl) (by kernel_rfl) (by kernel_rfl) (fun _ _ _ h => h) (Or.inl ⟨by rfl, ?_⟩) (by assumption) ?_
    rotate_left
    · (intro w hSw; (try dsimp only at hSw); subst hSw; go_simp; (try with_reducible rfl))
    simp only [Act.put, List.setIfInBounds_toArray, List.set_cons_zero, List.set_cons_succ]
    refine wpAnyH_take (i := 5) (oi := { dst := some 129, op := Go.Op.indexAddr 42 (Go.Operand.tmp 128) (Go.Operand.const (Go.Value.int Go.IntKind.i64 1)), type := 0, pos := "law.go:185", after := #[{ on := 4, ground := Go.Ground.data }, { on := 3, ground := Go.Ground.guard }], guard := some (3, false) }) (v := ?_) rfl (by kernel_rfl) (by kernel_rfl) (by kernel_rfl) (fun _ _ _ h => h) (Or.inl ⟨by rfl, ?_⟩) (by assumption) ?_
    rotate_left
    · (intro w hSw; (try dsimp only at hSw); subst hSw; go_simp; (try with_reducible rfl))
    simp only [Act.put, List.setIfInBounds_toArray, List.set_cons_zero, List.set_cons_succ]
    refine wpAnyH_take (i := 6) (oi := { dst := some 130, op := Go.Op.load 36 (Go.Operand.tmp 129), type := 36, pos := "law.go:185", after := #[{ on := 5, ground := Go.Ground.data }, { on := 3, ground := Go.Ground.guard }], guard := some (3, false) }) (v := ?_) rfl (by kernel_rfl) (by kernel_rfl) (by kernel_rfl) (fun _ _ _ h => h) (Or.inl ⟨by rfl, ?_⟩) (by assumption) ?_
    rotate_left
    · (intro w hSw; (try dsimp only at hSw); subst hSw; go_simp; (try with_reducible rfl))
    simp only [Act.put, List.setIfInBounds_toArray, List.set_cons_zero, List.set_cons_succ]
    refine wpAnyH_take (i := 7) (oi := { dst := some 131, op := Go.Op.call { callee := Go.Callee.builtin Go.Builtin.len, args := #[Go.Operand.tmp 130], argTypes := #[36] }, type := 3, pos := "law.go:185", after := #[{ on := 6, ground := Go.Ground.data }, { on := 3, ground := Go.Ground.guard }], guard := some (3, false) }) (v := ?_) rfl (by kernel_rfl) (by kernel_rfl) (by kernel_rfl) (fun _ _ _ h => h) (Or.inl ⟨by rfl, ?_⟩) (by assumption) ?_
    rotate_left
    · (intro w hSw; (try dsimp only at hSw); subst hSw; go_simp; (try with_reducible rfl))
    simp only [Act.put, List.setIfInBounds_toArray, List.set_cons_zero, List.set_cons_succ]
    refine wpAnyH_take (i := 8) (oi := { dst := some 132, op := Go.Op.move (Go.Operand.tmp 2), type := 36, pos := "law.go:185", after := #[{ on := 3, ground := Go.Ground.guard }], guard := some (3, false) }) (v := ?_) rfl (by kernel_rfl) (by kernel_rfl) (by kernel_rfl) (fun _ _ _ h => h) (Or.inl ⟨by rfl, ?_⟩) (by assumption) ?_
    rotate_left
    · (intro w hSw; (try dsimp only at hSw); subst hSw; go_simp; (try with_reducible rfl))
    simp only [Act.put, List.setIfInBounds_toArray, List.set_cons_zero, List.set_cons_succ]
    refine wpAnyH_take (i := 9) (oi := { dst := some 133, op := Go.Op.call { callee := Go.Callee.builtin Go.Builtin.len, args := #[Go.Operand.tmp 132], argTypes := #[36] }, type := 3, pos := "law.go:185", after := #[{ on := 8, ground := Go.Ground.data }, { on := 3, ground := Go.Ground.guard }], guard := some (3, false) }) (v := ?_) rfl (by kernel_rfl) (by kernel_rfl) (by kernel_rfl) (fun _ _ _ h => h) (Or.inl ⟨by rfl, ?_⟩) (by assumption) ?_
    rotate_left
    · (intro w hSw; (try dsimp only at hSw); subst hSw; go_simp; (try with_reducible rfl))
    simp only [Act.put, List.setIfInBounds_toArray, List.set_cons_zero, List.set_cons_succ]
    refine wpAnyH_take (i := 10) (oi := { dst := some 134, op := Go.Op.binOp Go.BinOp.neq 3 (Go.Operand.tmp 131) (Go.Operand.tmp 133) 3, type := 4, pos := "law.go:185", after := #[{ on := 7, ground := Go.Ground.data }, { on := 9, ground := Go.Ground.data }, { on := 3, ground := Go.Ground.guard }], guard := some (3, false) }) (v := ?_) rfl (by kernel_rfl) (by kernel_rfl) (by kernel_rfl) (fun _ _ _ h => h) (Or.inl ⟨by rfl, ?_⟩) (by assumption) ?_
    rotate_left
    · (intro w hSw; (try dsimp only at hSw); subst hSw; go_simp; (try with_reducible rfl))
    simp only [Act.put, List.setIfInBounds_toArray, List.set_cons_zero, List.set_cons_succ]
    refine wpAnyH_take (i := 11) (oi := { dst := some 135, op := Go.Op.pick (Go.Operand.tmp 127) (Go.Operand.const (Go.Value.bool true)) (Go.Operand.tmp 134), type := 4, pos := "law.go:185", after := #[{ on := 3, ground := Go.Ground.data }, { on := 10, ground := Go.Ground.data }], guard := none }) (v := ?_) rfl (by kernel_rfl) (by kernel_rfl) (by kernel_rfl) (fun _ _ _ h => h) (Or.inl ⟨by rfl, ?_⟩) (by assumption) ?_
    rotate_left
    · (intro w hSw; (try dsimp only at hSw); subst hSw; go_simp; (try with_reducible rfl))
    simp only [Act.put, List.setIfInBounds_toArray, List.set_cons_zero, List.set_cons_succ]
    refine wpAnyH_take (i := 12) (oi := { dst := some 136, op := Go.Op.move (Go.Operand.tmp 135), type := 4, pos := "law.go:185", after := #[{ on := 11, ground := Go.Ground.data }, { on := 3, ground := Go.Ground.chain }], guard := none }) (v := ?_) rfl (by kernel_rfl) (by kernel_rfl) (by kernel_rfl) (fun _ _ _ h => h) (Or.inl ⟨by rfl, ?_⟩) (by assumption) ?_
    rotate_left
    · (intro w hSw; (try dsimp only at hSw); subst hSw; go_simp; (try with_reducible rfl))
    simp only [Act.put, List.setIfInBounds_toArray, List.set_cons_zero, List.set_cons_succ]
    refine wpAnyH_take (i := 13) (oi := { dst := some 137, op := Go.Op.move (Go.Operand.tmp 10), type := 42, pos := "law.go:185", after := #[{ on := 12, ground := Go.Ground.guard }], guard := some (12, false) }) (v := ?_) rfl (by kernel_rfl) (by kernel_rfl) (by kernel_rfl) (fun _ _ _ h => h) (Or.inl ⟨by rfl, ?_⟩) (by assumption) ?_
    rotate_left
    · (intro w hSw; (try dsimp only at hSw); subst hSw; go_simp; (try with_reducible rfl))
    simp only [Act.put, List.setIfInBounds_toArray, List.set_cons_zero, List.set_cons_succ]
    refine wpAnyH_take (i := 14) (oi := { dst := some 138, op := Go.Op.indexAddr 42 (Go.Operand.tmp 137) (Go.Operand.const (Go.Value.int Go.IntKind.i64 0)), type := 0, pos := "law.go:185", after := #[{ on := 13, ground := Go.Ground.data }, { on := 12, ground := Go.Ground.guard }], guard := some (12, false) }) (v := ?_) rfl (by kernel_rfl) (by kernel_rfl) (by kernel_rfl) (fun _ _ _ h => h) (Or.inl ⟨by rfl, ?_⟩) (by assumption) ?_
    rotate_left
    · (intro w hSw; (try dsimp only at hSw); subst hSw; go_simp; (try with_reducible rfl))
    simp only [Act.put, List.setIfInBounds_toArray, List.set_cons_zero, List.set_cons_succ]
    refine wpAnyH_take (i := 15) (oi := { dst := some 139, op := Go.Op.load 36 (Go.Operand.tmp 138), type := 36, pos := "law.go:185", after := #[{ on := 14, ground := Go.Ground.data }, { on := 12, ground := Go.Ground.guard }], guard := some (12, false) }) (v := ?_) rfl (by kernel_rfl) (by kernel_rfl) (by kernel_rfl) (fun _ _ _ h => h) (Or.inl ⟨by rfl, ?_⟩) (by assumption) ?_
    rotate_left
    · (intro w hSw; (try dsimp only at hSw); subst hSw; go_simp; (try with_reducible rfl))
    simp only [Act.put, List.setIfInBounds_toArray, List.set_cons_zero, List.set_cons_succ]
    refine wpAnyH_take (i := 16) (oi := { dst := some 140, op := Go.Op.convert 36 9 (Go.Operand.tmp 139), type := 9, pos := "law.go:185", after := #[{ on := 15, ground := Go.Ground.data }, { on := 12, ground := Go.Ground.guard }], guard := some (12, false) }) (v := ?_) rfl (by kernel_rfl) (by kernel_rfl) (by kernel_rfl) (fun _ _ _ h => h) (Or.inl ⟨by rfl, ?_⟩) (by assumption) ?_
    rotate_left
    · (intro w hSw; (try dsimp only at hSw); subst hSw; go_simp; (try with_reducible rfl))
    simp only [Act.put, List.setIfInBounds_toArray, List.set_cons_zero, List.set_cons_succ]
    refine wpAnyH_take (i := 17) (oi := { dst := some 141, op := Go.Op.move (Go.Operand.tmp 2), type := 36, pos := "law.go:185", after := #[{ on := 12, ground := Go.Ground.guard }], guard := some (12, false) }) (v := ?_) rfl (by kernel_rfl) (by kernel_rfl) (by kernel_rfl) (fun _ _ _ h => h) (Or.inl ⟨by rfl, ?_⟩) (by assumption) ?_
    rotate_left
    · (intro w hSw; (try dsimp only at hSw); subst hSw; go_simp; (try with_reducible rfl))
    simp only [Act.put, List.setIfInBounds_toArray, List.set_cons_zero, List.set_cons_succ]
    refine wpAnyH_take (i := 18) (oi := { dst := some 142, op := Go.Op.convert 36 9 (Go.Operand.tmp 141), type := 9, pos := "law.go:185", after := #[{ on := 17, ground := Go.Ground.data }, { on := 12, ground := Go.Ground.guard }], guard := some (12, false) }) (v := ?_) rfl (by kernel_rfl) (by kernel_rfl) (by kernel_rfl) (fun _ _ _ h => h) (Or.inl ⟨by rfl, ?_⟩) (by assumption) ?_
    rotate_left
    · (intro w hSw; (try dsimp only at hSw); subst hSw; go_simp; (try with_reducible rfl))
    simp only [Act.put, List.setIfInBounds_toArray, List.set_cons_zero, List.set_cons_succ]
    refine wpAnyH_take (i := 19) (oi := { dst := some 143, op := Go.Op.binOp Go.BinOp.neq 9 (Go.Operand.tmp 140) (Go.Operand.tmp 142) 9, type := 4, pos := "law.go:185", after := #[{ on := 16, ground := Go.Ground.data }, { on := 18, ground := Go.Ground.data }, { on := 12, ground := Go.Ground.guard }], guard := some (12, false) }) (v := ?_) rfl (by kernel_rfl) (by kernel_rfl) (by kernel_rfl) (fun _ _ _ h => h) (Or.inl ⟨by rfl, ?_⟩) (by assumption) ?_
    rotate_left
    · (intro w hSw; (try dsimp only at hSw); subst hSw; go_simp; (try with_reducible rfl))
    simp only [Act.put, List.setIfInBounds_toArray, List.set_cons_zero, List.set_cons_succ]
    refine wpAnyH_take (i := 20) (oi := { dst := some 144, op := Go.Op.pick (Go.Operand.tmp 136) (Go.Operand.const (Go.Value.bool true)) (Go.Operand.tmp 143), type := 4, pos := "law.go:185", after := #[{ on := 12, ground := Go.Ground.data }, { on := 19, ground := Go.Ground.data }], guard := none }) (v := ?_) rfl (by kernel_rfl) (by kernel_rfl) (by kernel_rfl) (fun _ _ _ h => h) (Or.inl ⟨by rfl, ?_⟩) (by assumption) ?_
    rotate_left
    · (intro w hSw; (try dsimp only at hSw); subst hSw; go_simp; (try with_reducible rfl))
    simp only [Act.put, List.setIfInBounds_toArray, List.set_cons_zero, List.set_cons_succ]
    refine wpAnyH_take (i := 21) (oi := { dst := some 145, op := Go.Op.move (Go.Operand.tmp 144), type := 4, pos := "law.go:185", after := #[{ on := 20, ground := Go.Ground.data }, { on := 12, ground := Go.Ground.chain }], guard := none }) (v := ?_) rfl (by kernel_rfl) (by kernel_rfl) (by kernel_rfl) (fun _ _ _ h => h) (Or.inl ⟨by rfl, ?_⟩) (by assumption) ?_
    rotate_left
    · (intro w hSw; (try dsimp only at hSw); subst hSw; go_simp; (try with_reducible rfl))
    simp only [Act.put, List.setIfInBounds_toArray, List.set_cons_zero, List.set_cons_succ]
    refine wpAnyH_take (i := 22) (oi := { dst := some 146, op := Go.Op.move (Go.Operand.tmp 10), type := 42, pos := "law.go:185", after := #[{ on := 21, ground := Go.Ground.guard }], guard := some (21, false) }) (v := ?_) rfl (by kernel_rfl) (by kernel_rfl) (by kernel_rfl) (fun _ _ _ h => h) (Or.inl ⟨by rfl, ?_⟩) (by assumption) ?_
    rotate_left
    · (intro w hSw; (try dsimp only at hSw); subst hSw; go_simp; (try with_reducible rfl))
    simp only [Act.put, List.setIfInBounds_toArray, List.set_cons_zero, List.set_cons_succ]
    refine wpAnyH_take (i := 23) (oi := { dst := some 147, op := Go.Op.indexAddr 42 (Go.Operand.tmp 146) (Go.Operand.const (Go.Value.int Go.IntKind.i64 2)), type := 0, pos := "law.go:185", after := #[{ on := 22, ground := Go.Ground.data }, { on := 21, ground := Go.Ground.guard }], guard := some (21, false) }) (v := ?_) rfl (by kernel_rfl) (by kernel_rfl) (by kernel_rfl) (fun _ _ _ h => h) (Or.inl ⟨by rfl, ?_⟩) (by assumption) ?_
    rotate_left
    · (intro w hSw; (try dsimp only at hSw); subst hSw; go_simp; (try with_reducible rfl))
    simp only [Act.put, List.setIfInBounds_toArray, List.set_cons_zero, List.set_cons_succ]
    refine wpAnyH_take (i := 24) (oi := { dst := some 148, op := Go.Op.load 36 (Go.Operand.tmp 147), type := 36, pos := "law.go:185", after := #[{ on := 23, ground := Go.Ground.data }, { on := 21, ground := Go.Ground.guard }], guard := some (21, false) }) (v := ?_) rfl (by kernel_rfl) (by kernel_rfl) (by kernel_rfl) (fun _ _ _ h => h) (Or.inl ⟨by rfl, ?_⟩) (by assumption) ?_
    rotate_left
    · (intro w hSw; (try dsimp only at hSw); subst hSw; go_simp; (try with_reducible rfl))
    simp only [Act.put, List.setIfInBounds_toArray, List.set_cons_zero, List.set_cons_succ]
    refine wpAnyH_take (i := 25) (oi := { dst := some 149, op := Go.Op.convert 36 9 (Go.Operand.tmp 148), type := 9, pos := "law.go:185", after := #[{ on := 24, ground := Go.Ground.data }, { on := 21, ground := Go.Ground.guard }], guard := some (21, false) }) (v := ?_) rfl (by kernel_rfl) (by kernel_rfl) (by kernel_rfl) (fun _ _ _ h => h) (Or.inl ⟨by rfl, ?_⟩) (by assumption) ?_
    rotate_left
    · (intro w hSw; (try dsimp only at hSw); subst hSw; go_simp; (try with_reducible rfl))
    simp only [Act.put, List.setIfInBounds_toArray, List.set_cons_zero, List.set_cons_succ]
    refine wpAnyH_take (i := 26) (oi := { dst := some 150, op := Go.Op.move (Go.Operand.tmp 2), type := 36, pos := "law.go:185", after := #[{ on := 21, ground := Go.Ground.guard }], guard := some (21, false) }) (v := ?_) rfl (by kernel_rfl) (by kernel_rfl) (by kernel_rfl) (fun _ _ _ h => h) (Or.inl ⟨by rfl, ?_⟩) (by assumption) ?_
    rotate_left
    · (intro w hSw; (try dsimp only at hSw); subst hSw; go_simp; (try with_reducible rfl))
    simp only [Act.put, List.setIfInBounds_toArray, List.set_cons_zero, List.set_cons_succ]
    refine wpAnyH_take (i := 27) (oi := { dst := some 151, op := Go.Op.convert 36 9 (Go.Operand.tmp 150), type := 9, pos := "law.go:185", after := #[{ on := 26, ground := Go.Ground.data }, { on := 21, ground := Go.Ground.guard }], guard := some (21, false) }) (v := ?_) rfl (by kernel_rfl) (by kernel_rfl) (by kernel_rfl) (fun _ _ _ h => h) (Or.inl ⟨by rfl, ?_⟩) (by assumption) ?_
    rotate_left
    · (intro w hSw; (try dsimp only at hSw); subst hSw; go_simp; (try with_reducible rfl))
    simp only [Act.put, List.setIfInBounds_toArray, List.set_cons_zero, List.set_cons_succ]
    refine wpAnyH_take (i := 28) (oi := { dst := some 152, op := Go.Op.binOp Go.BinOp.neq 9 (Go.Operand.tmp 149) (Go.Operand.tmp 151) 9, type := 4, pos := "law.go:185", after := #[{ on := 25, ground := Go.Ground.data }, { on := 27, ground := Go.Ground.data }, { on := 21, ground := Go.Ground.guard }], guard := some (21, false) }) (v := ?_) rfl (by kernel_rfl) (by kernel_rfl) (by kernel_rfl) (fun _ _ _ h => h) (Or.inl ⟨by rfl, ?_⟩) (by assumption) ?_
    rotate_left
    · (intro w hSw; (try dsimp only at hSw); subst hSw; go_simp; (try with_reducible rfl))
    simp only [Act.put, List.setIfInBounds_toArray, List.set_cons_zero, List.set_cons_succ]
    refine wpAnyH_take (i := 29) (oi := { dst := some 153, op := Go.Op.pick (Go.Operand.tmp 145) (Go.Operand.const (Go.Value.bool true)) (Go.Operand.tmp 152), type := 4, pos := "law.go:185", after := #[{ on := 21, ground := Go.Ground.data }, { on := 28, ground := Go.Ground.data }], guard := none }) (v := ?_) rfl (by kernel_rfl) (by kernel_rfl) (by kernel_rfl) (fun _ _ _ h => h) (Or.inl ⟨by rfl, ?_⟩) (by assumption) ?_
    rotate_left
    · (intro w hSw; (try dsimp only at hSw); subst hSw; go_simp; (try with_reducible rfl))
    simp only [Act.put, List.setIfInBounds_toArray, List.set_cons_zero, List.set_cons_succ]
    refine wpAnyH_done (by kernel_rfl) ?_ _
    go_wp2_with fail
    have HBF := box (show Below w.heap.size w w7 from HBW.out.trans (B7.out.mono (by rw [HSB.out]; have := HW0.out; omega)))
    obtain ⟨Q, hQ⟩ : ∃ Q, y1 % (6 * n) / 6 = Q := ⟨_, rfl⟩
    have HD := box (show ∀ i, i < n → ((flipA xs y1).getD i 0 ^^^ xs.getD i 0) < 64 ∧ popF 6 ((flipA xs y1).getD i 0 ^^^ xs.getD i 0) = (if i = Q then 1 else 0) from fun i hi => by rw [← hQ, ← HN.out]; exact flip_bits xs y1 i (by rw [HN.out]; exact hi))
    have HQN := box (show 0 < n → Q < n from fun h => by rw [← hQ]; have := Nat.mod_lt y1 (show 0 < 6 * n by omega); omega)
    have HYL := box (show ∀ x ∈ flipA xs y1, x < 256 from flipA_lt HX.out y1)
    have HYN := box (show (flipA xs y1).length = n by rw [flipA_length, HN.out])
    have HLT : b < w7.heap.size := hlt7
    clear hQ cvd cv0 cv2 be bne' z0 z2
    generalize flipA xs y1 = ys at HI2 HD HYL HYN
    go_loopw [11, 156] (fun t11 t156 wr => ∃ (i k : Nat), i ≤ n ∧ t156 = .int .i64 i ∧ t11 = .int .i64 k ∧ Box (k = if Q < i then 1 else 0) ∧ k ≤ 1 ∧ Box (∃ t, wr = w7.drewN t)) (fun _ t156 _ => n - (intOf t156).toNat)
    case atStart => exact ⟨0, 0, by omega, rfl, rfl, box rfl, by omega, box ⟨1, rfl⟩⟩
    case round =>
      obtain ⟨i, k, hi, rfl, rfl, hk, hk1, hwr⟩ := hrel
      by_cases hlt : i < n
      · obtain ⟨t, ht⟩ := hwr.out
        obtain ⟨u1, hu1, c1⟩ := in_some HI2.out (show i < ys.length by rw [HYN.out]; exact hlt)
        obtain ⟨u2, hu2, c2⟩ := in_some HIN7.out (show i < xs.length by rw [HN.out]; exact hlt)
        rw [hu1] at z1
        subst hu2
        have l1 := getD_lt HYL.out (show i < ys.length by rw [HYN.out]; exact hlt)
        have l2 := getD_lt HX.out (show i < xs.length by rw [HN.out]; exact hlt)
        obtain ⟨hX64, hXP⟩ := HD.out i hlt
        have hxor := u8_xor_nat (ys.getD i 0) (xs.getD i 0) l1 l2
        generalize ys.getD i 0 ^^^ xs.getD i 0 = X at hX64 hXP hxor
        generalize ys.getD i 0 = e1 at c1 l1 hxor
        generalize xs.getD i 0 = e2 at c2 l2 hxor
        have HXP := box hXP
        have HT := box ht
        subst ht
        clear hXP hu1
        go_wp2_with fail
        go_quiet (fail)
        go_wp2_with fail
        go_loopw [11, 13] (fun t11 t13 wr => ∃ (x k' : Nat), x < 64 ∧ t13 = .int .u8 x ∧ t11 = .int .i64 k' ∧ Box (k' + popF 6 x = k + popF 6 X) ∧ k' ≤ 100 ∧ Box (∃ t, wr = w7.drewN t)) (fun _ t13 _ => (intOf t13).toNat)
        case atStart => exact ⟨X, k, hX64, by first | rfl | rw [hxor], rfl, box rfl, by omega, box ⟨t + nq, drewN_two w7 t nq⟩⟩
        case round =>
          obtain ⟨x, k', hx64, rfl, rfl, hpop, hk', hwr2⟩ := hrel
          by_cases hx0 : 0 < x
          · have hand : bits .and .u8 (x : Int) 1 = ((x % 2 : Nat) : Int) := by
              have h := u8_and_nat x 1 (by omega) (by decide)
              rw [show x &&& 1 = x % 2 from Nat.and_two_pow_sub_one_eq_mod x 1] at h
              exact h
            have hsh : (x : Int) / 2 = ((x / 2 : Nat) : Int) := by omega
            have HST := box (pop_step x hx64)
            have HPL := box (pop_le X hX64)
            have hm2 : x % 2 < 2 := Nat.mod_lt _ (by decide)
            have hd2 : x / 2 < x := by omega
            have hd64 : x / 2 < 64 := by omega
            have hk2 : k' ≤ 7 := by have := hpop.out; have := HPL.out; omega
            generalize x % 2 = x2 at hand HST hm2
            generalize x / 2 = xh at hsh HST hd2 hd64
            go_wp2_with fail
            go_roundw
            case rel => exact ⟨xh, k' + x2, hd64, by first | rfl | rw [hsh] | simp [hsh], by go_num, box (by have h1 := hpop.out; have h2 := HST.out; omega), by omega, hwr2⟩
            case measure => simp [intOf]; omega
          · have hx00 : x = 0 := by omega
            subst hx00
            go_wp2_with fail
            go_roundw
            case rel =>
              refine ⟨i + 1, k', by omega, by go_num, rfl, box ?_, ?_, hwr2⟩
              · have h1 := hpop.out
                rw [HXP.out] at h1
                have h2 := hk.out
                have h3 : popF 6 0 = 0 := rfl
                rw [h3] at h1
                by_cases hiQ : i = Q
                · rw [if_pos hiQ] at h1; rw [if_neg (by omega)] at h2; rw [if_pos (by omega)]; omega
                · rw [if_neg hiQ] at h1
                  by_cases hQi : Q < i
                  · rw [if_pos hQi] at h2; rw [if_pos (by omega)]; omega
                  · rw [if_neg hQi] at h2; rw [if_neg (by omega)]; omega
              · have h1 := hpop.out
                have h3 : popF 6 0 = 0 := rfl
                rw [h3, HXP.out] at h1
                have h2 := hk.out
                by_cases hiQ : i = Q
                · rw [if_pos hiQ] at h1; rw [if_neg (by omega)] at h2; omega
                · rw [if_neg hiQ] at h1; omega
            case measure => simp [intOf]; omega
      · have hin' : i = n := by omega
        obtain ⟨t, ht⟩ := hwr.out
        have HT := box ht
        have HKF := box (show k = min 1 n by
          have h := hk.out
          by_cases h0 : 0 < n
          · have := HQN.out h0; rw [if_pos (by omega)] at h; omega
          · rw [if_neg (by omega)] at h; omega)
        clear ht
        rcases Nat.eq_zero_or_pos n with h0 | h0
        · subst h0
          subst hin'
          have hk0 : k = 0 := HKF.out
          subst hk0
          go_wp2_with fail
          go_ret
          exact ⟨by simp, by rw [HT.out]; exact HBF.out.trans ((drewN_below w7 t).mono HBF.out.size)⟩
        · have hk0 : k = 1 := by rw [HKF.out]; omega
          subst hk0
          have hle : (1 : Int) ≤ (n : Int) := by omega
          go_wp2_with fail
          go_ret
          refine ⟨?_, by rw [HT.out]; exact HBF.out.trans ((drewN_below w7 t).mono HBF.out.size)⟩
          simp
  · go_wp2_with fail
    refine SD2.out.mono ?_
    rintro e w5 ⟨v5, s5, code, rfl, hr, x5, st5⟩
    obtain ⟨rfl, q1, q2, ⟨d1', d2'⟩, ⟨d3', d4'⟩, rfl⟩ := sendR_double (by rw [theF_one]; simp) rfl (by simp) hr
    have E4 := box d1'
    have T4 := box (show q1.t = 1 from d2')
    have E5 := box d3'
    have T5 := box (show q2.t = 1 from d4')
    have X5 := box (show CabAt B (fun k => k < B) w5 g v5 ⟨1, fa, fc, [⟨1, 3, y1⟩], true, 0, 2, [p1, q1, q2], 0⟩ from x5)
    clear d1' d2' d3' d4'
    have B5 := box (X4.out.steps st5 B4.out)
    have HIN5 := box (in_same HIN3.out (fun hx q hq => B5.out.block _ (HZA.out hx q hq)))
    clear x5 st5 hr SD2
    have SD3 := box (send_any B (fun k => k < B) g _ _ w5 (fun k h => Nat.lt_of_lt_of_le h (Nat.le_trans HBS.out B5.out.size)) X5.out a n c xs HN.out HX.out (by omega) HIN5.out HNIL.out HZA.out (by simp) (by simp) (by simp) (by simp))
    go_wp2_with fail
    refine SD3.out.mono ?_
    rintro e w6 ⟨v6, s6, code, rfl, hr, x6, st6⟩
    obtain ⟨rfl, p3, e1, e2, rfl⟩ := sendR_plain (by rw [theF_one]; simp) (by rw [theF_one]; simp) rfl (by simp) hr
    rw [theF_one] at e1
    have E3 := box (show p3.xs = xs from e1)
    have T3 := box (show p3.t = 1 from e2)
    have X6 := box (show CabAt B (fun k => k < B) w6 g v6 ⟨1, fa, fc, [⟨1, 3, y1⟩], true, 0, 3, [p1, q1, q2] ++ [p3], 0⟩ from x6)
    have B6 := box (X5.out.steps st6 B5.out)
    clear x6 st6 hr e1 e2 SD3
    have DU := box (show due ([p1, q1, q2] ++ [p3]) 1 = ([p1, q1, q2] ++ [p3]).length from due_all _ 1 (fun i hi => by
      have h : ∀ f ∈ [p1, q1, q2] ++ [p3], f.t ≤ 1 := fun f hf => by
        simp at hf
        have t1 := T1.out; have t3 := T3.out; have t4 := T4.out; have t5 := T5.out
        rcases hf with rfl | rfl | rfl | rfl <;> omega
      exact h _ (List.getElem_mem hi)))
    go_wp2_with fail
    refine (tick_any B _ g v6 _ w6 X6.out (by simp)).mono ?_
    rintro e w7 ⟨v7, a7, c7, he, hrow, x7, st7, _, hsym⟩
    have he : e = .returned (.slice a7 (due ([p1, q1, q2] ++ [p3]) 1) c7) := he
    have hrow : w7.ownsRow w6.heap.size 36 1 (.slice a7 (due ([p1, q1, q2] ++ [p3]) 1) c7) (due ([p1, q1, q2] ++ [p3]) 1) ((([p1, q1, q2] ++ [p3]).take (due ([p1, q1, q2] ++ [p3]) 1)).map slV) := hrow
    have hsym : ∀ f ∈ [p1, q1, q2] ++ [p3], SymIn _ w7 f.a f.c f.xs := hsym
    have x7 : CabAt B (fun k => k < B) w7 g v7 ⟨1, fa, fc, [⟨1, 3, y1⟩], true, 1, 3, ([p1, q1, q2] ++ [p3]).drop (due ([p1, q1, q2] ++ [p3]) 1), 0⟩ := x7
    rw [DU.out] at he hrow x7
    rw [List.take_length] at hrow
    subst he
    have B7 := box (X6.out.steps st7 B6.out)
    have HIN7 := box (in_same HIN3.out (fun hx q hq => B7.out.block _ (HZA.out hx q hq)))
    have Y7 : w7.cell? ⟨m, 1, none⟩ = some (.int .i64 3) := (B7.out.cell (p := ⟨m, 1, none⟩) (show m < B by rw [HSB.out]; omega)).trans Y1.out
    obtain ⟨b, rfl, hb6, hlt7, hc⟩ := rows_at hrow (by simp)
    have LO := box (lost_any _ _ _ _ _ _ (x7.keep ((Below.refl _ _).drew)))
    have HLM := box (show m < w7.heap.size from World.block_lt_of_cell? w7 ⟨m, 1, none⟩ Y7)
    have z1 : w7.cell? ⟨b, 1, none⟩ = some (.slice q1.a n q1.c) := by
      have h := hc 1 (by simp)
      have e : q1.xs.length = n := by rw [E4.out, HN.out]
      simp at h
      rw [h]; show some (Value.slice q1.a q1.xs.length q1.c) = _; rw [e]
    have cv1 : (convert 36 9 (.slice q1.a n q1.c)).run Try.prog w7.drew = .ok (.string (strOf xs)) w7.drew := conv_any HN.out ((by rw [← E4.out]; exact (hsym q1 (by simp)).inn : In w7 q1.a xs).below ((Below.refl _ _).drew))
    have z2 : w7.cell? ⟨b, 2, none⟩ = some (.slice q2.a n q2.c) := by
      have h := hc 2 (by simp)
      have e : q2.xs.length = n := by rw [E5.out, HN.out]
      simp at h
      rw [h]; show some (Value.slice q2.a q2.xs.length q2.c) = _; rw [e]
    have cv2 : (convert 36 9 (.slice q2.a n q2.c)).run Try.prog w7.drew = .ok (.string (strOf xs)) w7.drew := conv_any HN.out ((by rw [← E5.out]; exact (hsym q2 (by simp)).inn : In w7 q2.a xs).below ((Below.refl _ _).drew))
    have z3 : w7.cell? ⟨b, 3, none⟩ = some (.slice p3.a n p3.c) := by
      have h := hc 3 (by simp)
      have e : p3.xs.length = n := by rw [E3.out, HN.out]
      simp at h
      rw [h]; show some (Value.slice p3.a p3.xs.length p3.c) = _; rw [e]
    have cv3 : (convert 36 9 (.slice p3.a n p3.c)).run Try.prog w7.drew = .ok (.string (strOf xs)) w7.drew := conv_any HN.out ((by rw [← E3.out]; exact (hsym p3 (by simp)).inn : In w7 p3.a xs).below ((Below.refl _ _).drew))
    have cvd : (convert 36 9 (.slice a n c)).run Try.prog w7.drew = .ok (.string (strOf xs)) w7.drew := conv_any HN.out (HIN7.out.below ((Below.refl _ _).drew))
    have be : ((strOf xs).toList == (strOf xs).toList) = true := by simp
    have bne' : ((strOf xs).toList != (strOf xs).toList) = false := by simp
    clear hc hsym hrow x7 st7
    go_wp2_with fail
    refine wp_region_held_drew (S := fun w' => w' = w7.drew) (by kernel_rfl) (rfl) (fun hHeld => ?_)
    refine wpAnyH_take (i := 0) (oi := { dst := some 89, op := Go.Op.move (Go.Operand.tmp 10), type := 42, pos := "law.go:183", after := #[], guard := none }) (v := ?_) rfl (by kernel_rfl) (by kernel_rfl) (by kernel_rfl) (fun _ _ _ h => h) (Or.inl ⟨by rfl, ?_⟩) (by assumption) ?_
    rotate_left
    · (intro w hSw; (try dsimp only at hSw); subst hSw; go_simp; (try with_reducible rfl))
    simp only [Act.put, List.setIfInBounds_toArray, List.set_cons_zero, List.set_cons_succ]
    refine wpAnyH_take (i := 1) (oi := { dst := some 90, op := Go.Op.call { callee := Go.Callee.builtin Go.Builtin.len, args := #[Go.Operand.tmp 89], argTypes := #[42] }, type := 3, pos := "law.go:183", after := #[{ on := 0, ground := Go.Ground.data }], guard := none }) (v := ?_) rfl (by kernel_rfl) (by kernel_rfl) (by kernel_rfl) (fun _ _ _ h => h) (Or.inl ⟨by rfl, ?_⟩) (by assumption) ?_
    rotate_left
    · (intro w hSw; (try dsimp only at hSw); subst hSw; go_simp; (try with_reducible rfl))
    simp only [Act.put, List.setIfInBounds_toArray, List.set_cons_zero, List.set_cons_succ]
    refine wpAnyH_take (i := 2) (oi := { dst := some 91, op := Go.Op.binOp Go.BinOp.eql 3 (Go.Operand.tmp 90) (Go.Operand.const (Go.Value.int Go.IntKind.i64 4)) 3, type := 4, pos := "law.go:183", after := #[{ on := 1, ground := Go.Ground.data }], guard := none }) (v := ?_) rfl (by kernel_rfl) (by kernel_rfl) (by kernel_rfl) (fun _ _ _ h => h) (Or.inl ⟨by rfl, ?_⟩) (by assumption) ?_
    rotate_left
    · (intro w hSw; (try dsimp only at hSw); subst hSw; go_simp; (try with_reducible rfl))
    simp only [Act.put, List.setIfInBounds_toArray, List.set_cons_zero, List.set_cons_succ]
    refine wpAnyH_take (i := 3) (oi := { dst := some 92, op := Go.Op.move (Go.Operand.tmp 91), type := 4, pos := "law.go:183", after := #[{ on := 2, ground := Go.Ground.data }], guard := none }) (v := ?_) rfl (by kernel_rfl) (by kernel_rfl) (by kernel_rfl) (fun _ _ _ h => h) (Or.inl ⟨by rfl, ?_⟩) (by assumption) ?_
    rotate_left
    · (intro w hSw; (try dsimp only at hSw); subst hSw; go_simp; (try with_reducible rfl))
    simp only [Act.put, List.setIfInBounds_toArray, List.set_cons_zero, List.set_cons_succ]
    refine wpAnyH_take (i := 4) (oi := { dst := some 93, op := Go.Op.move (Go.Operand.tmp 10), type := 42, pos := "law.go:183", after := #[{ on := 3, ground := Go.Ground.guard }], guard := some (3, true) }) (v := ?_) rfl (by kernel_rfl) (by kernel_rfl) (by kernel_rfl) (fun _ _ _ h => h) (Or.inl ⟨by rfl, ?_⟩) (by assumption) ?_
    rotate_left
    · (intro w hSw; (try dsimp only at hSw); subst hSw; go_simp; (try with_reducible rfl))
    simp only [Act.put, List.setIfInBounds_toArray, List.set_cons_zero, List.set_cons_succ]
    refine wpAnyH_take (i := 5) (oi := { dst := some 94, op := Go.Op.indexAddr 42 (Go.Operand.tmp 93) (Go.Operand.const (Go.Value.int Go.IntKind.i64 1)), type := 0, pos := "law.go:183", after := #[{ on := 4, ground := Go.Ground.data }, { on := 3, ground := Go.Ground.guard }], guard := some (3, true) }) (v := ?_) rfl (by kernel_rfl) (by kernel_rfl) (by kernel_rfl) (fun _ _ _ h => h) (Or.inl ⟨by rfl, ?_⟩) (by assumption) ?_
    rotate_left
    · (intro w hSw; (try dsimp only at hSw); subst hSw; go_simp; (try with_reducible rfl))
    simp only [Act.put, List.setIfInBounds_toArray, List.set_cons_zero, List.set_cons_succ]
    refine wpAnyH_take (i := 6) (oi := { dst := some 95, op := Go.Op.load 36 (Go.Operand.tmp 94), type := 36, pos := "law.go:183", after := #[{ on := 5, ground := Go.Ground.data }, { on := 3, ground := Go.Ground.guard }], guard := some (3, true) }) (v := ?_) rfl (by kernel_rfl) (by kernel_rfl) (by kernel_rfl) (fun _ _ _ h => h) (Or.inl ⟨by rfl, ?_⟩) (by assumption) ?_
    rotate_left
    · (intro w hSw; (try dsimp only at hSw); subst hSw; go_simp; (try with_reducible rfl))
    simp only [Act.put, List.setIfInBounds_toArray, List.set_cons_zero, List.set_cons_succ]
    refine wpAnyH_take (i := 7) (oi := { dst := some 96, op := Go.Op.convert 36 9 (Go.Operand.tmp 95), type := 9, pos := "law.go:183", after := #[{ on := 6, ground := Go.Ground.data }, { on := 3, ground := Go.Ground.guard }], guard := some (3, true) }) (v := ?_) rfl (by kernel_rfl) (by kernel_rfl) (by kernel_rfl) (fun _ _ _ h => h) (Or.inl ⟨by rfl, ?_⟩) (by assumption) ?_
    rotate_left
    · (intro w hSw; (try dsimp only at hSw); subst hSw; go_simp; (try with_reducible rfl))
    simp only [Act.put, List.setIfInBounds_toArray, List.set_cons_zero, List.set_cons_succ]
    refine wpAnyH_take (i := 8) (oi := { dst := some 97, op := Go.Op.move (Go.Operand.tmp 2), type := 36, pos := "law.go:183", after := #[{ on := 3, ground := Go.Ground.guard }], guard := some (3, true) }) (v := ?_) rfl (by kernel_rfl) (by kernel_rfl) (by kernel_rfl) (fun _ _ _ h => h) (Or.inl ⟨by rfl, ?_⟩) (by assumption) ?_
    rotate_left
    · (intro w hSw; (try dsimp only at hSw); subst hSw; go_simp; (try with_reducible rfl))
    simp only [Act.put, List.setIfInBounds_toArray, List.set_cons_zero, List.set_cons_succ]
    refine wpAnyH_take (i := 9) (oi := { dst := some 98, op := Go.Op.convert 36 9 (Go.Operand.tmp 97), type := 9, pos := "law.go:183", after := #[{ on := 8, ground := Go.Ground.data }, { on := 3, ground := Go.Ground.guard }], guard := some (3, true) }) (v := ?_) rfl (by kernel_rfl) (by kernel_rfl) (by kernel_rfl) (fun _ _ _ h => h) (Or.inl ⟨by rfl, ?_⟩) (by assumption) ?_
    rotate_left
    · (intro w hSw; (try dsimp only at hSw); subst hSw; go_simp; (try with_reducible rfl))
    simp only [Act.put, List.setIfInBounds_toArray, List.set_cons_zero, List.set_cons_succ]
    refine wpAnyH_take (i := 10) (oi := { dst := some 99, op := Go.Op.binOp Go.BinOp.eql 9 (Go.Operand.tmp 96) (Go.Operand.tmp 98) 9, type := 4, pos := "law.go:183", after := #[{ on := 7, ground := Go.Ground.data }, { on := 9, ground := Go.Ground.data }, { on := 3, ground := Go.Ground.guard }], guard := some (3, true) }) (v := ?_) rfl (by kernel_rfl) (by kernel_rfl) (by kernel_rfl) (fun _ _ _ h => h) (Or.inl ⟨by rfl, ?_⟩) (by assumption) ?_
    rotate_left
    · (intro w hSw; (try dsimp only at hSw); subst hSw; go_simp; (try with_reducible rfl))
    simp only [Act.put, List.setIfInBounds_toArray, List.set_cons_zero, List.set_cons_succ]
    refine wpAnyH_take (i := 11) (oi := { dst := some 100, op := Go.Op.pick (Go.Operand.tmp 92) (Go.Operand.tmp 99) (Go.Operand.const (Go.Value.bool false)), type := 4, pos := "law.go:183", after := #[{ on := 3, ground := Go.Ground.data }, { on := 10, ground := Go.Ground.data }], guard := none }) (v := ?_) rfl (by kernel_rfl) (by kernel_rfl) (by kernel_rfl) (fun _ _ _ h => h) (Or.inl ⟨by rfl, ?_⟩) (by assumption) ?_
    rotate_left
    · (intro w hSw; (try dsimp only at hSw); subst hSw; go_simp; (try with_reducible rfl))
    simp only [Act.put, List.setIfInBounds_toArray, List.set_cons_zero, List.set_cons_succ]
    refine wpAnyH_take (i := 12) (oi := { dst := some 101, op := Go.Op.move (Go.Operand.tmp 100), type := 4, pos := "law.go:183", after := #[{ on := 11, ground := Go.Ground.data }, { on := 3, ground := Go.Ground.chain }], guard := none }) (v := ?_) rfl (by kernel_rfl) (by kernel_rfl) (by kernel_rfl) (fun _ _ _ h => h) (Or.inl ⟨by rfl, ?_⟩) (by assumption) ?_
    rotate_left
    · (intro w hSw; (try dsimp only at hSw); subst hSw; go_simp; (try with_reducible rfl))
    simp only [Act.put, List.setIfInBounds_toArray, List.set_cons_zero, List.set_cons_succ]
    refine wpAnyH_take (i := 13) (oi := { dst := some 102, op := Go.Op.move (Go.Operand.tmp 10), type := 42, pos := "law.go:183", after := #[{ on := 12, ground := Go.Ground.guard }], guard := some (12, true) }) (v := ?_) rfl (by kernel_rfl) (by kernel_rfl) (by kernel_rfl) (fun _ _ _ h => h) (Or.inl ⟨by rfl, ?_⟩) (by assumption) ?_
    rotate_left
    · (intro w hSw; (try dsimp only at hSw); subst hSw; go_simp; (try with_reducible rfl))
    simp only [Act.put, List.setIfInBounds_toArray, List.set_cons_zero, List.set_cons_succ]
    refine wpAnyH_take (i := 14) (oi := { dst := some 103, op := Go.Op.indexAddr 42 (Go.Operand.tmp 102) (Go.Operand.const (Go.Value.int Go.IntKind.i64 2)), type := 0, pos := "law.go:183", after := #[{ on := 13, ground := Go.Ground.data }, { on := 12, ground := Go.Ground.guard }], guard := some (12, true) }) (v := ?_) rfl (by kernel_rfl) (by kernel_rfl) (by kernel_rfl) (fun _ _ _ h => h) (Or.inl ⟨by rfl, ?_⟩) (by assumption) ?_
    rotate_left
    · (intro w hSw; (try dsimp only at hSw); subst hSw; go_simp; (try with_reducible rfl))
    simp only [Act.put, List.setIfInBounds_toArray, List.set_cons_zero, List.set_cons_succ]
    refine wpAnyH_take (i := 15) (oi := { dst := some 104, op := Go.Op.load 36 (Go.Operand.tmp 103), type := 36, pos := "law.go:183", after := #[{ on := 14, ground := Go.Ground.data }, { on := 12, ground := Go.Ground.guard }], guard := some (12, true) }) (v := ?_) rfl (by kernel_rfl) (by kernel_rfl) (by kernel_rfl) (fun _ _ _ h => h) (Or.inl ⟨by rfl, ?_⟩) (by assumption) ?_
    rotate_left
    · (intro w hSw; (try dsimp only at hSw); subst hSw; go_simp; (try with_reducible rfl))
    simp only [Act.put, List.setIfInBounds_toArray, List.set_cons_zero, List.set_cons_succ]
    refine wpAnyH_take (i := 16) (oi := { dst := some 105, op := Go.Op.convert 36 9 (Go.Operand.tmp 104), type := 9, pos := "law.go:183", after := #[{ on := 15, ground := Go.Ground.data }, { on := 12, ground := Go.Ground.guard }], guard := some (12, true) }) (v := ?_) rfl (by kernel_rfl) (by kernel_rfl) (by kernel_rfl) (fun _ _ _ h => h) (Or.inl ⟨by rfl, ?_⟩) (by assumption) ?_
    rotate_left
    · (intro w hSw; (try dsimp only at hSw); subst hSw; go_simp; (try with_reducible rfl))
    simp only [Act.put, List.setIfInBounds_toArray, List.set_cons_zero, List.set_cons_succ]
    refine wpAnyH_take (i := 17) (oi := { dst := some 106, op := Go.Op.move (Go.Operand.tmp 2), type := 36, pos := "law.go:183", after := #[{ on := 12, ground := Go.Ground.guard }], guard := some (12, true) }) (v := ?_) rfl (by kernel_rfl) (by kernel_rfl) (by kernel_rfl) (fun _ _ _ h => h) (Or.inl ⟨by rfl, ?_⟩) (by assumption) ?_
    rotate_left
    · (intro w hSw; (try dsimp only at hSw); subst hSw; go_simp; (try with_reducible rfl))
    simp only [Act.put, List.setIfInBounds_toArray, List.set_cons_zero, List.set_cons_succ]
    refine wpAnyH_take (i := 18) (oi := { dst := some 107, op := Go.Op.convert 36 9 (Go.Operand.tmp 106), type := 9, pos := "law.go:183", after := #[{ on := 17, ground := Go.Ground.data }, { on := 12, ground := Go.Ground.guard }], guard := some (12, true) }) (v := ?_) rfl (by kernel_rfl) (by kernel_rfl) (by kernel_rfl) (fun _ _ _ h => h) (Or.inl ⟨by rfl, ?_⟩) (by assumption) ?_
    rotate_left
    · (intro w hSw; (try dsimp only at hSw); subst hSw; go_simp; (try with_reducible rfl))
    simp only [Act.put, List.setIfInBounds_toArray, List.set_cons_zero, List.set_cons_succ]
    refine wpAnyH_take (i := 19) (oi := { dst := some 108, op := Go.Op.binOp Go.BinOp.eql 9 (Go.Operand.tmp 105) (Go.Operand.tmp 107) 9, type := 4, pos := "law.go:183", after := #[{ on := 16, ground := Go.Ground.data }, { on := 18, ground := Go.Ground.data }, { on := 12, ground := Go.Ground.guard }], guard := some (12, true) }) (v := ?_) rfl (by kernel_rfl) (by kernel_rfl) (by kernel_rfl) (fun _ _ _ h => h) (Or.inl ⟨by rfl, ?_⟩) (by assumption) ?_
    rotate_left
    · (intro w hSw; (try dsimp only at hSw); subst hSw; go_simp; (try with_reducible rfl))
    simp only [Act.put, List.setIfInBounds_toArray, List.set_cons_zero, List.set_cons_succ]
    refine wpAnyH_take (i := 20) (oi := { dst := some 109, op := Go.Op.pick (Go.Operand.tmp 101) (Go.Operand.tmp 108) (Go.Operand.const (Go.Value.bool false)), type := 4, pos := "law.go:183", after := #[{ on := 12, ground := Go.Ground.data }, { on := 19, ground := Go.Ground.data }], guard := none }) (v := ?_) rfl (by kernel_rfl) (by kernel_rfl) (by kernel_rfl) (fun _ _ _ h => h) (Or.inl ⟨by rfl, ?_⟩) (by assumption) ?_
    rotate_left
    · (intro w hSw; (try dsimp only at hSw); subst hSw; go_simp; (try with_reducible rfl))
    simp only [Act.put, List.setIfInBounds_toArray, List.set_cons_zero, List.set_cons_succ]
    refine wpAnyH_take (i := 21) (oi := { dst := some 110, op := Go.Op.move (Go.Operand.tmp 109), type := 4, pos := "law.go:183", after := #[{ on := 20, ground := Go.Ground.data }, { on := 12, ground := Go.Ground.chain }], guard := none }) (v := ?_) rfl (by kernel_rfl) (by kernel_rfl) (by kernel_rfl) (fun _ _ _ h => h) (Or.inl ⟨by rfl, ?_⟩) (by assumption) ?_
    rotate_left
    · (intro w hSw; (try dsimp only at hSw); subst hSw; go_simp; (try with_reducible rfl))
    simp only [Act.put, List.setIfInBounds_toArray, List.set_cons_zero, List.set_cons_succ]
    refine wpAnyH_take (i := 22) (oi := { dst := some 111, op := Go.Op.move (Go.Operand.tmp 10), type := 42, pos := "law.go:183", after := #[{ on := 21, ground := Go.Ground.guard }], guard := some (21, true) }) (v := ?_) rfl (by kernel_rfl) (by kernel_rfl) (by kernel_rfl) (fun _ _ _ h => h) (Or.inl ⟨by rfl, ?_⟩) (by assumption) ?_
    rotate_left
    · (intro w hSw; (try dsimp only at hSw); subst hSw; go_simp; (try with_reducible rfl))
    simp only [Act.put, List.setIfInBounds_toArray, List.set_cons_zero, List.set_cons_succ]
    refine wpAnyH_take (i := 23) (oi := { dst := some 112, op := Go.Op.indexAddr 42 (Go.Operand.tmp 111) (Go.Operand.const (Go.Value.int Go.IntKind.i64 3)), type := 0, pos := "law.go:183", after := #[{ on := 22, ground := Go.Ground.data }, { on := 21, ground := Go.Ground.guard }], guard := some (21, true) }) (v := ?_) rfl (by kernel_rfl) (by kernel_rfl) (by kernel_rfl) (fun _ _ _ h => h) (Or.inl ⟨by rfl, ?_⟩) (by assumption) ?_
    rotate_left
    · (intro w hSw; (try dsimp only at hSw); subst hSw; go_simp; (try with_reducible rfl))
    simp only [Act.put, List.setIfInBounds_toArray, List.set_cons_zero, List.set_cons_succ]
    refine wpAnyH_take (i := 24) (oi := { dst := some 113, op := Go.Op.load 36 (Go.Operand.tmp 112), type := 36, pos := "law.go:183", after := #[{ on := 23, ground := Go.Ground.data }, { on := 21, ground := Go.Ground.guard }], guard := some (21, true) }) (v := ?_) rfl (by kernel_rfl) (by kernel_rfl) (by kernel_rfl) (fun _ _ _ h => h) (Or.inl ⟨by rfl, ?_⟩) (by assumption) ?_
    rotate_left
    · (intro w hSw; (try dsimp only at hSw); subst hSw; go_simp; (try with_reducible rfl))
    simp only [Act.put, List.setIfInBounds_toArray, List.set_cons_zero, List.set_cons_succ]
    refine wpAnyH_take (i := 25) (oi := { dst := some 114, op := Go.Op.convert 36 9 (Go.Operand.tmp 113), type := 9, pos := "law.go:183", after := #[{ on := 24, ground := Go.Ground.data }, { on := 21, ground := Go.Ground.guard }], guard := some (21, true) }) (v := ?_) rfl (by kernel_rfl) (by kernel_rfl) (by kernel_rfl) (fun _ _ _ h => h) (Or.inl ⟨by rfl, ?_⟩) (by assumption) ?_
    rotate_left
    · (intro w hSw; (try dsimp only at hSw); subst hSw; go_simp; (try with_reducible rfl))
    simp only [Act.put, List.setIfInBounds_toArray, List.set_cons_zero, List.set_cons_succ]
    refine wpAnyH_take (i := 26) (oi := { dst := some 115, op := Go.Op.move (Go.Operand.tmp 2), type := 36, pos := "law.go:183", after := #[{ on := 21, ground := Go.Ground.guard }], guard := some (21, true) }) (v := ?_) rfl (by kernel_rfl) (by kernel_rfl) (by kernel_rfl) (fun _ _ _ h => h) (Or.inl ⟨by rfl, ?_⟩) (by assumption) ?_
    rotate_left
    · (intro w hSw; (try dsimp only at hSw); subst hSw; go_simp; (try with_reducible rfl))
    simp only [Act.put, List.setIfInBounds_toArray, List.set_cons_zero, List.set_cons_succ]
    refine wpAnyH_take (i := 27) (oi := { dst := some 116, op := Go.Op.convert 36 9 (Go.Operand.tmp 115), type := 9, pos := "law.go:183", after := #[{ on := 26, ground := Go.Ground.data }, { on := 21, ground := Go.Ground.guard }], guard := some (21, true) }) (v := ?_) rfl (by kernel_rfl) (by kernel_rfl) (by kernel_rfl) (fun _ _ _ h => h) (Or.inl ⟨by rfl, ?_⟩) (by assumption) ?_
    rotate_left
    · (intro w hSw; (try dsimp only at hSw); subst hSw; go_simp; (try with_reducible rfl))
    simp only [Act.put, List.setIfInBounds_toArray, List.set_cons_zero, List.set_cons_succ]
    refine wpAnyH_take (i := 28) (oi := { dst := some 117, op := Go.Op.binOp Go.BinOp.eql 9 (Go.Operand.tmp 114) (Go.Operand.tmp 116) 9, type := 4, pos := "law.go:183", after := #[{ on := 25, ground := Go.Ground.data }, { on := 27, ground := Go.Ground.data }, { on := 21, ground := Go.Ground.guard }], guard := some (21, true) }) (v := ?_) rfl (by kernel_rfl) (by kernel_rfl) (by kernel_rfl) (fun _ _ _ h => h) (Or.inl ⟨by rfl, ?_⟩) (by assumption) ?_
    rotate_left
    · (intro w hSw; (try dsimp only at hSw); subst hSw; go_simp; (try with_reducible rfl))
    simp only [Act.put, List.setIfInBounds_toArray, List.set_cons_zero, List.set_cons_succ]
    refine wpAnyH_take (i := 29) (oi := { dst := some 118, op := Go.Op.pick (Go.Operand.tmp 110) (Go.Operand.tmp 117) (Go.Operand.const (Go.Value.bool false)), type := 4, pos := "law.go:183", after := #[{ on := 21, ground := Go.Ground.data }, { on := 28, ground := Go.Ground.data }], guard := none }) (v := ?_) rfl (by kernel_rfl) (by kernel_rfl) (by kernel_rfl) (fun _ _ _ h => h) (Or.inl ⟨by rfl, ?_⟩) (by assumption) ?_
    rotate_left
    · (intro w hSw; (try dsimp only at hSw); subst hSw; go_simp; (try with_reducible rfl))
    simp only [Act.put, List.setIfInBounds_toArray, List.set_cons_zero, List.set_cons_succ]
    refine wpAnyH_take (i := 30) (oi := { dst := some 119, op := Go.Op.move (Go.Operand.tmp 118), type := 4, pos := "law.go:183", after := #[{ on := 29, ground := Go.Ground.data }, { on := 21, ground := Go.Ground.chain }], guard := none }) (v := ?_) rfl (by kernel_rfl) (by kernel_rfl) (by kernel_rfl) (fun _ _ _ h => h) (Or.inl ⟨by rfl, ?_⟩) (by assumption) ?_
    rotate_left
    · (intro w hSw; (try dsimp only at hSw); subst hSw; go_simp; (try with_reducible rfl))
    simp only [Act.put, List.setIfInBounds_toArray, List.set_cons_zero, List.set_cons_succ]
    refine wpAnyH_take (i := 31) (oi := { dst := some 120, op := Go.Op.move (Go.Operand.tmp 8), type := 24, pos := "law.go:183", after := #[{ on := 30, ground := Go.Ground.guard }], guard := some (30, true) }) (v := ?_) rfl (by kernel_rfl) (by kernel_rfl) (by kernel_rfl) (fun _ _ _ h => h) (Or.inl ⟨by rfl, ?_⟩) (by assumption) ?_
    rotate_left
    · (intro w hSw; (try dsimp only at hSw); subst hSw; go_simp; (try with_reducible rfl))
    simp only [Act.put, List.setIfInBounds_toArray, List.set_cons_zero, List.set_cons_succ]
    refine wpAnyH_ready (rs := [32]) (by kernel_rfl) (by simp) ?_
    refine (AllReadyH.cons (o := { dst := some 121, op := Go.Op.call { callee := Go.Callee.value (Go.Operand.func 16), args := #[Go.Operand.tmp 120], argTypes := #[24] }, type := 3, pos := "law.go:183", after := #[{ on := 31, ground := Go.Ground.data }, { on := 30, ground := Go.Ground.chain }, { on := 30, ground := Go.Ground.guard }], guard := some (30, true) }) rfl (fun K hK => ?_) AllReadyH.nil)
    go_simp
    refine LO.out.mono ?_
    rintro e w8 ⟨rfl, hw8⟩
    subst hw8
    refine hK.out _ _ (rfl) (fun hHeld1 => ?_)
    clear hK K
    refine wpAnyH_take (i := 33) (oi := { dst := some 122, op := Go.Op.binOp Go.BinOp.eql 3 (Go.Operand.tmp 121) (Go.Operand.const (Go.Value.int Go.IntKind.i64 0)) 3, type := 4, pos := "law.go:183", after := #[{ on := 32, ground := Go.Ground.data }, { on := 30, ground := Go.Ground.guard }], guard := some (30, true) }) (v := ?_) rfl (by kernel_rfl) (by kernel_rfl) (by kernel_rfl) (fun _ _ _ h => h) (Or.inl ⟨by rfl, ?_⟩) (by assumption) ?_
    rotate_left
    · (intro w hSw; (try dsimp only at hSw); subst hSw; go_simp; (try with_reducible rfl))
    simp only [Act.put, List.setIfInBounds_toArray, List.set_cons_zero, List.set_cons_succ]
    refine wpAnyH_take (i := 34) (oi := { dst := some 123, op := Go.Op.pick (Go.Operand.tmp 119) (Go.Operand.tmp 122) (Go.Operand.const (Go.Value.bool false)), type := 4, pos := "law.go:183", after := #[{ on := 30, ground := Go.Ground.data }, { on := 33, ground := Go.Ground.data }], guard := none }) (v := ?_) rfl (by kernel_rfl) (by kernel_rfl) (by kernel_rfl) (fun _ _ _ h => h) (Or.inl ⟨by rfl, ?_⟩) (by assumption) ?_
    rotate_left
    · (intro w hSw; (try dsimp only at hSw); subst hSw; go_simp; (try with_reducible rfl))
    simp only [Act.put, List.setIfInBounds_toArray, List.set_cons_zero, List.set_cons_succ]
    refine wpAnyH_take (i := 35) (oi := { dst := some 6, op := Go.Op.assign (Go.Operand.tmp 123), type := 4, pos := "law.go:183", after := #[{ on := 34, ground := Go.Ground.data }, { on := 32, ground := Go.Ground.chain }, { on := 0, ground := Go.Ground.phase }, { on := 1, ground := Go.Ground.phase }, { on := 2, ground := Go.Ground.phase }, { on := 3, ground := Go.Ground.phase }, { on := 4, ground := Go.Ground.phase }, { on := 5, ground := Go.Ground.phase }, { on := 6, ground := Go.Ground.phase }, { on := 7, ground := Go.Ground.phase }, { on := 8, ground := Go.Ground.phase }, { on := 9, ground := Go.Ground.phase }, { on := 10, ground := Go.Ground.phase }, { on := 11, ground := Go.Ground.phase }, { on := 12, ground := Go.Ground.phase }, { on := 13, ground := Go.Ground.phase }, { on := 14, ground := Go.Ground.phase }, { on := 15, ground := Go.Ground.phase }, { on := 16, ground := Go.Ground.phase }, { on := 17, ground := Go.Ground.phase }, { on := 18, ground := Go.Ground.phase }, { on := 19, ground := Go.Ground.phase }, { on := 20, ground := Go.Ground.phase }, { on := 21, ground := Go.Ground.phase }, { on := 22, ground := Go.Ground.phase }, { on := 23, ground := Go.Ground.phase }, { on := 24, ground := Go.Ground.phase }, { on := 25, ground := Go.Ground.phase }, { on := 26, ground := Go.Ground.phase }, { on := 27, ground := Go.Ground.phase }, { on := 28, ground := Go.Ground.phase }, { on := 29, ground := Go.Ground.phase }, { on := 30, ground := Go.Ground.phase }, { on := 31, ground := Go.Ground.phase }, { on := 32, ground := Go.Ground.phase }, { on := 33, ground := Go.Ground.phase }, { on := 34, ground := Go.Ground.phase }], guard := none }) (v := ?_) rfl (by kernel_rfl) (by kernel_rfl) (by kernel_rfl) (fun _ _ _ h => h) (Or.inl ⟨by rfl, ?_⟩) (by assumption) ?_
    rotate_left
    · (intro w hSw; (try dsimp only at hSw); subst hSw; go_simp; (try with_reducible rfl))
    simp only [Act.put, List.setIfInBounds_toArray, List.set_cons_zero, List.set_cons_succ]
    refine wpAnyH_done (by kernel_rfl) ?_ _
    go_wp2_with fail
    go_ret
    exact ⟨by simp, (HBW.out.trans (B7.out.mono (by rw [HSB.out]; have := HW0.out; omega))).drew⟩
end Go.Proofs.Ytoeedbimhihbhaa
