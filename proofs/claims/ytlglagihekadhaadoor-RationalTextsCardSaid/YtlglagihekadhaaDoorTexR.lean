/- The reference's Parse: its contract. -/
import Derived.Test.YtlglagihekadhaaDoorTexP
import Derived.Test.YtlglagihekadhaaDoorRatR
import Derived.LoopTactic
import Derived.BigRegion
namespace Go.Proofs.YtlglagihekadhaaDoor
open Go.RowKit Go.Lib

/-- The reference's loop over the bytes. -/
def rl : List UInt8 → Bool → Nat → Nat → Option (Bool × Nat × Nat)
  | [], p, a, b => some (p, a, b)
  | c :: r, p, a, b =>
    if c.toNat = 47 ∧ p = false then rl r true a b
    else if c.toNat < 48 ∨ 57 < c.toNat then none
    else if 144115188075855872 < (if p then b else a) then none
    else if p then rl r true a (10 * b + (c.toNat - 48)) else rl r false (10 * a + (c.toNat - 48)) b
/-- What comes behind the loop. -/
def rend (l : List UInt8) (sg : Int) : Option (Bool × Nat × Nat) → Option (Int × Int)
  | none => none
  | some (p, a, b) => if (if p then (b : Int) else 1) = 0 then none else if textS (sg * a) (if p then (b : Int) else 1) = l then some (sg * a, if p then (b : Int) else 1) else none
def refV : Option (Int × Int) → Value
  | none => .tuple #[.agg #[.int .i64 0, .int .i64 0], .bool false]
  | some (n, d) => .tuple #[.agg #[.int .i64 n, .int .i64 d], .bool true]

theorem sget (s : ByteArray) (i : Nat) (h : i < s.size) : (s[i]'h).toNat = (s.data.toList.getD i 0).toNat := by
  show (s.data[i]'h).toNat = _
  congr 1
  have h' : i < s.data.size := h
  simp [List.getD_eq_getElem?_getD, Array.getElem?_eq_getElem h']
/-- The two counters. -/
structure VB (w : World) (q : Nat) (a b : Nat) : Prop where
  lt : q < w.heap.size
  c0 : w.cell? ⟨q, 0, none⟩ = some (.int .i64 (a : Int))
  c1 : w.cell? ⟨q, 1, none⟩ = some (.int .i64 (b : Int))
  f0 : w.frozen? ⟨q, 0, none⟩ = false
  f1 : w.frozen? ⟨q, 1, none⟩ = false

theorem VB.below {w w' : World} {q a b : Nat} (h : VB w q a b) (hb : Below w.heap.size w w') : VB w' q a b :=
  ⟨Nat.lt_of_lt_of_le h.lt hb.size, (hb.cell h.lt).trans h.c0, (hb.cell h.lt).trans h.c1, (hb.frozen h.lt).trans h.f0, (hb.frozen h.lt).trans h.f1⟩
theorem VB.laid (w : World) (t : TypeId) : VB (w.alloc (.cells #[.int .i64 0, .int .i64 0] t)) w.heap.size 0 0 :=
  ⟨by show w.heap.size < (w.heap.push _).size; simp, by simp [go_sem], by simp [go_sem], by simp [go_sem], by simp [go_sem]⟩
theorem beq_ne {a b : Nat} (h : a ≠ b) : ((a : Int) == (b : Int)) = false := by rw [beq_eq_false_iff_ne]; omega

theorem dropD {xs : List UInt8} {k : Nat} (hk : k < xs.length) : xs.drop k = xs.getD k 0 :: xs.drop (k + 1) := by
  rw [List.drop_eq_getElem_cons hk]; simp [List.getD_eq_getElem?_getD, hk]

theorem rl_slash {c : UInt8} {r : List UInt8} {a b : Nat} (h : c.toNat = 47) : rl (c :: r) false a b = rl r true a b := by rw [rl, if_pos ⟨h, rfl⟩]
theorem rl_bad {c : UInt8} {r : List UInt8} {p : Bool} {a b : Nat} (h2 : ¬ (c.toNat = 47 ∧ p = false)) (h : c.toNat < 48 ∨ 57 < c.toNat) : rl (c :: r) p a b = none := by rw [rl, if_neg h2, if_pos h]
theorem rl_big {c : UInt8} {r : List UInt8} {p : Bool} {a b : Nat} (h1 : c.toNat ≠ 47) (h : 144115188075855872 < (if p then b else a)) : rl (c :: r) p a b = none := by
  rw [rl, if_neg (fun h => h1 h.1)]
  by_cases hb : c.toNat < 48 ∨ 57 < c.toNat
  · rw [if_pos hb]
  · rw [if_neg hb, if_pos h]
theorem rl_a {c : UInt8} {r : List UInt8} {a b : Nat} (h0 : 48 ≤ c.toNat) (h1 : c.toNat ≤ 57) (h : a ≤ 144115188075855872) : rl (c :: r) false a b = rl r false (10 * a + (c.toNat - 48)) b := by
  rw [rl, if_neg (by omega), if_neg (by omega), if_neg (by simp; omega)]; rfl
theorem rl_b {c : UInt8} {r : List UInt8} {a b : Nat} (h0 : 48 ≤ c.toNat) (h1 : c.toNat ≤ 57) (h : b ≤ 144115188075855872) : rl (c :: r) true a b = rl r true a (10 * b + (c.toNat - 48)) := by
  rw [rl, if_neg (by omega), if_neg (by omega), if_neg (by simp; omega)]; rfl
theorem VB.laid2 (w : World) (o : Obj) (t : TypeId) : VB ((w.alloc o).alloc (.cells #[.int .i64 0, .int .i64 0] t)) (w.heap.size + 1) 0 0 := by
  have h := VB.laid (w.alloc o) t
  rwa [show (w.alloc o).heap.size = w.heap.size + 1 from by show (w.heap.push o).size = _; simp] at h
theorem RB.step {w w' : World} {p B : Nat} (h : RB w p) (hp : p < B) (hb : Below B w w') : RB w' p :=
  ⟨by have := hb.size; have := h.lt; omega, (hb.cell hp).trans h.c0, (hb.cell hp).trans h.c1, (hb.frozen hp).trans h.f0, (hb.frozen hp).trans h.f1⟩
theorem VB.set0 {w : World} {q a b n : Nat} {v : Int} (h : VB w q a b) (e : v = n) : VB ((w.setCell ⟨q, 0, none⟩ (.int .i64 v)).drew) q n b := by
  subst e
  obtain ⟨h1, h2, h3, h4, h5⟩ := h
  exact ⟨by simp [go_sem, *], by simp [go_sem, *], by simp [go_sem, *], by simp [go_sem, *], by simp [go_sem, *]⟩
theorem VB.set1 {w : World} {q a b n : Nat} {v : Int} (h : VB w q a b) (e : v = n) : VB ((w.setCell ⟨q, 1, none⟩ (.int .i64 v)).drew) q a n := by
  subst e
  obtain ⟨h1, h2, h3, h4, h5⟩ := h
  exact ⟨by simp [go_sem, *], by simp [go_sem, *], by simp [go_sem, *], by simp [go_sem, *], by simp [go_sem, *]⟩
theorem rend_at (l : List UInt8) (sg : Int) (p : Bool) (a b : Nat) (n d : Int) (hn : sg * a = n) (hd : (if p then (b : Int) else 1) = d) (hz : d ≠ 0) : rend l sg (some (p, a, b)) = if textS n d = l then some (n, d) else none := by
  subst hn hd
  rw [rend, if_neg hz]
set_option maxRecDepth 10000 in
set_option maxHeartbeats 8000000 in
theorem rparse_pos (s : ByteArray) (hl : s.size ≤ 100) (hne : 0 < s.size) (h45 : (s.data.toList.getD 0 0).toNat ≠ 45) (w : World) :
    Calls Tryd.prog 11 #[.string s] w fun e w' => e = .returned (refV (rend s.data.toList 1 (rl (s.data.toList.drop 0) false 0 0))) ∧ Below w.heap.size w w' := by
  have hll : s.data.toList.length = s.size := Array.length_toList
  obtain ⟨c0, hc0⟩ : ∃ c0, (s.data.toList.getD 0 0).toNat = c0 := ⟨_, rfl⟩
  rw [hc0] at h45
  have hz45 : ((c0 : Int) == 45) = false := beq_ne (b := 45) h45
  have h0 : ∀ h : 0 < s.size, (((s[0]'h).toNat : Nat) : Int) = (c0 : Int) := fun h => by rw [sget s 0 h, hc0]
  have SG := fun i (h : i < s.size) => box (sget s i h)
  have hlz : (0 : Int) < (s.size : Int) := by omega
  have hs : s.toList = s.data.toList := by
    obtain ⟨⟨q⟩⟩ := s
    simp [go_sem]
  generalize hL : s.data.toList = l at hll SG hs
  clear hc0 hL
  generalize hr0 : rl (l.drop 0) false 0 0 = r0x
  have R0 := box (RB.laid w 31)
  have K0 := (Below.refl w.heap.size w).alloc (Nat.le_refl _) (.cells #[.int .i64 0, .int .i64 0] 31)
  go_enter Tryd.func11, Tryd.ntmps11
  go_wp2_with fail
  go_loopw [5, 7] (fun t5 t7 wr => ∃ (k a b m : Nat), k ≤ l.length ∧ t5 = .int .i64 k ∧ t7 = .int .i64 m ∧ m ≤ 1 ∧ a ≤ 1441151880758558729 ∧ b ≤ 1441151880758558729 ∧ Box (VB wr (w.heap.size + 1) a b) ∧ Box (RB wr w.heap.size) ∧ Box (r0x = rl (l.drop k) (m == 1) a b) ∧ Below w.heap.size w wr) (fun t5 _ _ => l.length - (Lib.intOf t5).toNat)
  case atStart =>
    exact ⟨0, 0, 0, 0, Nat.zero_le _, rfl, rfl, by omega, by omega, by omega, box (VB.laid2 w _ _), box (R0.out.below ((Below.refl _ _).alloc (Nat.le_refl _) _)), box hr0.symm, K0.alloc K0.size _⟩
  case round =>
    obtain ⟨k, a, b, m, hk, rfl, rfl, hm, la, lb, V, R, hrl, kb⟩ := hrel
    by_cases hlt : k < l.length
    · have hltz : (k : Int) < (s.size : Int) := by omega
      have hge : (0 : Int) ≤ (k : Int) := by omega
      have hks : k < s.size := by omega
      have hcc := fun h : k < s.size => (SG k h).out
      obtain ⟨c, hc⟩ : ∃ c, l.getD k 0 = c := ⟨_, rfl⟩
      rw [hc] at hcc
      have hD : Box (r0x = rl (c :: l.drop (k + 1)) (m == 1) a b) := box (by rw [hrl.out, dropD hlt, hc])
      have lc : c.toNat < 256 := c.toNat_lt
      obtain ⟨x, hx⟩ : ∃ x, c.toNat = x := ⟨_, rfl⟩
      have hcx : ∀ h : k < s.size, (((s[k]'h).toNat : Nat) : Int) = (x : Int) := fun h => by rw [hcc h, hx]
      rw [hx] at lc
      clear hcc
      rcases (by omega : m = 0 ∨ m = 1) with rfl | rfl
      · have hD : Box (r0x = rl (c :: l.drop (k + 1)) false a b) := hD
        have v0 := V.out.c0
        have v1 := V.out.c1
        by_cases e47 : x = 47
        · have z47 : ((x : Int) == 47) = true := by rw [beq_iff_eq]; omega
          have z48 : (x : Int) < 48 := by omega
          go_wp2_with fail
          go_roundw
          case rel => exact ⟨k + 1, a, b, 1, by omega, by go_num, rfl, by omega, la, lb, V, R, box (by rw [hD.out, rl_slash (hx.trans e47)]; rfl), kb⟩
          case measure => simp [Lib.intOf]; omega
        have z47 : ((x : Int) == 47) = false := beq_ne (b := 47) e47
        by_cases l48 : x < 48
        · have z48 : (x : Int) < 48 := by omega
          obtain ⟨_, r0, r1, g0, g1⟩ := R.out
          go_wp2_with fail
          refine bodyPost_ret (v := .tuple #[.agg #[.int .i64 0, .int .i64 0], .bool false]) (by simp [results, Tryd.results11, go_sem, *]) rfl ⟨by rw [hD.out, rl_bad (c := c) (fun h => e47 (hx.symm.trans h.1)) (by omega)]; rfl, ?_⟩
          exact (kb.setCell (Nat.le_refl _) _).setCell (Nat.le_refl _) _
        have z48 : ¬ (x : Int) < 48 := by omega
        by_cases l57 : 57 < x
        · have z57 : (57 : Int) < (x : Int) := by omega
          obtain ⟨_, r0, r1, g0, g1⟩ := R.out
          go_wp2_with fail
          refine bodyPost_ret (v := .tuple #[.agg #[.int .i64 0, .int .i64 0], .bool false]) (by simp [results, Tryd.results11, go_sem, *]) rfl ⟨by rw [hD.out, rl_bad (c := c) (fun h => e47 (hx.symm.trans h.1)) (by omega)]; rfl, ?_⟩
          exact (kb.setCell (Nat.le_refl _) _).setCell (Nat.le_refl _) _
        have z57 : ¬ (57 : Int) < (x : Int) := by omega
        by_cases lb2 : 144115188075855872 < a
        · have zb : (144115188075855872 : Int) < (a : Int) := by omega
          obtain ⟨_, r0, r1, g0, g1⟩ := R.out
          go_wp2_with fail
          refine bodyPost_ret (v := .tuple #[.agg #[.int .i64 0, .int .i64 0], .bool false]) (by simp [results, Tryd.results11, go_sem, *]) rfl ⟨by rw [hD.out, rl_big (by omega) (by simpa using lb2)]; rfl, ?_⟩
          exact (kb.setCell (Nat.le_refl _) _).setCell (Nat.le_refl _) _
        have zb : ¬ (144115188075855872 : Int) < (a : Int) := by omega
        obtain ⟨_, _, _, u0, u1⟩ := V.out
        go_wp2_with fail
        go_region
        go_wp2_with fail
        go_roundw
        case rel => exact ⟨k + 1, 10 * a + (x - 48), b, 0, by omega, by go_num, rfl, by omega, by omega, lb, box (V.out.set0 (by omega)), box (R.out.step (Nat.lt_succ_self _) (((Below.refl (w.heap.size + 1) wr).setCell (Nat.le_refl _) _).drew)), box (by rw [hD.out, rl_a (by omega) (by omega) (by omega), hx]; rfl), (kb.setCell (Nat.le_succ _) _).drew⟩
        case measure => simp [Lib.intOf]; omega

      · have hD : Box (r0x = rl (c :: l.drop (k + 1)) true a b) := hD
        have v0 := V.out.c0
        have v1 := V.out.c1
        by_cases e47 : x = 47
        · have z47 : ((x : Int) == 47) = true := by rw [beq_iff_eq]; omega
          have z48 : (x : Int) < 48 := by omega
          obtain ⟨_, r0, r1, g0, g1⟩ := R.out
          go_wp2_with fail
          refine bodyPost_ret (v := .tuple #[.agg #[.int .i64 0, .int .i64 0], .bool false]) (by simp [results, Tryd.results11, go_sem, *]) rfl ⟨by rw [hD.out, rl_bad (by simp) (by omega)]; rfl, ?_⟩
          exact (kb.setCell (Nat.le_refl _) _).setCell (Nat.le_refl _) _
        have z47 : ((x : Int) == 47) = false := beq_ne (b := 47) e47
        by_cases l48 : x < 48
        · have z48 : (x : Int) < 48 := by omega
          obtain ⟨_, r0, r1, g0, g1⟩ := R.out
          go_wp2_with fail
          refine bodyPost_ret (v := .tuple #[.agg #[.int .i64 0, .int .i64 0], .bool false]) (by simp [results, Tryd.results11, go_sem, *]) rfl ⟨by rw [hD.out, rl_bad (c := c) (fun h => e47 (hx.symm.trans h.1)) (by omega)]; rfl, ?_⟩
          exact (kb.setCell (Nat.le_refl _) _).setCell (Nat.le_refl _) _
        have z48 : ¬ (x : Int) < 48 := by omega
        by_cases l57 : 57 < x
        · have z57 : (57 : Int) < (x : Int) := by omega
          obtain ⟨_, r0, r1, g0, g1⟩ := R.out
          go_wp2_with fail
          refine bodyPost_ret (v := .tuple #[.agg #[.int .i64 0, .int .i64 0], .bool false]) (by simp [results, Tryd.results11, go_sem, *]) rfl ⟨by rw [hD.out, rl_bad (c := c) (fun h => e47 (hx.symm.trans h.1)) (by omega)]; rfl, ?_⟩
          exact (kb.setCell (Nat.le_refl _) _).setCell (Nat.le_refl _) _
        have z57 : ¬ (57 : Int) < (x : Int) := by omega
        by_cases lb2 : 144115188075855872 < b
        · have zb : (144115188075855872 : Int) < (b : Int) := by omega
          obtain ⟨_, r0, r1, g0, g1⟩ := R.out
          go_wp2_with fail
          refine bodyPost_ret (v := .tuple #[.agg #[.int .i64 0, .int .i64 0], .bool false]) (by simp [results, Tryd.results11, go_sem, *]) rfl ⟨by rw [hD.out, rl_big (by omega) (by simpa using lb2)]; rfl, ?_⟩
          exact (kb.setCell (Nat.le_refl _) _).setCell (Nat.le_refl _) _
        have zb : ¬ (144115188075855872 : Int) < (b : Int) := by omega
        obtain ⟨_, _, _, u0, u1⟩ := V.out
        go_wp2_with fail
        go_region
        go_wp2_with fail
        go_roundw
        case rel => exact ⟨k + 1, a, 10 * b + (x - 48), 1, by omega, by go_num, rfl, by omega, la, by omega, box (V.out.set1 (by omega)), box (R.out.step (Nat.lt_succ_self _) (((Below.refl (w.heap.size + 1) wr).setCell (Nat.le_refl _) _).drew)), box (by rw [hD.out, rl_b (by omega) (by omega) (by omega), hx]; rfl), (kb.setCell (Nat.le_succ _) _).drew⟩
        case measure => simp [Lib.intOf]; omega

    · have hge : ¬ (k : Int) < (s.size : Int) := by omega
      have hkl : k = l.length := by omega
      have HE : Box (r0x = some (m == 1, a, b)) := box (by rw [hrl.out, hkl, List.drop_length]; rfl)
      clear hrl SG hkl
      obtain ⟨_, v0, v1, u0, u1⟩ := V.out
      obtain ⟨_, r0, r1, g0, g1⟩ := R.out
      rcases (by omega : m = 0 ∨ m = 1) with rfl | rfl
      · go_wp2_with fail
        have R1 := box (R.out.step (Nat.lt_succ_self _) ((((Below.refl (w.heap.size + 1) wr).setCell (Nat.le_refl _) (p := ⟨w.heap.size + 1, 1, none⟩) (.int .i64 1))).alloc (by have := V.out.lt; simp; omega) (.cells #[.int .i64 (a : Int), .int .i64 1] 31)))
        have kb1 := ((kb.setCell (Nat.le_succ _) (p := ⟨w.heap.size + 1, 1, none⟩) (.int .i64 1)).alloc (by have := V.out.lt; simp; omega) (.cells #[.int .i64 (a : Int), .int .i64 1] 31))
        have RE := rend_at l 1 false a b (a : Int) 1 (Int.one_mul _) rfl (by omega)
        refine (rvalid_any (a : Int) 1 (by omega) (by omega) (by omega) (by omega) _).mono ?_
        rintro e w4 ⟨rfl, hb4⟩
        have q0 : w4.cell? ⟨wr.heap.size, 0, none⟩ = some (.int .i64 (a : Int)) := keepb hb4 (by simp [go_sem])
        have q1 : w4.cell? ⟨wr.heap.size, 1, none⟩ = some (.int .i64 1) := keepb hb4 (by simp [go_sem])
        have R4 := box (R1.out.below hb4)
        have kb4 := kb1.trans (hb4.mono kb1.size)
        obtain ⟨_, r0, r1, g0, g1⟩ := R4.out
        cases hv : validB (a : Int) 1 with
        | false =>
          have hts : textS (a : Int) 1 ≠ l := by
            unfold textS; rw [hv, if_neg (by decide)]; intro h; rw [← h] at hll; simp at hll; omega
          rw [if_neg hts] at RE
          have RB2 := box RE
          clear RE hts
          go_wp2_with fail
          refine bodyPost_ret (v := .tuple #[.agg #[.int .i64 0, .int .i64 0], .bool false]) (by simp [results, Tryd.results11, go_sem, *]) rfl ⟨by rw [HE.out]; exact congrArg (fun o => Ending.returned (refV o)) RB2.out.symm, ?_⟩
          exact (kb4.setCell (Nat.le_refl _) _).setCell (Nat.le_refl _) _
        | true =>
          have ok := okR_of hv
          unfold okR at ok
          go_wp2_with fail
          refine (rtext_any (a : Int) 1 (by omega) (by omega) (by omega) (by omega) (by omega) _).mono ?_
          rintro e w5 ⟨rfl, hb5⟩
          have q0' := keepb hb5 q0
          have q1' := keepb hb5 q1
          have R5 := box (R4.out.below hb5)
          have kb5 := kb4.trans (hb5.mono kb4.size)
          clear ok r0 r1 g0 g1 q0 q1 hb4 hb5 v0 v1 u0 u1
          obtain ⟨_, r0, r1, g0, g1⟩ := R5.out
          have hts : textS (a : Int) 1 = tx (a : Int) (full 1) := by unfold textS; rw [hv, if_pos rfl]
          rw [hts] at RE
          have RB2 := box RE
          clear RE hts hv
          generalize tx (a : Int) (full 1) = tl at RB2
          by_cases e : tl = l
          · have e2 : (tl == l) = true := by simpa using e
            have RB3 := RB2.out
            rw [if_pos e] at RB3
            replace RB3 := box RB3
            clear RB2
            go_wp2_with fail
            refine bodyPost_ret (v := .tuple #[.agg #[.int .i64 (a : Int), .int .i64 1], .bool true]) (by simp [results, Tryd.results11, go_sem, *]) rfl ⟨by rw [HE.out]; exact congrArg (fun o => Ending.returned (refV o)) RB3.out.symm, ?_⟩
            exact (kb5.setCell (Nat.le_refl _) _).setCell (Nat.le_refl _) _
          · have e2 : (tl == l) = false := by simpa using e
            have RB3 := RB2.out
            rw [if_neg e] at RB3
            replace RB3 := box RB3
            clear RB2
            go_wp2_with fail
            refine bodyPost_ret (v := .tuple #[.agg #[.int .i64 0, .int .i64 0], .bool false]) (by simp [results, Tryd.results11, go_sem, *]) rfl ⟨by rw [HE.out]; exact congrArg (fun o => Ending.returned (refV o)) RB3.out.symm, ?_⟩
            exact (kb5.setCell (Nat.le_refl _) _).setCell (Nat.le_refl _) _
      · by_cases hb0 : b = 0
        · subst hb0
          go_wp2_with fail
          refine bodyPost_ret (v := .tuple #[.agg #[.int .i64 0, .int .i64 0], .bool false]) (by simp [results, Tryd.results11, go_sem, *]) rfl ⟨by rw [HE.out]; rfl, ?_⟩
          exact ((kb.setCell (Nat.le_refl _) _).setCell (Nat.le_refl _) _).alloc (by simp; exact kb.size) _
        · have zb0 : ((b : Int) == 0) = false := beq_ne (b := 0) hb0
          go_wp2_with fail
          have R1 := box (R.out.step (Nat.lt_succ_self _) ((Below.refl (w.heap.size + 1) wr).alloc (by have := V.out.lt; omega) (.cells #[.int .i64 (a : Int), .int .i64 (b : Int)] 31)))
          have kb1 := (kb.alloc kb.size (.cells #[.int .i64 (a : Int), .int .i64 (b : Int)] 31))
          have RE := rend_at l 1 true a b (a : Int) (b : Int) (Int.one_mul _) rfl (by omega)
          refine (rvalid_any (a : Int) (b : Int) (by omega) (by omega) (by omega) (by omega) _).mono ?_
          rintro e w4 ⟨rfl, hb4⟩
          have q0 : w4.cell? ⟨wr.heap.size, 0, none⟩ = some (.int .i64 (a : Int)) := keepb hb4 (by simp [go_sem])
          have q1 : w4.cell? ⟨wr.heap.size, 1, none⟩ = some (.int .i64 (b : Int)) := keepb hb4 (by simp [go_sem])
          have R4 := box (R1.out.below hb4)
          have kb4 := kb1.trans (hb4.mono kb1.size)
          obtain ⟨_, r0, r1, g0, g1⟩ := R4.out
          cases hv : validB (a : Int) (b : Int) with
          | false =>
            have hts : textS (a : Int) (b : Int) ≠ l := by
              unfold textS; rw [hv, if_neg (by decide)]; intro h; rw [← h] at hll; simp at hll; omega
            rw [if_neg hts] at RE
            have RB2 := box RE
            clear RE hts
            go_wp2_with fail
            refine bodyPost_ret (v := .tuple #[.agg #[.int .i64 0, .int .i64 0], .bool false]) (by simp [results, Tryd.results11, go_sem, *]) rfl ⟨by rw [HE.out]; exact congrArg (fun o => Ending.returned (refV o)) RB2.out.symm, ?_⟩
            exact (kb4.setCell (Nat.le_refl _) _).setCell (Nat.le_refl _) _
          | true =>
            have ok := okR_of hv
            unfold okR at ok
            go_wp2_with fail
            refine (rtext_any (a : Int) (b : Int) (by omega) (by omega) (by omega) (by omega) (by omega) _).mono ?_
            rintro e w5 ⟨rfl, hb5⟩
            have q0' := keepb hb5 q0
            have q1' := keepb hb5 q1
            have R5 := box (R4.out.below hb5)
            have kb5 := kb4.trans (hb5.mono kb4.size)
            clear ok r0 r1 g0 g1 q0 q1 hb4 hb5 v0 v1 u0 u1
            obtain ⟨_, r0, r1, g0, g1⟩ := R5.out
            have hts : textS (a : Int) (b : Int) = tx (a : Int) (full (b : Int)) := by unfold textS; rw [hv, if_pos rfl]
            rw [hts] at RE
            have RB2 := box RE
            clear RE hts hv
            generalize tx (a : Int) (full (b : Int)) = tl at RB2
            by_cases e : tl = l
            · have e2 : (tl == l) = true := by simpa using e
              have RB3 := RB2.out
              rw [if_pos e] at RB3
              replace RB3 := box RB3
              clear RB2
              go_wp2_with fail
              refine bodyPost_ret (v := .tuple #[.agg #[.int .i64 (a : Int), .int .i64 (b : Int)], .bool true]) (by simp [results, Tryd.results11, go_sem, *]) rfl ⟨by rw [HE.out]; exact congrArg (fun o => Ending.returned (refV o)) RB3.out.symm, ?_⟩
              exact (kb5.setCell (Nat.le_refl _) _).setCell (Nat.le_refl _) _
            · have e2 : (tl == l) = false := by simpa using e
              have RB3 := RB2.out
              rw [if_neg e] at RB3
              replace RB3 := box RB3
              clear RB2
              go_wp2_with fail
              refine bodyPost_ret (v := .tuple #[.agg #[.int .i64 0, .int .i64 0], .bool false]) (by simp [results, Tryd.results11, go_sem, *]) rfl ⟨by rw [HE.out]; exact congrArg (fun o => Ending.returned (refV o)) RB3.out.symm, ?_⟩
              exact (kb5.setCell (Nat.le_refl _) _).setCell (Nat.le_refl _) _
set_option maxRecDepth 10000 in
set_option maxHeartbeats 8000000 in
theorem rparse_neg (s : ByteArray) (hl : s.size ≤ 100) (hne : 0 < s.size) (h45 : (s.data.toList.getD 0 0).toNat = 45) (w : World) :
    Calls Tryd.prog 11 #[.string s] w fun e w' => e = .returned (refV (rend s.data.toList (-1) (rl (s.data.toList.drop 1) false 0 0))) ∧ Below w.heap.size w w' := by
  have hll : s.data.toList.length = s.size := Array.length_toList
  obtain ⟨c0, hc0⟩ : ∃ c0, (s.data.toList.getD 0 0).toNat = c0 := ⟨_, rfl⟩
  rw [hc0] at h45
  have hz45 : ((c0 : Int) == 45) = true := by rw [beq_iff_eq]; omega
  have h0 : ∀ h : 0 < s.size, (((s[0]'h).toNat : Nat) : Int) = (c0 : Int) := fun h => by rw [sget s 0 h, hc0]
  have SG := fun i (h : i < s.size) => box (sget s i h)
  have hlz : (0 : Int) < (s.size : Int) := by omega
  have hs : s.toList = s.data.toList := by
    obtain ⟨⟨q⟩⟩ := s
    simp [go_sem]
  generalize hL : s.data.toList = l at hll SG hs
  clear hc0 hL
  generalize hr0 : rl (l.drop 1) false 0 0 = r0x
  have R0 := box (RB.laid w 31)
  have K0 := (Below.refl w.heap.size w).alloc (Nat.le_refl _) (.cells #[.int .i64 0, .int .i64 0] 31)
  go_enter Tryd.func11, Tryd.ntmps11
  go_wp2_with fail
  go_loopw [5, 7] (fun t5 t7 wr => ∃ (k a b m : Nat), k ≤ l.length ∧ t5 = .int .i64 k ∧ t7 = .int .i64 m ∧ m ≤ 1 ∧ a ≤ 1441151880758558729 ∧ b ≤ 1441151880758558729 ∧ Box (VB wr (w.heap.size + 1) a b) ∧ Box (RB wr w.heap.size) ∧ Box (r0x = rl (l.drop k) (m == 1) a b) ∧ Below w.heap.size w wr) (fun t5 _ _ => l.length - (Lib.intOf t5).toNat)
  case atStart =>
    exact ⟨1, 0, 0, 0, by omega, rfl, rfl, by omega, by omega, by omega, box (VB.laid2 w _ _), box (R0.out.below ((Below.refl _ _).alloc (Nat.le_refl _) _)), box hr0.symm, K0.alloc K0.size _⟩
  case round =>
    obtain ⟨k, a, b, m, hk, rfl, rfl, hm, la, lb, V, R, hrl, kb⟩ := hrel
    by_cases hlt : k < l.length
    · have hltz : (k : Int) < (s.size : Int) := by omega
      have hge : (0 : Int) ≤ (k : Int) := by omega
      have hks : k < s.size := by omega
      have hcc := fun h : k < s.size => (SG k h).out
      obtain ⟨c, hc⟩ : ∃ c, l.getD k 0 = c := ⟨_, rfl⟩
      rw [hc] at hcc
      have hD : Box (r0x = rl (c :: l.drop (k + 1)) (m == 1) a b) := box (by rw [hrl.out, dropD hlt, hc])
      have lc : c.toNat < 256 := c.toNat_lt
      obtain ⟨x, hx⟩ : ∃ x, c.toNat = x := ⟨_, rfl⟩
      have hcx : ∀ h : k < s.size, (((s[k]'h).toNat : Nat) : Int) = (x : Int) := fun h => by rw [hcc h, hx]
      rw [hx] at lc
      clear hcc
      rcases (by omega : m = 0 ∨ m = 1) with rfl | rfl
      · have hD : Box (r0x = rl (c :: l.drop (k + 1)) false a b) := hD
        have v0 := V.out.c0
        have v1 := V.out.c1
        by_cases e47 : x = 47
        · have z47 : ((x : Int) == 47) = true := by rw [beq_iff_eq]; omega
          have z48 : (x : Int) < 48 := by omega
          go_wp2_with fail
          go_roundw
          case rel => exact ⟨k + 1, a, b, 1, by omega, by go_num, rfl, by omega, la, lb, V, R, box (by rw [hD.out, rl_slash (hx.trans e47)]; rfl), kb⟩
          case measure => simp [Lib.intOf]; omega
        have z47 : ((x : Int) == 47) = false := beq_ne (b := 47) e47
        by_cases l48 : x < 48
        · have z48 : (x : Int) < 48 := by omega
          obtain ⟨_, r0, r1, g0, g1⟩ := R.out
          go_wp2_with fail
          refine bodyPost_ret (v := .tuple #[.agg #[.int .i64 0, .int .i64 0], .bool false]) (by simp [results, Tryd.results11, go_sem, *]) rfl ⟨by rw [hD.out, rl_bad (c := c) (fun h => e47 (hx.symm.trans h.1)) (by omega)]; rfl, ?_⟩
          exact (kb.setCell (Nat.le_refl _) _).setCell (Nat.le_refl _) _
        have z48 : ¬ (x : Int) < 48 := by omega
        by_cases l57 : 57 < x
        · have z57 : (57 : Int) < (x : Int) := by omega
          obtain ⟨_, r0, r1, g0, g1⟩ := R.out
          go_wp2_with fail
          refine bodyPost_ret (v := .tuple #[.agg #[.int .i64 0, .int .i64 0], .bool false]) (by simp [results, Tryd.results11, go_sem, *]) rfl ⟨by rw [hD.out, rl_bad (c := c) (fun h => e47 (hx.symm.trans h.1)) (by omega)]; rfl, ?_⟩
          exact (kb.setCell (Nat.le_refl _) _).setCell (Nat.le_refl _) _
        have z57 : ¬ (57 : Int) < (x : Int) := by omega
        by_cases lb2 : 144115188075855872 < a
        · have zb : (144115188075855872 : Int) < (a : Int) := by omega
          obtain ⟨_, r0, r1, g0, g1⟩ := R.out
          go_wp2_with fail
          refine bodyPost_ret (v := .tuple #[.agg #[.int .i64 0, .int .i64 0], .bool false]) (by simp [results, Tryd.results11, go_sem, *]) rfl ⟨by rw [hD.out, rl_big (by omega) (by simpa using lb2)]; rfl, ?_⟩
          exact (kb.setCell (Nat.le_refl _) _).setCell (Nat.le_refl _) _
        have zb : ¬ (144115188075855872 : Int) < (a : Int) := by omega
        obtain ⟨_, _, _, u0, u1⟩ := V.out
        go_wp2_with fail
        go_region
        go_wp2_with fail
        go_roundw
        case rel => exact ⟨k + 1, 10 * a + (x - 48), b, 0, by omega, by go_num, rfl, by omega, by omega, lb, box (V.out.set0 (by omega)), box (R.out.step (Nat.lt_succ_self _) (((Below.refl (w.heap.size + 1) wr).setCell (Nat.le_refl _) _).drew)), box (by rw [hD.out, rl_a (by omega) (by omega) (by omega), hx]; rfl), (kb.setCell (Nat.le_succ _) _).drew⟩
        case measure => simp [Lib.intOf]; omega

      · have hD : Box (r0x = rl (c :: l.drop (k + 1)) true a b) := hD
        have v0 := V.out.c0
        have v1 := V.out.c1
        by_cases e47 : x = 47
        · have z47 : ((x : Int) == 47) = true := by rw [beq_iff_eq]; omega
          have z48 : (x : Int) < 48 := by omega
          obtain ⟨_, r0, r1, g0, g1⟩ := R.out
          go_wp2_with fail
          refine bodyPost_ret (v := .tuple #[.agg #[.int .i64 0, .int .i64 0], .bool false]) (by simp [results, Tryd.results11, go_sem, *]) rfl ⟨by rw [hD.out, rl_bad (by simp) (by omega)]; rfl, ?_⟩
          exact (kb.setCell (Nat.le_refl _) _).setCell (Nat.le_refl _) _
        have z47 : ((x : Int) == 47) = false := beq_ne (b := 47) e47
        by_cases l48 : x < 48
        · have z48 : (x : Int) < 48 := by omega
          obtain ⟨_, r0, r1, g0, g1⟩ := R.out
          go_wp2_with fail
          refine bodyPost_ret (v := .tuple #[.agg #[.int .i64 0, .int .i64 0], .bool false]) (by simp [results, Tryd.results11, go_sem, *]) rfl ⟨by rw [hD.out, rl_bad (c := c) (fun h => e47 (hx.symm.trans h.1)) (by omega)]; rfl, ?_⟩
          exact (kb.setCell (Nat.le_refl _) _).setCell (Nat.le_refl _) _
        have z48 : ¬ (x : Int) < 48 := by omega
        by_cases l57 : 57 < x
        · have z57 : (57 : Int) < (x : Int) := by omega
          obtain ⟨_, r0, r1, g0, g1⟩ := R.out
          go_wp2_with fail
          refine bodyPost_ret (v := .tuple #[.agg #[.int .i64 0, .int .i64 0], .bool false]) (by simp [results, Tryd.results11, go_sem, *]) rfl ⟨by rw [hD.out, rl_bad (c := c) (fun h => e47 (hx.symm.trans h.1)) (by omega)]; rfl, ?_⟩
          exact (kb.setCell (Nat.le_refl _) _).setCell (Nat.le_refl _) _
        have z57 : ¬ (57 : Int) < (x : Int) := by omega
        by_cases lb2 : 144115188075855872 < b
        · have zb : (144115188075855872 : Int) < (b : Int) := by omega
          obtain ⟨_, r0, r1, g0, g1⟩ := R.out
          go_wp2_with fail
          refine bodyPost_ret (v := .tuple #[.agg #[.int .i64 0, .int .i64 0], .bool false]) (by simp [results, Tryd.results11, go_sem, *]) rfl ⟨by rw [hD.out, rl_big (by omega) (by simpa using lb2)]; rfl, ?_⟩
          exact (kb.setCell (Nat.le_refl _) _).setCell (Nat.le_refl _) _
        have zb : ¬ (144115188075855872 : Int) < (b : Int) := by omega
        obtain ⟨_, _, _, u0, u1⟩ := V.out
        go_wp2_with fail
        go_region
        go_wp2_with fail
        go_roundw
        case rel => exact ⟨k + 1, a, 10 * b + (x - 48), 1, by omega, by go_num, rfl, by omega, la, by omega, box (V.out.set1 (by omega)), box (R.out.step (Nat.lt_succ_self _) (((Below.refl (w.heap.size + 1) wr).setCell (Nat.le_refl _) _).drew)), box (by rw [hD.out, rl_b (by omega) (by omega) (by omega), hx]; rfl), (kb.setCell (Nat.le_succ _) _).drew⟩
        case measure => simp [Lib.intOf]; omega

    · have hge : ¬ (k : Int) < (s.size : Int) := by omega
      have hkl : k = l.length := by omega
      have HE : Box (r0x = some (m == 1, a, b)) := box (by rw [hrl.out, hkl, List.drop_length]; rfl)
      clear hrl SG hkl
      obtain ⟨_, v0, v1, u0, u1⟩ := V.out
      obtain ⟨_, r0, r1, g0, g1⟩ := R.out
      rcases (by omega : m = 0 ∨ m = 1) with rfl | rfl
      · go_wp2_with fail
        have R1 := box (R.out.step (Nat.lt_succ_self _) ((((Below.refl (w.heap.size + 1) wr).setCell (Nat.le_refl _) (p := ⟨w.heap.size + 1, 1, none⟩) (.int .i64 1))).alloc (by have := V.out.lt; simp; omega) (.cells #[.int .i64 (-(a : Int)), .int .i64 1] 31)))
        have kb1 := ((kb.setCell (Nat.le_succ _) (p := ⟨w.heap.size + 1, 1, none⟩) (.int .i64 1)).alloc (by have := V.out.lt; simp; omega) (.cells #[.int .i64 (-(a : Int)), .int .i64 1] 31))
        have RE := rend_at l (-1) false a b (-(a : Int)) 1 (by omega) rfl (by omega)
        refine (rvalid_any (-(a : Int)) 1 (by omega) (by omega) (by omega) (by omega) _).mono ?_
        rintro e w4 ⟨rfl, hb4⟩
        have q0 : w4.cell? ⟨wr.heap.size, 0, none⟩ = some (.int .i64 (-(a : Int))) := keepb hb4 (by simp [go_sem])
        have q1 : w4.cell? ⟨wr.heap.size, 1, none⟩ = some (.int .i64 1) := keepb hb4 (by simp [go_sem])
        have R4 := box (R1.out.below hb4)
        have kb4 := kb1.trans (hb4.mono kb1.size)
        obtain ⟨_, r0, r1, g0, g1⟩ := R4.out
        cases hv : validB (-(a : Int)) 1 with
        | false =>
          have hts : textS (-(a : Int)) 1 ≠ l := by
            unfold textS; rw [hv, if_neg (by decide)]; intro h; rw [← h] at hll; simp at hll; omega
          rw [if_neg hts] at RE
          have RB2 := box RE
          clear RE hts
          go_wp2_with fail
          refine bodyPost_ret (v := .tuple #[.agg #[.int .i64 0, .int .i64 0], .bool false]) (by simp [results, Tryd.results11, go_sem, *]) rfl ⟨by rw [HE.out]; exact congrArg (fun o => Ending.returned (refV o)) RB2.out.symm, ?_⟩
          exact (kb4.setCell (Nat.le_refl _) _).setCell (Nat.le_refl _) _
        | true =>
          have ok := okR_of hv
          unfold okR at ok
          go_wp2_with fail
          refine (rtext_any (-(a : Int)) 1 (by omega) (by omega) (by omega) (by omega) (by omega) _).mono ?_
          rintro e w5 ⟨rfl, hb5⟩
          have q0' := keepb hb5 q0
          have q1' := keepb hb5 q1
          have R5 := box (R4.out.below hb5)
          have kb5 := kb4.trans (hb5.mono kb4.size)
          clear ok r0 r1 g0 g1 q0 q1 hb4 hb5 v0 v1 u0 u1
          obtain ⟨_, r0, r1, g0, g1⟩ := R5.out
          have hts : textS (-(a : Int)) 1 = tx (-(a : Int)) (full 1) := by unfold textS; rw [hv, if_pos rfl]
          rw [hts] at RE
          have RB2 := box RE
          clear RE hts hv
          generalize tx (-(a : Int)) (full 1) = tl at RB2
          by_cases e : tl = l
          · have e2 : (tl == l) = true := by simpa using e
            have RB3 := RB2.out
            rw [if_pos e] at RB3
            replace RB3 := box RB3
            clear RB2
            go_wp2_with fail
            refine bodyPost_ret (v := .tuple #[.agg #[.int .i64 (-(a : Int)), .int .i64 1], .bool true]) (by simp [results, Tryd.results11, go_sem, *]) rfl ⟨by rw [HE.out]; exact congrArg (fun o => Ending.returned (refV o)) RB3.out.symm, ?_⟩
            exact (kb5.setCell (Nat.le_refl _) _).setCell (Nat.le_refl _) _
          · have e2 : (tl == l) = false := by simpa using e
            have RB3 := RB2.out
            rw [if_neg e] at RB3
            replace RB3 := box RB3
            clear RB2
            go_wp2_with fail
            refine bodyPost_ret (v := .tuple #[.agg #[.int .i64 0, .int .i64 0], .bool false]) (by simp [results, Tryd.results11, go_sem, *]) rfl ⟨by rw [HE.out]; exact congrArg (fun o => Ending.returned (refV o)) RB3.out.symm, ?_⟩
            exact (kb5.setCell (Nat.le_refl _) _).setCell (Nat.le_refl _) _
      · by_cases hb0 : b = 0
        · subst hb0
          go_wp2_with fail
          refine bodyPost_ret (v := .tuple #[.agg #[.int .i64 0, .int .i64 0], .bool false]) (by simp [results, Tryd.results11, go_sem, *]) rfl ⟨by rw [HE.out]; rfl, ?_⟩
          exact ((kb.setCell (Nat.le_refl _) _).setCell (Nat.le_refl _) _).alloc (by simp; exact kb.size) _
        · have zb0 : ((b : Int) == 0) = false := beq_ne (b := 0) hb0
          go_wp2_with fail
          have R1 := box (R.out.step (Nat.lt_succ_self _) ((Below.refl (w.heap.size + 1) wr).alloc (by have := V.out.lt; omega) (.cells #[.int .i64 (-(a : Int)), .int .i64 (b : Int)] 31)))
          have kb1 := (kb.alloc kb.size (.cells #[.int .i64 (-(a : Int)), .int .i64 (b : Int)] 31))
          have RE := rend_at l (-1) true a b (-(a : Int)) (b : Int) (by omega) rfl (by omega)
          refine (rvalid_any (-(a : Int)) (b : Int) (by omega) (by omega) (by omega) (by omega) _).mono ?_
          rintro e w4 ⟨rfl, hb4⟩
          have q0 : w4.cell? ⟨wr.heap.size, 0, none⟩ = some (.int .i64 (-(a : Int))) := keepb hb4 (by simp [go_sem])
          have q1 : w4.cell? ⟨wr.heap.size, 1, none⟩ = some (.int .i64 (b : Int)) := keepb hb4 (by simp [go_sem])
          have R4 := box (R1.out.below hb4)
          have kb4 := kb1.trans (hb4.mono kb1.size)
          obtain ⟨_, r0, r1, g0, g1⟩ := R4.out
          cases hv : validB (-(a : Int)) (b : Int) with
          | false =>
            have hts : textS (-(a : Int)) (b : Int) ≠ l := by
              unfold textS; rw [hv, if_neg (by decide)]; intro h; rw [← h] at hll; simp at hll; omega
            rw [if_neg hts] at RE
            have RB2 := box RE
            clear RE hts
            go_wp2_with fail
            refine bodyPost_ret (v := .tuple #[.agg #[.int .i64 0, .int .i64 0], .bool false]) (by simp [results, Tryd.results11, go_sem, *]) rfl ⟨by rw [HE.out]; exact congrArg (fun o => Ending.returned (refV o)) RB2.out.symm, ?_⟩
            exact (kb4.setCell (Nat.le_refl _) _).setCell (Nat.le_refl _) _
          | true =>
            have ok := okR_of hv
            unfold okR at ok
            go_wp2_with fail
            refine (rtext_any (-(a : Int)) (b : Int) (by omega) (by omega) (by omega) (by omega) (by omega) _).mono ?_
            rintro e w5 ⟨rfl, hb5⟩
            have q0' := keepb hb5 q0
            have q1' := keepb hb5 q1
            have R5 := box (R4.out.below hb5)
            have kb5 := kb4.trans (hb5.mono kb4.size)
            clear ok r0 r1 g0 g1 q0 q1 hb4 hb5 v0 v1 u0 u1
            obtain ⟨_, r0, r1, g0, g1⟩ := R5.out
            have hts : textS (-(a : Int)) (b : Int) = tx (-(a : Int)) (full (b : Int)) := by unfold textS; rw [hv, if_pos rfl]
            rw [hts] at RE
            have RB2 := box RE
            clear RE hts hv
            generalize tx (-(a : Int)) (full (b : Int)) = tl at RB2
            by_cases e : tl = l
            · have e2 : (tl == l) = true := by simpa using e
              have RB3 := RB2.out
              rw [if_pos e] at RB3
              replace RB3 := box RB3
              clear RB2
              go_wp2_with fail
              refine bodyPost_ret (v := .tuple #[.agg #[.int .i64 (-(a : Int)), .int .i64 (b : Int)], .bool true]) (by simp [results, Tryd.results11, go_sem, *]) rfl ⟨by rw [HE.out]; exact congrArg (fun o => Ending.returned (refV o)) RB3.out.symm, ?_⟩
              exact (kb5.setCell (Nat.le_refl _) _).setCell (Nat.le_refl _) _
            · have e2 : (tl == l) = false := by simpa using e
              have RB3 := RB2.out
              rw [if_neg e] at RB3
              replace RB3 := box RB3
              clear RB2
              go_wp2_with fail
              refine bodyPost_ret (v := .tuple #[.agg #[.int .i64 0, .int .i64 0], .bool false]) (by simp [results, Tryd.results11, go_sem, *]) rfl ⟨by rw [HE.out]; exact congrArg (fun o => Ending.returned (refV o)) RB3.out.symm, ?_⟩
              exact (kb5.setCell (Nat.le_refl _) _).setCell (Nat.le_refl _) _
end Go.Proofs.YtlglagihekadhaaDoor
