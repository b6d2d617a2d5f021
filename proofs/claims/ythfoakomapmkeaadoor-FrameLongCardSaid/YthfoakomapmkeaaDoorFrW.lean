/- frame.Decode: its contract where the packet is read. -/
import Derived.Test.YthfoakomapmkeaaDoorFrV
namespace Go.Proofs.YthfoakomapmkeaaDoor
open Go.RowKit

theorem take_getD (xs : List Nat) (m i : Nat) (h : i < m) : (xs.take m).getD i 0 = xs.getD i 0 := by
  simp [List.getD_eq_getElem?_getD, h]

set_option maxRecDepth 100000 in
set_option maxHeartbeats 8000000 in
theorem fdec_main (b : Addr) (n c : Nat) (xs : List Nat) (hn : xs.length = n) (hx : ∀ x ∈ xs, x < 256) (hcap : n ≤ c) (h17 : ¬ n < 17) (hf : ¬ (64 < xs.getD 12 0 ∨ xs.getD 12 0 + 17 ≠ n)) (hs : Crc.crc xs = 558161692) (w : World) (hc : At w b xs) (hT : Crc.HasTab w) :
    Calls Tryd.prog 22 #[.slice (some b) n c] w (RDec xs w) := by
  have hn81 : n ≤ 81 := by omega
  have hsl := (seal_cases hx (by omega)).1 hs
  have w64 : wrap64 ((n : Int) - 17) = (n : Int) - 17 := by unfold wrap64; omega
  have d1 : decide ((n : Int) < 17) = false := decide_eq_false (by omega)
  have kb : Below w.heap.size w (w.alloc (.cells (pkC 0 0 0 0 none 0 0) 24)) := (Below.refl _ _).alloc (Nat.le_refl _) _
  have c12 := at_pos hc 12 (by omega) (by omega)
  have lb : b.block < w.heap.size := World.block_lt_of_cell? w ⟨b.block, b.off + 12, none⟩ c12
  have z1 : (12 : Int) < (n : Int) := by omega
  have d2 : decide ((64 : Int) < (xs.getD 12 0 : Int)) = false := decide_eq_false (by omega)
  have d3 : ((xs.getD 12 0 : Int) != wrap64 ((n : Int) - 17)) = false := by rw [w64, bne_eq_false_iff_eq]; omega
  have d3' : ((xs.getD 12 0 : Int) != (n : Int) - 17) = false := by rw [bne_eq_false_iff_eq]; omega
  have HK := fun w' (h : Below w.heap.size w w') => box (Crc.check_ok (some b) n c xs hn hx (by omega) (by omega) hcap hs w' (.inr ⟨b, rfl, fun i hi => keepc h (hc i hi)⟩) (hT.below h))
  have HX := box hx
  have lx : xs.getD 12 0 < 256 := getD_lt hx (by omega)
  have hm : ∀ x ∈ xs.take (n - 4), x < 256 := fun x h => hx x (List.mem_of_mem_take h)
  have hE := box (show decE xs = if okP (xs.getD 0 0) (xs.getD 1 0) (numAt xs 2) (numAt xs 7) (n - 17) then 0 else 1 by
    unfold decE; rw [if_neg (by omega), if_neg (by rw [hn]; exact hf), if_neg (fun h => h hsl), hn])
  clear hx hc hf hs hT hsl w64
  generalize xs.getD 12 0 = x at c12 d2 d3 d3' lx
  go_enter Tryd.func22, Tryd.ntmps22
  go_wp2_with fail
  have PZ := pk5_new w 0 0 0 0 none 0 0 w.heap.size rfl
  generalize w.alloc (.cells (pkC 0 0 0 0 none 0 0) 24) = w1 at kb PZ ⊢
  refine (HK _ kb).out.mono ?_
  rintro e w2 ⟨v, rfl, ho, hb⟩
  have ho' : w2.ownsRow w1.heap.size 5 1 v (xs.take (n - 4)).length ((xs.take (n - 4)).map nU8) := ho
  have hlm : (xs.take (n - 4)).length = n - 4 := by simp; omega
  rw [hlm] at ho'
  obtain ⟨ga, gc, rfl, hin, hnil, hgc, hg⟩ := own_form2 hlm ho'
  obtain ⟨g, rfl, hat⟩ : ∃ g, ga = some g ∧ At w2 g (xs.take (n - 4)) := by
    rcases hin with h | h
    · rw [h] at hlm; simp at hlm; omega
    · exact h
  have hgb := hg g rfl
  have hgb2 : w.heap.size < g.block := Nat.lt_of_lt_of_le (World.block_lt_of_cell? w1 ⟨w.heap.size, 0, none⟩ PZ.q0) hgb
  obtain ⟨m, hm4⟩ : ∃ m, n = m + 4 := ⟨n - 4, by omega⟩
  subst hm4
  rw [Nat.add_sub_cancel] at hat hlm hm hgc
  have hys : ∃ ys, xs.take m = ys := ⟨_, rfl⟩
  obtain ⟨ys, hys⟩ := hys
  have HYS := box hys
  rw [hys] at hat hlm hm
  have PZ2 := PZ.keep hb
  have kb2 := kb.trans (hb.mono kb.size)
  have HAT := box hat
  have HM := box hm
  have e0 := at_zero hat (by omega)
  have e1 := at_pos hat 1 (by omega) (by omega)
  have x0 := getD_lt hm (show 0 < ys.length by omega)
  have x1 := getD_lt hm (show 1 < ys.length by omega)
  have lg : g.block < w2.heap.size := World.block_lt_of_cell? w2 g e0
  have lt5 : ∀ i, ∀ x ∈ (ys.drop i).take 5, x < 256 := fun i x hx => HM.out x (List.mem_of_mem_drop (List.mem_of_mem_take hx))
  have N1 := fun w' (h : Below w2.heap.size w2 w') => box (readnum_any ⟨g.block, g.off + 2, none⟩ 5 (gc - 2) ((ys.drop 2).take 5) (by simp; omega) (by omega) (lt5 2) w' (at_drop (HAT.out.below h) 2 5 (by omega)))
  have N2 := fun w' (h : Below w2.heap.size w2 w') => box (readnum_any ⟨g.block, g.off + 7, none⟩ 5 (gc - 7) ((ys.drop 7).take 5) (by simp; omega) (by omega) (lt5 7) w' (at_drop (HAT.out.below h) 7 5 (by omega)))
  clear hat hin hnil ho ho' hb hm lt5 hg HK d1 d2 d3 d3' c12 z1 lb PZ
  have HPZ := box PZ2
  clear PZ2
  have y4 : (7 : Int) ≤ (gc : Int) := by omega
  have y5 : (12 : Int) ≤ (gc : Int) := by omega
  have y6 : (13 : Int) ≤ (m : Int) := by omega
  have y8 : (0 : Int) < (m : Int) := by omega
  have y9 : (1 : Int) < (m : Int) := by omega
  generalize hp0 : ys.getD 0 0 = p0 at e0 x0
  generalize hp1 : ys.getD 1 0 = p1 at e1 x1
  generalize hp2 : numTo ((ys.drop 2).take 5) 5 = p2 at N1
  generalize hp3 : numTo ((ys.drop 7).take 5) 5 = p3 at N2
  have HP := box (And.intro hp0 (And.intro hp1 (And.intro hp2 hp3)))
  clear hp0 hp1 hp2 hp3
  have y14 : IntKind.i64.wrap (p1 : Int) = (p1 : Int) := by rw [IntKind.wrap_i64]; omega
  have bd : Below w2.heap.size w2 w2.drew := (Below.refl _ _).drew
  have g0 : ∀ w' : World, Below w2.heap.size w2 w' → w'.cell? g = some (nU8 p0) := fun w' h => keepc h e0
  have g1 : ∀ w' : World, Below w2.heap.size w2 w' → w'.cell? ⟨g.block, g.off + 1, none⟩ = some (nU8 p1) := fun w' h => keepc h e1
  have y11 : ¬ gc = 2 := by omega
  have y12 : ¬ gc = 7 := by omega
  have y10 : 0 < m := by omega
  have y15 : 1 < m := by omega
  obtain ⟨r, hr⟩ : ∃ r, okP p0 p1 p2 p3 (m - 13) = r := ⟨_, rfl⟩
  have VA : ∀ w a cap, Box (Calls Tryd.prog 18 #[pkV p0 p1 p2 p3 a (m - 13) cap] w fun e w' => e = .returned (.bool r) ∧ Below w.heap.size w w') := fun w a cap => box (fvalid_any p0 p1 p2 p3 a (m - 13) cap r hr w)
  have HPZX := HPZ
  have HQL := box (show xs.length - 17 = m - 13 by omega)
  have HQ : Box (xs.getD 0 0 = p0 ∧ xs.getD 1 0 = p1 ∧ numAt xs 2 = p2 ∧ numAt xs 7 = p3) := box (by
    obtain ⟨h0, h1, h2, h3⟩ := HP.out
    have hd : ∀ i, i + 5 ≤ m → (ys.drop i).take 5 = (xs.drop i).take 5 := fun i hi => by
      rw [← HYS.out, List.drop_take, List.take_take, Nat.min_eq_left (by omega)]
    refine ⟨?_, ?_, ?_, ?_⟩
    · rw [← h0, ← HYS.out, take_getD _ _ _ (by omega)]
    · rw [← h1, ← HYS.out, take_getD _ _ _ (by omega)]
    · rw [← h2]; unfold numAt; rw [hd 2 (by omega)]
    · rw [← h3]; unfold numAt; rw [hd 7 (by omega)])
  have HQD := box (show (xs.drop 13).take (xs.length - 17) = ys.drop 13 by
    rw [← HYS.out, List.drop_take]; congr 1; omega)
  have hR := box (show okP (xs.getD 0 0) (xs.getD 1 0 : Nat) (numAt xs 2 : Nat) (numAt xs 7 : Nat) (m + 4 - 17) = r by
    rw [HQ.out.1, HQ.out.2.1, HQ.out.2.2.1, HQ.out.2.2.2, show m + 4 - 17 = m - 13 by omega]; exact hr)
  have hle := kb2.size
  clear hr HP kb hcap h17 hn81 hys hn
  clear hgb
  by_cases y13 : gc = 13
  · subst y13
    obtain rfl : m = 13 := by omega
    go_wp2_with fail
    go_region_held3 (fun w' => Below w2.heap.size w2 w') (first | assumption | exact bd | (repeat (first | assumption | exact bd | (refine Below.alloc ?_ (by first | exact Below.size (by assumption) | exact Nat.le_refl _ | exact size_alloc _ _ (Nat.le_refl _) | (simp <;> omega)) _) | (refine Below.setCell ?_ (by first | exact Below.size (by assumption) | exact Nat.le_refl _ | (simp <;> omega)) _) | (refine Below.drew ?_) | exact Below.refl _ _)))
      (first | (go_at_call 44; (with_reducible refine (N1 _ (by assumption)).out.mono ?_); rintro e wp ⟨rfl, rfl⟩) | (go_at_call 44; (with_reducible refine (N2 _ (by assumption)).out.mono ?_); rintro e wp ⟨rfl, rfl⟩))
    all_goals
      have P := pk5_new w2 p0 (p1 : Int) (p2 : Int) (p3 : Int) (some g) 0 0 w2.heap.size rfl
      have PK : Pk5 (w2.alloc (.cells (pkC p0 (p1 : Int) (p2 : Int) (p3 : Int) (some g) 0 0) 24)).drew w2.heap.size (nU8 p0) (.int .i64 p1) (.int .i64 p2) (.int .i64 p3) (.slice (some g) 0 0) := ⟨P.q0, P.q1, P.q2, P.q3, P.q4, P.zq⟩
      have k3 : Below w2.heap.size w2 (w2.alloc (.cells (pkC p0 (p1 : Int) (p2 : Int) (p3 : Int) (some g) 0 0) 24)).drew := ((Below.refl _ _).alloc (Nat.le_refl _) _).drew
      have PZ3 := HPZ.out.keep k3
      have HAT3 := HAT.out.below k3
      clear P
      change Exit.then _ _ Exit.normal _ (w2.alloc (.cells (pkC p0 (p1 : Int) (p2 : Int) (p3 : Int) (some g) 0 0) 24)).drew
      generalize (w2.alloc (.cells (pkC p0 (p1 : Int) (p2 : Int) (p3 : Int) (some g) 0 0) 24)).drew = w3 at PK k3 PZ3 HAT3 ⊢
      have kb3 := kb2.trans (k3.mono kb2.size)
      have PKB := box PK
      have PZB := box PZ3
      have HATB := box HAT3
      obtain ⟨q0, q1, q2, q3, q4, zq⟩ := PK
      clear PZ3 HAT3 HPZ N1 N2 g0 g1 bd e0 e1 k3
      have K3 := box kb3
      have LG := box (show w.heap.size < w2.heap.size from World.block_lt_of_cell? w2 ⟨w.heap.size, 0, none⟩ HPZX.out.q0)
      go_wp2_with fail
      refine (VA _ _ _).out.mono ?_
      rintro e w4 ⟨rfl, hb4⟩
      have K4 := box (K3.out.trans (hb4.mono K3.out.size))
      have PK4 := box (PKB.out.keep hb4)
      have PZ4 := box (PZB.out.keep hb4)
      have HAT4 := box (HATB.out.below hb4)
      clear PKB PZB HATB hb4 q0 q1 q2 q3 q4 zq K3 kb3
      have r0 := PK4.out.q0
      have r1 := PK4.out.q1
      have r2 := PK4.out.q2
      have r3 := PK4.out.q3
      have r4 := PK4.out.q4
      have s0 := PZ4.out.q0
      have s1 := PZ4.out.q1
      have s2 := PZ4.out.q2
      have s3 := PZ4.out.q3
      have s4 := PZ4.out.q4
      have t0 := PZ4.out.zq
      cases r
      · have HF := fun w' (h : Below w.heap.size w w') => box (show RDec xs w (.returned (.tuple #[pk0, .int .i64 1])) w' from ⟨h, .inl ⟨by rw [hE.out, hR.out]; simp, by rw [hE.out, hR.out]; rfl⟩⟩)
        go_wp2_with fail
        have Z := pk5_put PZ4.out (nU8 0) (.int .i64 0) (.int .i64 0) (.int .i64 0) (.slice none 0 0)
        have ZB := put5_below (q := w.heap.size) K4.out (Nat.le_refl _) (nU8 0) (.int .i64 0) (.int .i64 0) (.int .i64 0) (.slice none 0 0)
        change bodyPost _ _ _ _ _ (put5 w4 w.heap.size (nU8 0) (.int .i64 0) (.int .i64 0) (.int .i64 0) (.slice none 0 0))
        generalize put5 w4 w.heap.size (nU8 0) (.int .i64 0) (.int .i64 0) (.int .i64 0) (.slice none 0 0) = w5 at Z ZB ⊢
        clear r0 r1 r2 r3 r4 s0 s1 s2 s3 s4 t0
        obtain ⟨z0, z1, z2, z3, z4, _⟩ := Z
        refine bodyPost_ret (v := .tuple #[pk0, .int .i64 1]) (by simp [results, Tryd.results22, go_sem, z0, z1, z2, z3, z4]) rfl (HF _ ?_).out
        exact ZB
      · have HF := fun w' (h : Below w.heap.size w w') (hi : In w' (some g) (ys.drop 13)) => box (show RDec xs w (.returned (.tuple #[pkV p0 p1 p2 p3 (some g) 0 0, .int .i64 0])) w' from ⟨h, .inr ⟨by rw [hE.out, hR.out]; rfl, (some g), 0, by first | (rw [HQ.out.1, HQ.out.2.1, HQ.out.2.2.1, HQ.out.2.2.2, HQL.out]; done) | (rw [HQ.out.1, HQ.out.2.1, HQ.out.2.2.1, HQ.out.2.2.2, HQL.out]; rfl), by rw [HQD.out]; exact hi, (fun h => by cases h), by have := HQL.out; omega, fun g' h => by cases h; show w.heap.size ≤ g.block; omega⟩⟩)
        go_wp2_with fail
        have Z := pk5_put PZ4.out (nU8 p0) (.int .i64 p1) (.int .i64 p2) (.int .i64 p3) (.slice (some g) 0 0)
        have ZB := put5_below (q := w.heap.size) K4.out (Nat.le_refl _) (nU8 p0) (.int .i64 p1) (.int .i64 p2) (.int .i64 p3) (.slice (some g) 0 0)
        have ZI := put5_in (w := w4) (p := (some g)) (xs := ys.drop 13) (.inl (List.drop_eq_nil_of_le (by omega))) w.heap.size (nU8 p0) (.int .i64 p1) (.int .i64 p2) (.int .i64 p3) (.slice (some g) 0 0) (fun g' h => by cases h; show w.heap.size ≠ g.block; omega)
        change bodyPost _ _ _ _ _ (put5 w4 w.heap.size (nU8 p0) (.int .i64 p1) (.int .i64 p2) (.int .i64 p3) (.slice (some g) 0 0))
        generalize put5 w4 w.heap.size (nU8 p0) (.int .i64 p1) (.int .i64 p2) (.int .i64 p3) (.slice (some g) 0 0) = w5 at Z ZB ZI ⊢
        clear r0 r1 r2 r3 r4 s0 s1 s2 s3 s4 t0
        obtain ⟨z0, z1, z2, z3, z4, _⟩ := Z
        refine bodyPost_ret (v := .tuple #[pkV p0 p1 p2 p3 (some g) 0 0, .int .i64 0]) (by simp [results, Tryd.results22, go_sem, z0, z1, z2, z3, z4]) rfl (HF _ ?_ ?_).out
        · exact ZB
        · exact ZI
  go_wp2_with fail
  go_region_held3 (fun w' => Below w2.heap.size w2 w') (first | assumption | exact bd | (repeat (first | assumption | exact bd | (refine Below.alloc ?_ (by first | exact Below.size (by assumption) | exact Nat.le_refl _ | exact size_alloc _ _ (Nat.le_refl _) | (simp <;> omega)) _) | (refine Below.setCell ?_ (by first | exact Below.size (by assumption) | exact Nat.le_refl _ | (simp <;> omega)) _) | (refine Below.drew ?_) | exact Below.refl _ _)))
    (first | (go_at_call 44; (with_reducible refine (N1 _ (by assumption)).out.mono ?_); rintro e wp ⟨rfl, rfl⟩) | (go_at_call 44; (with_reducible refine (N2 _ (by assumption)).out.mono ?_); rintro e wp ⟨rfl, rfl⟩))
  all_goals
    have P := pk5_new w2 p0 (p1 : Int) (p2 : Int) (p3 : Int) (some ⟨g.block, g.off + 13, none⟩) (m - 13) (gc - 13) w2.heap.size rfl
    have PK : Pk5 (w2.alloc (.cells (pkC p0 (p1 : Int) (p2 : Int) (p3 : Int) (some ⟨g.block, g.off + 13, none⟩) (m - 13) (gc - 13)) 24)).drew w2.heap.size (nU8 p0) (.int .i64 p1) (.int .i64 p2) (.int .i64 p3) (.slice (some ⟨g.block, g.off + 13, none⟩) (m - 13) (gc - 13)) := ⟨P.q0, P.q1, P.q2, P.q3, P.q4, P.zq⟩
    have k3 : Below w2.heap.size w2 (w2.alloc (.cells (pkC p0 (p1 : Int) (p2 : Int) (p3 : Int) (some ⟨g.block, g.off + 13, none⟩) (m - 13) (gc - 13)) 24)).drew := ((Below.refl _ _).alloc (Nat.le_refl _) _).drew
    have PZ3 := HPZ.out.keep k3
    have HAT3 := HAT.out.below k3
    clear P
    change Exit.then _ _ Exit.normal _ (w2.alloc (.cells (pkC p0 (p1 : Int) (p2 : Int) (p3 : Int) (some ⟨g.block, g.off + 13, none⟩) (m - 13) (gc - 13)) 24)).drew
    generalize (w2.alloc (.cells (pkC p0 (p1 : Int) (p2 : Int) (p3 : Int) (some ⟨g.block, g.off + 13, none⟩) (m - 13) (gc - 13)) 24)).drew = w3 at PK k3 PZ3 HAT3 ⊢
    have kb3 := kb2.trans (k3.mono kb2.size)
    have PKB := box PK
    have PZB := box PZ3
    have HATB := box HAT3
    obtain ⟨q0, q1, q2, q3, q4, zq⟩ := PK
    clear PZ3 HAT3 HPZ N1 N2 g0 g1 bd e0 e1 k3
    have K3 := box kb3
    have LG := box (show w.heap.size < w2.heap.size from World.block_lt_of_cell? w2 ⟨w.heap.size, 0, none⟩ HPZX.out.q0)
    go_wp2_with fail
    refine (VA _ _ _).out.mono ?_
    rintro e w4 ⟨rfl, hb4⟩
    have K4 := box (K3.out.trans (hb4.mono K3.out.size))
    have PK4 := box (PKB.out.keep hb4)
    have PZ4 := box (PZB.out.keep hb4)
    have HAT4 := box (HATB.out.below hb4)
    clear PKB PZB HATB hb4 q0 q1 q2 q3 q4 zq K3 kb3
    have r0 := PK4.out.q0
    have r1 := PK4.out.q1
    have r2 := PK4.out.q2
    have r3 := PK4.out.q3
    have r4 := PK4.out.q4
    have s0 := PZ4.out.q0
    have s1 := PZ4.out.q1
    have s2 := PZ4.out.q2
    have s3 := PZ4.out.q3
    have s4 := PZ4.out.q4
    have t0 := PZ4.out.zq
    cases r
    · have HF := fun w' (h : Below w.heap.size w w') => box (show RDec xs w (.returned (.tuple #[pk0, .int .i64 1])) w' from ⟨h, .inl ⟨by rw [hE.out, hR.out]; simp, by rw [hE.out, hR.out]; rfl⟩⟩)
      go_wp2_with fail
      have Z := pk5_put PZ4.out (nU8 0) (.int .i64 0) (.int .i64 0) (.int .i64 0) (.slice none 0 0)
      have ZB := put5_below (q := w.heap.size) K4.out (Nat.le_refl _) (nU8 0) (.int .i64 0) (.int .i64 0) (.int .i64 0) (.slice none 0 0)
      change bodyPost _ _ _ _ _ (put5 w4 w.heap.size (nU8 0) (.int .i64 0) (.int .i64 0) (.int .i64 0) (.slice none 0 0))
      generalize put5 w4 w.heap.size (nU8 0) (.int .i64 0) (.int .i64 0) (.int .i64 0) (.slice none 0 0) = w5 at Z ZB ⊢
      clear r0 r1 r2 r3 r4 s0 s1 s2 s3 s4 t0
      obtain ⟨z0, z1, z2, z3, z4, _⟩ := Z
      refine bodyPost_ret (v := .tuple #[pk0, .int .i64 1]) (by simp [results, Tryd.results22, go_sem, z0, z1, z2, z3, z4]) rfl (HF _ ?_).out
      exact ZB
    · have HF := fun w' (h : Below w.heap.size w w') (hi : In w' (some ⟨g.block, g.off + 13, none⟩) (ys.drop 13)) => box (show RDec xs w (.returned (.tuple #[pkV p0 p1 p2 p3 (some ⟨g.block, g.off + 13, none⟩) (m - 13) (gc - 13), .int .i64 0])) w' from ⟨h, .inr ⟨by rw [hE.out, hR.out]; rfl, (some ⟨g.block, g.off + 13, none⟩), (gc - 13), by first | (rw [HQ.out.1, HQ.out.2.1, HQ.out.2.2.1, HQ.out.2.2.2, HQL.out]; done) | (rw [HQ.out.1, HQ.out.2.1, HQ.out.2.2.1, HQ.out.2.2.2, HQL.out]; rfl), by rw [HQD.out]; exact hi, (fun h => by cases h), by have := HQL.out; omega, fun g' h => by cases h; show w.heap.size ≤ g.block; omega⟩⟩)
      go_wp2_with fail
      have Z := pk5_put PZ4.out (nU8 p0) (.int .i64 p1) (.int .i64 p2) (.int .i64 p3) (.slice (some ⟨g.block, g.off + 13, none⟩) (m - 13) (gc - 13))
      have ZB := put5_below (q := w.heap.size) K4.out (Nat.le_refl _) (nU8 p0) (.int .i64 p1) (.int .i64 p2) (.int .i64 p3) (.slice (some ⟨g.block, g.off + 13, none⟩) (m - 13) (gc - 13))
      have ZI := put5_in (w := w4) (p := (some ⟨g.block, g.off + 13, none⟩)) (xs := ys.drop 13) (.inr ⟨_, rfl, by have h := at_drop HAT4.out 13 (m - 13) (by omega); rwa [List.take_of_length_le (by simp; omega)] at h⟩) w.heap.size (nU8 p0) (.int .i64 p1) (.int .i64 p2) (.int .i64 p3) (.slice (some ⟨g.block, g.off + 13, none⟩) (m - 13) (gc - 13)) (fun g' h => by cases h; show w.heap.size ≠ g.block; omega)
      change bodyPost _ _ _ _ _ (put5 w4 w.heap.size (nU8 p0) (.int .i64 p1) (.int .i64 p2) (.int .i64 p3) (.slice (some ⟨g.block, g.off + 13, none⟩) (m - 13) (gc - 13)))
      generalize put5 w4 w.heap.size (nU8 p0) (.int .i64 p1) (.int .i64 p2) (.int .i64 p3) (.slice (some ⟨g.block, g.off + 13, none⟩) (m - 13) (gc - 13)) = w5 at Z ZB ZI ⊢
      clear r0 r1 r2 r3 r4 s0 s1 s2 s3 s4 t0
      obtain ⟨z0, z1, z2, z3, z4, _⟩ := Z
      refine bodyPost_ret (v := .tuple #[pkV p0 p1 p2 p3 (some ⟨g.block, g.off + 13, none⟩) (m - 13) (gc - 13), .int .i64 0]) (by simp [results, Tryd.results22, go_sem, z0, z1, z2, z3, z4]) rfl (HF _ ?_ ?_).out
      · exact ZB
      · exact ZI

theorem fdec_any (a : Option Addr) (n c : Nat) (xs : List Nat) (hn : xs.length = n) (hx : ∀ x ∈ xs, x < 256) (hbig : n ≤ 10000) (hcap : n ≤ c) (w : World) (hc : In w a xs) (hT : Crc.HasTab w) :
    Calls Tryd.prog 22 #[.slice a n c] w (RDec xs w) := by
  by_cases h17 : n < 17
  · exact fdec_short a n c xs hn h17 w
  rcases hc with h | ⟨b, rfl, hc⟩
  · subst h; simp at hn; omega
  by_cases hf : 64 < xs.getD 12 0 ∨ xs.getD 12 0 + 17 ≠ n
  · exact fdec_form b n c xs hbig hn hx h17 hf w hc
  by_cases hs : Crc.crc xs = 558161692
  · exact fdec_main b n c xs hn hx hcap h17 hf hs w hc hT
  · exact fdec_sum b n c xs hn hx h17 hf hs w hc hT
end Go.Proofs.YthfoakomapmkeaaDoor
