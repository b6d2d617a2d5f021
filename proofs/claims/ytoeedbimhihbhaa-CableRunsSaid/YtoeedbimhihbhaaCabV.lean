/- Structs of seven cells in memory; the reference's fault and Flipped. -/
import Derived.Test.YtoeedbimhihbhaaCabR
import Derived.Laws.IdiomCopy
namespace Go.Proofs.Ytoeedbimhihbhaa
open Go.RowKit

/-- Seven cells of a block. -/
structure R7 (w : World) (g : Nat) (y0 y1 y2 y3 y4 y5 y6 : Value) : Prop where
  q0 : w.cell? ⟨g, 0, none⟩ = some y0
  q1 : w.cell? ⟨g, 1, none⟩ = some y1
  q2 : w.cell? ⟨g, 2, none⟩ = some y2
  q3 : w.cell? ⟨g, 3, none⟩ = some y3
  q4 : w.cell? ⟨g, 4, none⟩ = some y4
  q5 : w.cell? ⟨g, 5, none⟩ = some y5
  q6 : w.cell? ⟨g, 6, none⟩ = some y6
  z : ∀ j, w.frozen? ⟨g, j, none⟩ = false
theorem R7.lt {w : World} {g : Nat} {y0 y1 y2 y3 y4 y5 y6 : Value} (h : R7 w g y0 y1 y2 y3 y4 y5 y6) : g < w.heap.size := World.block_lt_of_cell? w ⟨g, 0, none⟩ h.q0
theorem R7.same {w w' : World} {g : Nat} {y0 y1 y2 y3 y4 y5 y6 : Value} (h : R7 w g y0 y1 y2 y3 y4 y5 y6) (e : w'.heap[g]? = w.heap[g]?) : R7 w' g y0 y1 y2 y3 y4 y5 y6 :=
  ⟨(World.cell?_of_block (a := ⟨g, 0, none⟩) e).trans h.q0, (World.cell?_of_block (a := ⟨g, 1, none⟩) e).trans h.q1, (World.cell?_of_block (a := ⟨g, 2, none⟩) e).trans h.q2, (World.cell?_of_block (a := ⟨g, 3, none⟩) e).trans h.q3, (World.cell?_of_block (a := ⟨g, 4, none⟩) e).trans h.q4, (World.cell?_of_block (a := ⟨g, 5, none⟩) e).trans h.q5, (World.cell?_of_block (a := ⟨g, 6, none⟩) e).trans h.q6, fun j => (World.frozen?_of_block (a := ⟨g, j, none⟩) e).trans (h.z j)⟩
theorem R7.keep {w w' : World} {g : Nat} {y0 y1 y2 y3 y4 y5 y6 : Value} (h : R7 w g y0 y1 y2 y3 y4 y5 y6) (hb : Below w.heap.size w w') : R7 w' g y0 y1 y2 y3 y4 y5 y6 := h.same (hb.block g h.lt)
theorem R7.new (w : World) (y0 y1 y2 y3 y4 y5 y6 : Value) (t : TypeId) (g : Nat) (hg : g = w.heap.size) : R7 (w.alloc (.cells #[y0, y1, y2, y3, y4, y5, y6] t)) g y0 y1 y2 y3 y4 y5 y6 := by
  subst hg
  have q := World.cell?_alloc_mark w #[y0, y1, y2, y3, y4, y5, y6] t (0, 0)
  refine ⟨q 0, q 1, q 2, q 3, q 4, q 5, q 6, fun j => ?_⟩
  unfold World.frozen?
  have h : (w.alloc (.cells #[y0, y1, y2, y3, y4, y5, y6] t)).heap[w.heap.size]? = some (.cells #[y0, y1, y2, y3, y4, y5, y6] t) := by show (w.heap.push _)[w.heap.size]? = _; simp
  rw [show (⟨w.heap.size, j, none⟩ : Addr).block = w.heap.size from rfl, h]
  simp
theorem R7.set0 {w : World} {g : Nat} {y0 y1 y2 y3 y4 y5 y6 : Value} (h : R7 w g y0 y1 y2 y3 y4 y5 y6) (u : Value) : R7 (w.setCell ⟨g, 0, none⟩ u) g u y1 y2 y3 y4 y5 y6 :=
  ⟨cell_put h.q0 _, cell_else (by decide) h.q1 _, cell_else (by decide) h.q2 _, cell_else (by decide) h.q3 _, cell_else (by decide) h.q4 _, cell_else (by decide) h.q5 _, cell_else (by decide) h.q6 _, fr_put h.z _ _⟩
theorem R7.set1 {w : World} {g : Nat} {y0 y1 y2 y3 y4 y5 y6 : Value} (h : R7 w g y0 y1 y2 y3 y4 y5 y6) (u : Value) : R7 (w.setCell ⟨g, 1, none⟩ u) g y0 u y2 y3 y4 y5 y6 :=
  ⟨cell_else (by decide) h.q0 _, cell_put h.q1 _, cell_else (by decide) h.q2 _, cell_else (by decide) h.q3 _, cell_else (by decide) h.q4 _, cell_else (by decide) h.q5 _, cell_else (by decide) h.q6 _, fr_put h.z _ _⟩
theorem R7.set2 {w : World} {g : Nat} {y0 y1 y2 y3 y4 y5 y6 : Value} (h : R7 w g y0 y1 y2 y3 y4 y5 y6) (u : Value) : R7 (w.setCell ⟨g, 2, none⟩ u) g y0 y1 u y3 y4 y5 y6 :=
  ⟨cell_else (by decide) h.q0 _, cell_else (by decide) h.q1 _, cell_put h.q2 _, cell_else (by decide) h.q3 _, cell_else (by decide) h.q4 _, cell_else (by decide) h.q5 _, cell_else (by decide) h.q6 _, fr_put h.z _ _⟩
theorem R7.set3 {w : World} {g : Nat} {y0 y1 y2 y3 y4 y5 y6 : Value} (h : R7 w g y0 y1 y2 y3 y4 y5 y6) (u : Value) : R7 (w.setCell ⟨g, 3, none⟩ u) g y0 y1 y2 u y4 y5 y6 :=
  ⟨cell_else (by decide) h.q0 _, cell_else (by decide) h.q1 _, cell_else (by decide) h.q2 _, cell_put h.q3 _, cell_else (by decide) h.q4 _, cell_else (by decide) h.q5 _, cell_else (by decide) h.q6 _, fr_put h.z _ _⟩
theorem R7.set4 {w : World} {g : Nat} {y0 y1 y2 y3 y4 y5 y6 : Value} (h : R7 w g y0 y1 y2 y3 y4 y5 y6) (u : Value) : R7 (w.setCell ⟨g, 4, none⟩ u) g y0 y1 y2 y3 u y5 y6 :=
  ⟨cell_else (by decide) h.q0 _, cell_else (by decide) h.q1 _, cell_else (by decide) h.q2 _, cell_else (by decide) h.q3 _, cell_put h.q4 _, cell_else (by decide) h.q5 _, cell_else (by decide) h.q6 _, fr_put h.z _ _⟩
theorem R7.set5 {w : World} {g : Nat} {y0 y1 y2 y3 y4 y5 y6 : Value} (h : R7 w g y0 y1 y2 y3 y4 y5 y6) (u : Value) : R7 (w.setCell ⟨g, 5, none⟩ u) g y0 y1 y2 y3 y4 u y6 :=
  ⟨cell_else (by decide) h.q0 _, cell_else (by decide) h.q1 _, cell_else (by decide) h.q2 _, cell_else (by decide) h.q3 _, cell_else (by decide) h.q4 _, cell_put h.q5 _, cell_else (by decide) h.q6 _, fr_put h.z _ _⟩
theorem R7.set6 {w : World} {g : Nat} {y0 y1 y2 y3 y4 y5 y6 : Value} (h : R7 w g y0 y1 y2 y3 y4 y5 y6) (u : Value) : R7 (w.setCell ⟨g, 6, none⟩ u) g y0 y1 y2 y3 y4 y5 u :=
  ⟨cell_else (by decide) h.q0 _, cell_else (by decide) h.q1 _, cell_else (by decide) h.q2 _, cell_else (by decide) h.q3 _, cell_else (by decide) h.q4 _, cell_else (by decide) h.q5 _, cell_put h.q6 _, fr_put h.z _ _⟩
/-- Seven values laid in a block's cells. -/
abbrev put7 (w : World) (g : Nat) (u0 u1 u2 u3 u4 u5 u6 : Value) : World := (((((((w.setCell ⟨g, 0, none⟩ u0).setCell ⟨g, 1, none⟩ u1).setCell ⟨g, 2, none⟩ u2).setCell ⟨g, 3, none⟩ u3).setCell ⟨g, 4, none⟩ u4).setCell ⟨g, 5, none⟩ u5).setCell ⟨g, 6, none⟩ u6)
theorem R7.put {w : World} {g : Nat} {y0 y1 y2 y3 y4 y5 y6 : Value} (h : R7 w g y0 y1 y2 y3 y4 y5 y6) (u0 u1 u2 u3 u4 u5 u6 : Value) : R7 (put7 w g u0 u1 u2 u3 u4 u5 u6) g u0 u1 u2 u3 u4 u5 u6 :=
  ((((((h.set0 u0).set1 u1).set2 u2).set3 u3).set4 u4).set5 u5).set6 u6
theorem put7_heap (w : World) (g : Nat) (u0 u1 u2 u3 u4 u5 u6 : Value) (k : Nat) (hk : k ≠ g) : (put7 w g u0 u1 u2 u3 u4 u5 u6).heap[k]? = w.heap[k]? := by
  have h : ∀ (w : World) (i : Nat) (u : Value), (w.setCell ⟨g, i, none⟩ u).heap[k]? = w.heap[k]? := fun w i u => heap_else (fun e => hk e.symm) u
  unfold put7
  rw [h, h, h, h, h, h, h]
theorem put7_below {B : Nat} {w0 w : World} {g : Nat} (hb : Below B w0 w) (hg : B ≤ g) (u0 u1 u2 u3 u4 u5 u6 : Value) : Below B w0 (put7 w g u0 u1 u2 u3 u4 u5 u6) :=
  ((((((hb.setCell (p := ⟨g, 0, none⟩) hg _).setCell (p := ⟨g, 1, none⟩) hg _).setCell (p := ⟨g, 2, none⟩) hg _).setCell (p := ⟨g, 3, none⟩) hg _).setCell (p := ⟨g, 4, none⟩) hg _).setCell (p := ⟨g, 5, none⟩) hg _).setCell (p := ⟨g, 6, none⟩) hg _

set_option maxRecDepth 100000 in
set_option maxHeartbeats 8000000 in
theorem rfault_any (a : Option Addr) (n c : Nat) (fs : List Ft) (hn : fs.length = n) (hbig : n ≤ 1000) (x : Int) (w : World) (hc : FtsIn w a fs) :
    Calls Try.prog 28 #[.slice a n c, .int .i64 x] w fun e w' => e = .returned (ftV (theF fs x)) ∧ Below w.heap.size w w' := by
  obtain ⟨m, hm⟩ : ∃ m, w.heap.size = m := ⟨_, rfl⟩
  have kA := (Below.refl w.heap.size w).alloc (Nat.le_refl _) (.cells #[.int .i64 0, .int .i64 0, .int .i64 0] 53)
  have FC := box (ft_cells w ⟨0, 0, 0⟩ m hm.symm)
  have ks := size_alloc' w (.cells #[.int .i64 0, .int .i64 0, .int .i64 0] 53)
  have HC := box (hc.below kA)
  have HM := box hm
  rw [hm] at ks
  simp only at FC
  clear hc
  go_enter Try.func28, Try.ntmps28
  go_wp2_with fail
  generalize w.alloc (.cells #[.int .i64 0, .int .i64 0, .int .i64 0] 53) = w1 at kA FC HC ks ⊢
  obtain ⟨f0, f1, f2, ff⟩ := FC.out
  have HS := box ks
  clear hm ks FC
  go_loop [5] (fun t5 => ∃ k : Nat, k ≤ n ∧ t5 = .int .i64 k ∧ Box (∀ j (h : j < fs.length), j < k → fs[j].at_ ≠ x)) (fun t5 => n - (intOf t5).toNat)
  case atStart => exact ⟨0, by omega, rfl, box (fun j h h2 => by omega)⟩
  case round =>
    obtain ⟨k, hk, rfl, hne⟩ := hrel
    by_cases hlt : k < n
    · obtain ⟨b, o, rfl, x0, x1, x2⟩ := HC.out.at (show k < fs.length by omega)
      have lx := World.block_lt_of_cell? w1 ⟨b, o + k * 3, none⟩ x0
      have HF := box (show ∃ f, fs[k]'(by omega) = f from ⟨_, rfl⟩)
      obtain ⟨f, hf⟩ := HF.out
      rw [hf] at x0 x1 x2
      have HFF := box hf
      clear HF hf
      by_cases hx : f.at_ = x
      · have d1 : (f.at_ == x) = true := by simp [hx]
        have HV := box (show theF fs x = f from by
          unfold theF
          rw [List.find?_eq_some_iff_getElem.2 ⟨by simp [hx], k, by omega, HFF.out, fun j hj => by
            have := hne.out j (by omega) hj
            simp only [Bool.not_eq_true', beq_eq_false_iff_ne, ne_eq]
            exact this⟩]
          rfl)
        clear hx
        go_wp2_with fail
        refine bodyPost_ret (v := ftV f) (by simp [results, Try.results28, go_sem, f0, f1, f2]) rfl ⟨by rw [HV.out], ?_⟩
        exact ((kA.setCell (p := ⟨m, 0, none⟩) (by rw [HM.out]; exact Nat.le_refl _) _).setCell (p := ⟨m, 1, none⟩) (by rw [HM.out]; exact Nat.le_refl _) _).setCell (p := ⟨m, 2, none⟩) (by rw [HM.out]; exact Nat.le_refl _) _
      · have d1 : (f.at_ == x) = false := by simp [hx]
        have HX := box hx
        clear hx
        go_wp2_with fail
        go_round
        case rel =>
          refine ⟨k + 1, by omega, by go_num, box (fun j h hj => ?_)⟩
          rcases Nat.lt_or_ge j k with h1 | h1
          · exact hne.out j h h1
          · obtain rfl : j = k := by omega
            rw [HFF.out]; exact HX.out
        case measure => simp [intOf]; omega
    · have hkn : k = n := by omega
      have HV := box (show theF fs x = ⟨0, 0, 0⟩ from theF_none (fun f hf => by
        obtain ⟨i, hi, rfl⟩ := List.getElem_of_mem hf
        exact hne.out i hi (by omega)))
      clear hkn
      go_wp2_with fail
      refine bodyPost_ret (v := .agg #[.int .i64 0, .int .i64 0, .int .i64 0]) (by simp [results, Try.results28, go_sem, f0, f1, f2]) rfl ⟨by rw [HV.out], ?_⟩
      exact ((kA.setCell (p := ⟨m, 0, none⟩) (by rw [HM.out]; exact Nat.le_refl _) _).setCell (p := ⟨m, 1, none⟩) (by rw [HM.out]; exact Nat.le_refl _) _).setCell (p := ⟨m, 2, none⟩) (by rw [HM.out]; exact Nat.le_refl _) _

set_option maxRecDepth 100000 in
set_option maxHeartbeats 8000000 in
theorem flipped_any (a : Option Addr) (n c : Nat) (xs : List Nat) (hn : xs.length = n) (hx : ∀ x ∈ xs, x < 256) (hbig : n ≤ 1000) (hnil : a = none → c = 0) (k : Nat) (w : World) (hc : In w a xs) :
    Calls Try.prog 29 #[.slice a n c, .int .i64 k] w fun e w' => ∃ v, e = .returned v ∧ Own w.heap.size w' v n (flipA xs k) ∧ Below w.heap.size w w' := by
  have kA := (Below.refl w.heap.size w).alloc (Nat.le_refl _) (.cells #[] 5)
  have HC := box (hc.below kA)
  have HX := box hx
  have HNIL := box hnil
  have HSA := box (show w.heap.size ≤ (w.alloc (.cells #[] 5)).heap.size from kA.size)
  have HO0 := box (World.ownsRow_made (e := 5) (size := 1) (base := w.heap.size) w #[] 0 (Nat.le_refl _) (Nat.zero_le _) rfl)
  clear hc hx hnil
  go_enter Try.func29, Try.ntmps29
  go_upto_region 2 with (at_builtin; refine wpList_append_in (o := ⟨some 9, _, _, _, _, _⟩) rfl (.tmp 7) (.tmp 8) rfl w.heap.size (.slice (some ⟨w.heap.size, 0, none⟩) 0 0) 0 [] rfl HO0.out a n c xs rfl hn HC.out HNIL.out (by omega) HSA.out ?_; intro v2 w2 ho2 hg2)
  have ho2' : Own w.heap.size w2 v2 n xs := by simpa [Own] using ho2
  have HO2 := box ho2'
  have K2 := box (kA.grown hg2 kA.size (fun q hq => by cases hq; exact Nat.le_refl _))
  clear ho2 ho2' hg2 kA HC HO0 HSA
  obtain ⟨a2, c2, rfl⟩ : ∃ a c, v2 = .slice a n c := by
    obtain ⟨a2, c2, h, _⟩ := own_any HO2.out
    exact ⟨a2, c2, h⟩
  by_cases h0 : n = 0
  · have HF := box (show flipA xs k = xs by unfold flipA; rw [if_pos (by omega)])
    subst h0
    go_wp2_with fail
    go_ret
    exact ⟨_, rfl, by rw [HF.out]; exact HO2.out, K2.out⟩
  · have hown := HO2.out
    obtain ⟨g, cap, hgc⟩ : ∃ g cap, (Value.slice a2 n c2) = .slice (some ⟨g, 0, none⟩) n cap := by
      rcases hown.2 with ⟨_, h0⟩ | ⟨g, cap, _, hv, _⟩
      · omega
      · exact ⟨g, cap, hv⟩
    cases hgc
    have hg : w.heap.size ≤ g := (row_blk hown g rfl).1
    have HF := box (show flipA xs k = flipS xs (k % (6 * n)) by unfold flipA; rw [if_neg (by omega), hn])
    have hK : (k : Int) % (6 * (n : Int)) = ((k % (6 * n) : Nat) : Int) := by push_cast; rfl
    have hK1 : k % (6 * n) < 6 * n := Nat.mod_lt _ (by omega)
    obtain ⟨M, hM⟩ : ∃ M, 6 * n = M := ⟨_, rfl⟩
    have hK2 : (6 : Int) * (n : Int) = (M : Int) := by omega
    generalize k % (6 * n) = K at HF hK hK1
    rw [hK2] at hK
    have hM0 : ¬ ((M : Int) = 0) := by omega
    have hM1 : M ≤ 6000 := by omega
    have hq : K / 6 < n := by omega
    have ly : xs.getD (K / 6) 0 < 256 := getD_lt HX.out (by omega)
    have c1 : w2.cell? ⟨g, K / 6, none⟩ = some (nU8 (xs.getD (K / 6) 0)) := by
      rw [hown.cellAt _ (by omega)]
      simp [List.getD_eq_getElem?_getD, List.getElem?_eq_getElem (show K / 6 < xs.length by omega)]
    have f1 := hown.frozenAt (K / 6)
    have lpw := pow_lt K
    have hxor : bits .xor .u8 ((xs.getD (K / 6) 0 : Nat) : Int) (IntKind.u8.wrap (2 ^ (K % 6))) = ((xs.getD (K / 6) 0 ^^^ 2 ^ (K % 6) : Nat) : Int) := by
      have h := u8_xor_nat (xs.getD (K / 6) 0) (2 ^ (K % 6)) ly lpw
      have hcast : ((2 ^ (K % 6) : Nat) : Int) = (2 : Int) ^ (K % 6) := Int.natCast_pow 2 (K % 6)
      have h2 : IntKind.u8.wrap ((2 : Int) ^ (K % 6)) = ((2 ^ (K % 6) : Nat) : Int) := by
        rw [IntKind.wrap_u8, hcast]
        exact Int.emod_eq_of_lt (by rw [← hcast]; exact Int.natCast_nonneg _) (by rw [← hcast]; exact Int.ofNat_lt.2 lpw)
      rw [h2]; exact h
    have HST := box (hown.stored (K / 6) (nU8 (xs.getD (K / 6) 0 ^^^ 2 ^ (K % 6)))).1
    rw [← List.map_set, show xs.set (K / 6) (xs.getD (K / 6) 0 ^^^ 2 ^ (K % 6)) = flipS xs K from rfl] at HST
    have e1 : (K : Int).tdiv 6 = ((K / 6 : Nat) : Int) := by rw [Int.tdiv_eq_ediv_of_nonneg (by omega)]; push_cast; rfl
    have e3 : (K : Int).tmod 6 = ((K % 6 : Nat) : Int) := by rw [Int.tmod_eq_emod_of_nonneg (by omega)]; push_cast; rfl
    have lr : K % 6 < 6 := by omega
    have HMB := box hM
    have hKM : K < 6000 := by omega
    clear hown lpw hM hK1
    generalize xs.getD (K / 6) 0 ^^^ 2 ^ (K % 6) = nv at hxor HST
    generalize xs.getD (K / 6) 0 = yv at hxor c1 ly
    generalize K % 6 = r at hxor lr e3
    generalize K / 6 = q at c1 f1 e1 HST hq
    have w1' : IntKind.i64.wrap (q : Int) = (q : Int) := by rw [IntKind.wrap_i64]; omega
    have w2' : IntKind.i64.wrap (K : Int) = (K : Int) := by rw [IntKind.wrap_i64]; omega
    have q0 : (0 : Int) ≤ (q : Int) := by omega
    have q1 : (q : Int) < (n : Int) := by omega
    have r0 : (0 : Int) ≤ (r : Int) := by omega
    go_wp2_with fail
    go_region
    all_goals
      go_wp2_with fail
      go_ret
      have hx2 : bits .xor .u8 (yv : Int) (2 ^ r % 256) = (nv : Int) := by rw [← IntKind.wrap_u8]; exact hxor
      refine ⟨_, rfl, ?_, (K2.out.setCell (p := ⟨g, q, none⟩) hg _).drew⟩
      rw [HF.out]
      first | exact HST.out.drew | (rw [hx2]; exact HST.out.drew)
end Go.Proofs.Ytoeedbimhihbhaa
