/- The reference's Cut and Tick. -/
import Derived.Test.YtoeedbimhihbhaaCabW
import Derived.Test.YtoeedbimhihbhaaCabT
namespace Go.Proofs.Ytoeedbimhihbhaa
open Go.RowKit

/-- The same, and where the row lies now. -/
theorem wpList_append_rf' {w : World} {ops : Array Oper} {rest : List Oper} {o : Oper} {a : Act} {Q : Exit → Act → World → Prop} (hgd : o.guard = none) (s x : Operand)
    (ho : o.op = .call { callee := .builtin .append, args := #[s, x], argTypes := #[33, 33] })
    (base : Nat) (v : Value) (n : Nat) (xs : List Value) (hs : a.eval s = v) (hown : w.ownsRow base 66 2 v n xs)
    (p : Option Addr) (m c : Nat) (news : List Value) (hx : a.eval x = .slice p m c) (hl : news.length = m * 2) (hnil : p = none → c = 0 ∧ m = 0) (hnews : ∀ ad, p = some ad → ∀ j u, news[j]? = some u → w.cell? (ad.add j) = some u) (h1 : ∀ u ∈ news, u.oneCell' = true)
    (h63 : n + m ≤ 100000) (hbase : base ≤ w.heap.size)
    (h : ∀ va' vc' w', Box (w'.ownsRow base 66 2 (.slice va' (n + m) vc') (n + m) (xs ++ news)) → Box (w.grownBy w' v.ownBlock) → Box ((Value.slice va' (n + m) vc').ownBlock = v.ownBlock ∨ (Value.slice va' (n + m) vc').ownBlock = some w.heap.size) → wpList Try.prog ops Q rest (a.put o.dst (.slice va' (n + m) vc')) w') : wpList Try.prog ops Q (o :: rest) a w := by
  obtain ⟨i0, hi, hz0, hz1, hz2⟩ := info_parts Try.infoRf
  rcases p with _ | ad
  · obtain ⟨rfl, rfl⟩ := hnil rfl
    obtain rfl : news = [] := List.eq_nil_of_length_eq_zero (by omega)
    refine wpList_append_own_none hgd s x 33 ho base 66 i0 2 Try.underlying33 hi v n xs hs hown hx ?_
    obtain ⟨va, vc, rfl⟩ : ∃ a c, v = .slice a n c := by
      rcases row_form hown with ⟨h, h0, _⟩ | ⟨g', c, h, _⟩
      · exact ⟨none, 0, by rw [h, h0]⟩
      · exact ⟨_, c, h⟩
    exact h va vc w (box (by simpa using hown)) (box ⟨rfl, rfl, rfl, Nat.le_refl _, fun _ _ _ => rfl⟩) (box (.inl rfl))
  · refine wpList_append_own_at w hgd s x 33 ho base 66 i0 (.agg #[.int .i64 0, .slice none 0 0]) 2 32 Try.underlying33 hi hz0 hz1 hz2 rfl (by decide) v n xs hs hown ad m c news hx hl (hnews ad rfl) h1 (by unfold maxLen; omega) (by omega) hbase ?_
    intro v' w' ho' hg' _ hat'
    obtain ⟨va, vc, rfl⟩ : ∃ a c, v' = .slice a (n + m) c := by
      rcases row_form ho' with ⟨h, h0, _⟩ | ⟨g', c, h, _⟩
      · exact ⟨none, 0, by rw [h, h0]⟩
      · exact ⟨_, c, h⟩
    exact h va vc w' (box ho') (box hg') (box hat')

set_option maxRecDepth 100000 in
set_option maxHeartbeats 8000000 in
theorem rcut_any (la : Option Addr) (lc : Nat) (r : Rc) (w : World) (b4 : r.lost < 1000000) (b5 : r.fl.length ≤ 64) :
    Calls Try.prog 23 #[rcV la lc r] w fun e w' => e = .returned (rcV none 0 ⟨r.d, r.fa, r.fc, r.fs, true, r.idx, r.now, [], r.lost + r.fl.length⟩) ∧ Below w.heap.size w w' := by
  obtain ⟨m, hm⟩ : ∃ m, w.heap.size = m := ⟨_, rfl⟩
  have HM := box hm
  have M1 := R7.new w (.int .i64 r.d) (.slice r.fa r.fs.length r.fc) (.bool r.down) (.int .i64 r.idx) (.int .i64 r.now) (.slice la r.fl.length lc) (.int .i64 r.lost) 35 m hm.symm
  have k1 : Below w.heap.size w (w.alloc (.cells #[.int .i64 r.d, .slice r.fa r.fs.length r.fc, .bool r.down, .int .i64 r.idx, .int .i64 r.now, .slice la r.fl.length lc, .int .i64 r.lost] 35)) := (Below.refl _ _).alloc (Nat.le_refl _) _
  have s1 := size_alloc' w (.cells #[.int .i64 r.d, .slice r.fa r.fs.length r.fc, .bool r.down, .int .i64 r.idx, .int .i64 r.now, .slice la r.fl.length lc, .int .i64 r.lost] 35)
  have M2 := M1.keep (w' := (w.alloc (.cells #[.int .i64 r.d, .slice r.fa r.fs.length r.fc, .bool r.down, .int .i64 r.idx, .int .i64 r.now, .slice la r.fl.length lc, .int .i64 r.lost] 35)).alloc (.cells #[.int .i64 0, .slice none 0 0, .bool false, .int .i64 0, .int .i64 0, .slice none 0 0, .int .i64 0] 35)) ((Below.refl _ _).alloc (Nat.le_refl _) _)
  have T2 := R7.new (w.alloc (.cells #[.int .i64 r.d, .slice r.fa r.fs.length r.fc, .bool r.down, .int .i64 r.idx, .int .i64 r.now, .slice la r.fl.length lc, .int .i64 r.lost] 35)) (.int .i64 0) (.slice none 0 0) (.bool false) (.int .i64 0) (.int .i64 0) (.slice none 0 0) (.int .i64 0) 35 (m + 1) (by rw [s1, hm])
  have k2 : Below w.heap.size w ((w.alloc (.cells #[.int .i64 r.d, .slice r.fa r.fs.length r.fc, .bool r.down, .int .i64 r.idx, .int .i64 r.now, .slice la r.fl.length lc, .int .i64 r.lost] 35)).alloc (.cells #[.int .i64 0, .slice none 0 0, .bool false, .int .i64 0, .int .i64 0, .slice none 0 0, .int .i64 0] 35)) := k1.alloc k1.size _
  have s2 := size_alloc' (w.alloc (.cells #[.int .i64 r.d, .slice r.fa r.fs.length r.fc, .bool r.down, .int .i64 r.idx, .int .i64 r.now, .slice la r.fl.length lc, .int .i64 r.lost] 35)) (.cells #[.int .i64 0, .slice none 0 0, .bool false, .int .i64 0, .int .i64 0, .slice none 0 0, .int .i64 0] 35)
  rw [s1, hm] at s2
  have MB := box M2
  have TB := box T2
  clear M1 M2 T2 k1 s1
  go_enter Try.func23, Try.ntmps23
  go_upto_region 1 with fail
  generalize (w.alloc (.cells #[.int .i64 r.d, .slice r.fa r.fs.length r.fc, .bool r.down, .int .i64 r.idx, .int .i64 r.now, .slice la r.fl.length lc, .int .i64 r.lost] 35)).alloc (.cells #[.int .i64 0, .slice none 0 0, .bool false, .int .i64 0, .int .i64 0, .slice none 0 0, .int .i64 0] 35) = w1 at MB TB k2 s2 ⊢
  have K1 := box k2
  have S1 := box s2
  clear k2 s2 hm
  have hmm : m ≠ m + 1 := by omega
  obtain ⟨p0, p1, p2, p3, p4, p5, p6, pz⟩ := MB.out
  have MB2 := box (MB.out.set6 (.int .i64 ((r.lost : Int) + (r.fl.length : Int))))
  have TB2 := box (TB.out.same (w' := w1.setCell ⟨m, 6, none⟩ (.int .i64 ((r.lost : Int) + (r.fl.length : Int)))) (heap_else hmm _))
  have K2 := box (K1.out.setCell (p := ⟨m, 6, none⟩) (by rw [HM.out]; exact Nat.le_refl _) (.int .i64 ((r.lost : Int) + (r.fl.length : Int))))
  go_upto_region 2 with fail
  generalize w1.setCell ⟨m, 6, none⟩ (.int .i64 ((r.lost : Int) + (r.fl.length : Int))) = w2 at MB2 TB2 K2 ⊢
  clear p0 p1 p2 p3 p4 p5 p6 pz
  obtain ⟨p0, p1, p2, p3, p4, p5, p6, pz⟩ := MB2.out
  have MB3 := box (MB2.out.set5 (.slice none 0 0))
  have TB3 := box (TB2.out.same (w' := w2.setCell ⟨m, 5, none⟩ (.slice none 0 0)) (heap_else hmm _))
  have K3 := box (K2.out.setCell (p := ⟨m, 5, none⟩) (by rw [HM.out]; exact Nat.le_refl _) (.slice none 0 0))
  go_upto_region 3 with fail
  generalize w2.setCell ⟨m, 5, none⟩ (.slice none 0 0) = w3 at MB3 TB3 K3 ⊢
  clear p0 p1 p2 p3 p4 p5 p6 pz
  obtain ⟨p0, p1, p2, p3, p4, p5, p6, pz⟩ := MB3.out
  have MB4 := box (MB3.out.set2 (.bool true))
  have TB4 := box (TB3.out.same (w' := w3.setCell ⟨m, 2, none⟩ (.bool true)) (heap_else hmm _))
  have K4 := box (K3.out.setCell (p := ⟨m, 2, none⟩) (by rw [HM.out]; exact Nat.le_refl _) (.bool true))
  go_upto_region 4 with fail
  generalize w3.setCell ⟨m, 2, none⟩ (.bool true) = w4 at MB4 TB4 K4 ⊢
  clear p0 p1 p2 p3 p4 p5 p6 pz
  obtain ⟨p0, p1, p2, p3, p4, p5, p6, pz⟩ := MB4.out
  obtain ⟨t0, t1, t2, t3, t4, t5, t6, tz⟩ := TB4.out
  have PT := box (TB4.out.put (.int .i64 r.d) (.slice r.fa r.fs.length r.fc) (.bool true) (.int .i64 r.idx) (.int .i64 r.now) (.slice none 0 0) (.int .i64 ((r.lost : Int) + (r.fl.length : Int))))
  have KF := box (put7_below K4.out (show w.heap.size ≤ m + 1 by rw [HM.out]; omega) (.int .i64 r.d) (.slice r.fa r.fs.length r.fc) (.bool true) (.int .i64 r.idx) (.int .i64 r.now) (.slice none 0 0) (.int .i64 ((r.lost : Int) + (r.fl.length : Int))))
  go_wp2_with fail
  change bodyPost _ _ _ _ _ (put7 w4 (m + 1) (.int .i64 r.d) (.slice r.fa r.fs.length r.fc) (.bool true) (.int .i64 r.idx) (.int .i64 r.now) (.slice none 0 0) (.int .i64 ((r.lost : Int) + (r.fl.length : Int))))
  generalize put7 w4 (m + 1) (.int .i64 r.d) (.slice r.fa r.fs.length r.fc) (.bool true) (.int .i64 r.idx) (.int .i64 r.now) (.slice none 0 0) (.int .i64 ((r.lost : Int) + (r.fl.length : Int))) = w9 at PT KF ⊢
  obtain ⟨o0, o1, o2, o3, o4, o5, o6, oz⟩ := PT.out
  refine bodyPost_ret (v := .agg #[.int .i64 r.d, .slice r.fa r.fs.length r.fc, .bool true, .int .i64 r.idx, .int .i64 r.now, .slice none 0 0, .int .i64 ((r.lost : Int) + (r.fl.length : Int))]) (by simp [results, Try.results23, go_sem, o0, o1, o2, o3, o4, o5, o6]) rfl ⟨?_, KF.out⟩
  simp [rcV]

set_option maxRecDepth 100000 in
set_option maxHeartbeats 8000000 in
theorem rtick_any (E : Nat → Prop) (la : Option Addr) (lc : Nat) (r : Rc) (w : World) (hE : ∀ k, E k → k < w.heap.size) (hr : RfAt E w (.slice la r.fl.length lc) r.fl) (b3 : r.now < 1000000) (b5 : r.fl.length ≤ 64) :
    Calls Try.prog 20 #[rcV la lc r] w fun e w' => ∃ la' lc' oa oc, e = .returned (.tuple #[rcV la' lc' ⟨r.d, r.fa, r.fc, r.fs, r.down, r.idx, r.now + 1, r.fl.filter (fun f => f.t != r.now + 1), r.lost⟩, .slice oa (r.fl.filter (fun f => f.t == r.now + 1)).length oc]) ∧
      RfAt E w' (.slice la' (r.fl.filter (fun f => f.t != r.now + 1)).length lc') (r.fl.filter (fun f => f.t != r.now + 1)) ∧ w'.ownsRow w.heap.size 36 1 (.slice oa (r.fl.filter (fun f => f.t == r.now + 1)).length oc) (r.fl.filter (fun f => f.t == r.now + 1)).length ((r.fl.filter (fun f => f.t == r.now + 1)).map slV) ∧ (∀ f ∈ r.fl, SymIn E w' f.a f.c f.xs) ∧ Below w.heap.size w w' := by
  have HR := box hr
  have HE := box hE
  obtain ⟨T, hT⟩ : ∃ T, r.now + 1 = T := ⟨_, rfl⟩
  have HT := box hT
  have eT : (r.now : Int) + 1 = (T : Int) := by omega
  rw [hT]
  clear hr hE hT
  obtain ⟨m, hm⟩ : ∃ m, w.heap.size = m := ⟨_, rfl⟩
  have HM := box hm
  have M1 := R7.new w (.int .i64 r.d) (.slice r.fa r.fs.length r.fc) (.bool r.down) (.int .i64 r.idx) (.int .i64 r.now) (.slice la r.fl.length lc) (.int .i64 r.lost) 35 m hm.symm
  have k1 : Below w.heap.size w (w.alloc (.cells #[.int .i64 r.d, .slice r.fa r.fs.length r.fc, .bool r.down, .int .i64 r.idx, .int .i64 r.now, .slice la r.fl.length lc, .int .i64 r.lost] 35)) := (Below.refl _ _).alloc (Nat.le_refl _) _
  have s1 := size_alloc' w (.cells #[.int .i64 r.d, .slice r.fa r.fs.length r.fc, .bool r.down, .int .i64 r.idx, .int .i64 r.now, .slice la r.fl.length lc, .int .i64 r.lost] 35)
  have M2 := M1.keep (w' := (w.alloc (.cells #[.int .i64 r.d, .slice r.fa r.fs.length r.fc, .bool r.down, .int .i64 r.idx, .int .i64 r.now, .slice la r.fl.length lc, .int .i64 r.lost] 35)).alloc (.cells #[.int .i64 0, .slice none 0 0, .bool false, .int .i64 0, .int .i64 0, .slice none 0 0, .int .i64 0] 35)) ((Below.refl _ _).alloc (Nat.le_refl _) _)
  have T2 := R7.new (w.alloc (.cells #[.int .i64 r.d, .slice r.fa r.fs.length r.fc, .bool r.down, .int .i64 r.idx, .int .i64 r.now, .slice la r.fl.length lc, .int .i64 r.lost] 35)) (.int .i64 0) (.slice none 0 0) (.bool false) (.int .i64 0) (.int .i64 0) (.slice none 0 0) (.int .i64 0) 35 (m + 1) (by rw [s1, hm])
  have k2 : Below w.heap.size w ((w.alloc (.cells #[.int .i64 r.d, .slice r.fa r.fs.length r.fc, .bool r.down, .int .i64 r.idx, .int .i64 r.now, .slice la r.fl.length lc, .int .i64 r.lost] 35)).alloc (.cells #[.int .i64 0, .slice none 0 0, .bool false, .int .i64 0, .int .i64 0, .slice none 0 0, .int .i64 0] 35)) := k1.alloc k1.size _
  have s2 := size_alloc' (w.alloc (.cells #[.int .i64 r.d, .slice r.fa r.fs.length r.fc, .bool r.down, .int .i64 r.idx, .int .i64 r.now, .slice la r.fl.length lc, .int .i64 r.lost] 35)) (.cells #[.int .i64 0, .slice none 0 0, .bool false, .int .i64 0, .int .i64 0, .slice none 0 0, .int .i64 0] 35)
  rw [s1, hm] at s2
  have MB := box M2
  have TB := box T2
  clear M1 M2 T2 k1 s1
  go_enter Try.func20, Try.ntmps20
  go_upto_region 1 with fail
  generalize (w.alloc (.cells #[.int .i64 r.d, .slice r.fa r.fs.length r.fc, .bool r.down, .int .i64 r.idx, .int .i64 r.now, .slice la r.fl.length lc, .int .i64 r.lost] 35)).alloc (.cells #[.int .i64 0, .slice none 0 0, .bool false, .int .i64 0, .int .i64 0, .slice none 0 0, .int .i64 0] 35) = w1 at MB TB k2 s2 ⊢
  have K1 := box k2
  have S1 := box s2
  clear k2 s2 hm
  have hmm : m ≠ m + 1 := by omega
  obtain ⟨p0, p1, p2, p3, p4, p5, p6, pz⟩ := MB.out
  have MB2 := box (MB.out.set4 (.int .i64 (T : Int)))
  have TB2 := box (TB.out.same (w' := w1.setCell ⟨m, 4, none⟩ (.int .i64 (T : Int))) (heap_else hmm _))
  have K2 := box (K1.out.setCell (p := ⟨m, 4, none⟩) (by rw [HM.out]; exact Nat.le_refl _) (.int .i64 (T : Int)))
  go_upto_region 2 with fail
  generalize w1.setCell ⟨m, 4, none⟩ (.int .i64 (T : Int)) = w2 at MB2 TB2 K2 ⊢
  clear p0 p1 p2 p3 p4 p5 p6 pz
  obtain ⟨L, hL⟩ : ∃ L, r.fl.length = L := ⟨_, rfl⟩
  have HL := box hL
  rw [hL] at MB2 b5
  have HR2 := box (HR.out.keep K2.out)
  have S2 := box (show w.heap.size ≤ w2.heap.size from K2.out.size)
  clear hL
  obtain ⟨p0, p1, p2, p3, p4, p5, p6, pz⟩ := MB2.out
  go_wp2_with fail
  clear p0 p1 p2 p3 p4 p5 p6 pz
  go_loopw [4, 5, 6] (fun t4 t5 t6 wr => ∃ (k : Nat) (va : Option Addr) (nl vc : Nat) (oa : Option Addr) (no oc : Nat), k ≤ L ∧ t6 = .int .i64 k ∧ t4 = .slice va nl vc ∧ t5 = .slice oa no oc ∧ Box (nl = ((r.fl.take k).filter (fun f => f.t != T)).length ∧ no = ((r.fl.take k).filter (fun f => f.t == T)).length) ∧ nl ≤ k ∧ no ≤ k ∧ Box (wr.ownsRow w2.heap.size 66 2 (.slice va nl vc) nl (rfCells ((r.fl.take k).filter (fun f => f.t != T)))) ∧ Box (wr.ownsRow w2.heap.size 36 1 (.slice oa no oc) no (((r.fl.take k).filter (fun f => f.t == T)).map slV)) ∧ Box (∀ q, (Value.slice va nl vc).ownBlock = some q → (Value.slice oa no oc).ownBlock ≠ some q) ∧ Box (Below w2.heap.size w2 wr)) (fun _ _ t6 _ => L - (intOf t6).toNat)
  case atStart => exact ⟨0, none, 0, 0, none, 0, 0, by omega, rfl, rfl, rfl, box ⟨rfl, rfl⟩, by omega, by omega, box (World.ownsRow_nil w2 w2.heap.size 66 2), box (World.ownsRow_nil w2 w2.heap.size 36 1), box (fun q (h : (none : Option Nat) = some q) => (by cases h)), box (Below.refl _ _)⟩
  case round =>
    obtain ⟨k, va, nl, vc, oa, no, oc, hk, rfl, rfl, rfl, hlen, hnl, hno, HLR, HOR, HAP, KR⟩ := hrel
    have MR := box (MB2.out.keep KR.out)
    by_cases hlt : k < L
    · have hkl : k < r.fl.length := by have := HL.out; omega
      obtain ⟨bb, hla, hbb⟩ : ∃ b, la = some ⟨b, 0, none⟩ ∧ b < w.heap.size := by
        rcases row_form HR.out.row with ⟨h1, h2, _⟩ | ⟨b, cap, h1, _, h3, _⟩
        · have := HL.out; omega
        · have e1 : la = some ⟨b, 0, none⟩ := by injection h1
          exact ⟨b, e1, h3⟩
      subst hla
      have HFX := box (show ∃ f, r.fl[k] = f ∧ f ∈ r.fl from ⟨_, rfl, List.getElem_mem _⟩)
      obtain ⟨f, hf, hfm⟩ := HFX.out
      obtain ⟨g0, g1⟩ := rfCells_get r.fl k hkl
      rw [hf] at g0 g1
      have rowr := (HR2.out.keep KR.out).row
      have x0 : wr.cell? ⟨bb, k * 2, none⟩ = some (.int .i64 f.t) := by rw [rowr.cellAt (k * 2) (by omega)]; exact g0
      have x1 : wr.cell? ⟨bb, k * 2 + 1, none⟩ = some (.slice f.a f.xs.length f.c) := by rw [rowr.cellAt (k * 2 + 1) (by omega)]; exact g1
      have lx : bb < wr.heap.size := World.block_lt_of_cell? wr ⟨bb, k * 2, none⟩ x0
      have HTK := box (show r.fl.take (k + 1) = r.fl.take k ++ [f] by rw [List.take_add_one, List.getElem?_eq_getElem hkl, hf]; rfl)
      obtain ⟨fn, hfn⟩ : ∃ fn, f.xs.length = fn := ⟨_, rfl⟩
      have HFN := box hfn
      rw [hfn] at x1
      obtain ⟨p0, p1, p2, p3, p4, p5, p6, pz⟩ := MR.out
      clear HFX hf hfm g0 g1 rowr hfn
      by_cases hft : f.t = T
      · have d1 : (f.t == T) = true := by simp [hft]
        have d2 : ((f.t : Int) == (T : Int)) = true := by simp [hft]
        have HFT := box hft
        clear hft
        go_wp2_with fail
        go_quiet (fail)
        have kD : Below wr.heap.size wr (wr.drewN nq) := drewN_below wr nq
        have HLD := box (row_below HLR.out kD)
        have HOD := box (row_below HOR.out kD)
        have KD := box (KR.out.trans (kD.mono KR.out.size))
        have y0 := keepc kD x0
        have y1 := keepc kD x1
        have ly : bb < (wr.drewN nq).heap.size := lx
        obtain ⟨q0, q1, q2, q3, q4, q5, q6, qz⟩ := MR.out.keep kD
        clear p0 p1 p2 p3 p4 p5 p6 pz x0 x1 lx kD
        generalize wr.drewN nq = wd at HLD HOD KD y0 y1 ly q0 q1 q2 q3 q4 q5 q6 qz ⊢
        have kG : Below wd.heap.size wd (wd.alloc (.cells #[.slice f.a fn f.c] 36)) := (Below.refl _ _).alloc (Nat.le_refl _) _
        have HOG := box (row_below HOD.out kG)
        have HLG := box (row_below HLD.out kG)
        have HSG := box (show w2.heap.size ≤ (wd.alloc (.cells #[.slice f.a fn f.c] 36)).heap.size from Nat.le_trans KD.out.size kG.size)
        have HNG := box (show ∀ ad, (some ⟨wd.heap.size, 0, none⟩ : Option Addr) = some ad → ∀ i u, ([.slice f.a fn f.c] : List Value)[i]? = some u → (wd.alloc (.cells #[.slice f.a fn f.c] 36)).cell? (ad.add i) = some u from fun ad h i u hu => by
          cases h
          exact cell_one_new wd (.slice f.a fn f.c) 36 i u hu)
        have KG := box kG
        clear kG
        go_wp2_with (at_builtin; refine wpList_append_bs (o := ⟨some 35, _, _, _, _, _⟩) rfl (.tmp 27) (.tmp 34) rfl w2.heap.size (.slice oa no oc) no (((r.fl.take k).filter (fun f => f.t == T)).map slV) rfl HOG.out (some ⟨wd.heap.size, 0, none⟩) 1 1 [.slice f.a fn f.c] rfl rfl (fun h => by cases h) HNG.out (fun u hu => by simp at hu; subst hu; rfl) (by omega) HSG.out ?_; intro va7 vc7 w7 ho7 hg7 ha7)
        clear q0 q1 q2 q3 q4 q5 q6 qz y0 y1 ly
        go_wp2_with fail
        go_roundw
        case rel =>
          have hl := hlen.out
          refine ⟨k + 1, va, nl, vc, va7, no + 1, vc7, by omega, by go_num, rfl, rfl, box ?_, by omega, by omega, box ?_, box ?_, box ?_, box (own_below HOG.out (Nat.le_refl _) (KD.out.trans (KG.out.mono KD.out.size)) HSG.out hg7.out)⟩
          · rw [HTK.out, List.filter_append, List.filter_append]; simp [HFT.out]; omega
          · rw [HTK.out, List.filter_append]
            simp [HFT.out]
            exact row_same HLG.out (fun q hq => hg7.out.block q (row_blk HLG.out q hq).2 (fun e => HAP.out q hq e.symm))
          · rw [HTK.out, List.filter_append, List.map_append]
            have h := ho7.out
            rw [← HFN.out] at h
            simp [HFT.out]
            exact h
          · intro q hq hq2
            rcases ha7.out with h7 | h7
            · exact HAP.out q hq (h7.symm.trans hq2)
            · have h1 := (row_blk HLG.out q hq).2
              rw [h7] at hq2
              have := Option.some.inj hq2
              omega
        case measure => simp [intOf]; omega
      · have d1 : (f.t == T) = false := by simp [hft]
        have d2 : ((f.t : Int) == (T : Int)) = false := by simp; omega
        have HFT := box hft
        clear hft
        go_wp2_with fail
        go_quiet (fail)
        have kD : Below wr.heap.size wr (wr.drewN nq) := drewN_below wr nq
        have HLD := box (row_below HLR.out kD)
        have HOD := box (row_below HOR.out kD)
        have KD := box (KR.out.trans (kD.mono KR.out.size))
        have y0 := keepc kD x0
        have y1 := keepc kD x1
        have ly : bb < (wr.drewN nq).heap.size := lx
        obtain ⟨q0, q1, q2, q3, q4, q5, q6, qz⟩ := MR.out.keep kD
        clear p0 p1 p2 p3 p4 p5 p6 pz x0 x1 lx kD
        generalize wr.drewN nq = wd at HLD HOD KD y0 y1 ly q0 q1 q2 q3 q4 q5 q6 qz ⊢
        have kG : Below wd.heap.size wd (wd.alloc (.cells #[.int .i64 f.t, .slice f.a fn f.c] 66)) := (Below.refl _ _).alloc (Nat.le_refl _) _
        have HOG := box (row_below HOD.out kG)
        have HLG := box (row_below HLD.out kG)
        have HSG := box (show w2.heap.size ≤ (wd.alloc (.cells #[.int .i64 f.t, .slice f.a fn f.c] 66)).heap.size from Nat.le_trans KD.out.size kG.size)
        have HNG := box (show ∀ ad, (some ⟨wd.heap.size, 0, none⟩ : Option Addr) = some ad → ∀ i u, ([.int .i64 f.t, .slice f.a fn f.c] : List Value)[i]? = some u → (wd.alloc (.cells #[.int .i64 f.t, .slice f.a fn f.c] 66)).cell? (ad.add i) = some u from fun ad h i u hu => by
          cases h
          rw [add_off]
          refine (World.cell?_alloc_mark wd #[.int .i64 f.t, .slice f.a fn f.c] 66 (0, 0) i).trans ?_
          rw [← hu]
          rcases i with _ | _ | i <;> rfl)
        have HNGO := box (show ∀ u ∈ ([.int .i64 f.t, .slice f.a fn f.c] : List Value), u.oneCell' = true from fun u hu => by simp at hu; rcases hu with rfl | rfl <;> rfl)
        have KG := box kG
        clear kG
        go_wp2_with (at_builtin; refine wpList_append_rf' (o := ⟨some 43, _, _, _, _, _⟩) rfl (.tmp 36) (.tmp 42) rfl w2.heap.size (.slice va nl vc) nl (rfCells ((r.fl.take k).filter (fun f => f.t != T))) rfl HLG.out (some ⟨wd.heap.size, 0, none⟩) 1 1 [.int .i64 f.t, .slice f.a fn f.c] rfl rfl (fun h => by cases h) HNG.out HNGO.out (by omega) HSG.out ?_; intro va7 vc7 w7 ho7 hg7 ha7)
        clear q0 q1 q2 q3 q4 q5 q6 qz y0 y1 ly
        go_wp2_with fail
        go_roundw
        case rel =>
          have hl := hlen.out
          refine ⟨k + 1, va7, nl + 1, vc7, oa, no, oc, by omega, by go_num, rfl, rfl, box ?_, by omega, by omega, box ?_, box ?_, box ?_, box (own_below HLG.out (Nat.le_refl _) (KD.out.trans (KG.out.mono KD.out.size)) HSG.out hg7.out)⟩
          · rw [HTK.out, List.filter_append, List.filter_append]; simp [HFT.out]; omega
          · rw [HTK.out, List.filter_append, rfCells_append]
            have h := ho7.out
            rw [← HFN.out] at h
            simp [HFT.out]
            exact h
          · rw [HTK.out, List.filter_append]
            simp [HFT.out]
            exact row_same HOG.out (fun q hq => hg7.out.block q (row_blk HOG.out q hq).2 (fun e => HAP.out q e.symm hq))
          · intro q hq hq2
            rcases ha7.out with h7 | h7
            · exact HAP.out q (h7.symm.trans hq) hq2
            · have h1 := (row_blk HOG.out q hq2).2
              rw [h7] at hq
              have := Option.some.inj hq
              omega
        case measure => simp [intOf]; omega
    · have HKL := box (show k = L by omega)
      have HFF := box (show nl = (r.fl.filter (fun f => f.t != T)).length ∧ no = (r.fl.filter (fun f => f.t == T)).length by
        have h := hlen.out
        rw [HKL.out, ← HL.out, List.take_length] at h
        exact h)
      have HLF := box (show wr.ownsRow w2.heap.size 66 2 (.slice va nl vc) nl (rfCells (r.fl.filter (fun f => f.t != T))) by
        have h := HLR.out
        rw [HKL.out, ← HL.out, List.take_length] at h
        exact h)
      have HOF := box (show wr.ownsRow w2.heap.size 36 1 (.slice oa no oc) no ((r.fl.filter (fun f => f.t == T)).map slV) by
        have h := HOR.out
        rw [HKL.out, ← HL.out, List.take_length] at h
        exact h)
      have TR := box (TB2.out.keep KR.out)
      have KW := box (K2.out.trans (KR.out.mono S2.out))
      have HRW := box (HR2.out.keep KR.out)
      have S22 := box (show m + 2 ≤ w2.heap.size from by
        have h1 := S1.out
        have h2 := TB2.out.lt
        omega)
      have MB4 := box (MR.out.set5 (.slice va nl vc))
      have TB4 := box (TR.out.same (w' := wr.setCell ⟨m, 5, none⟩ (.slice va nl vc)) (heap_else hmm _))
      have K4 := box (KW.out.setCell (p := ⟨m, 5, none⟩) (by rw [HM.out]; exact Nat.le_refl _) (.slice va nl vc))
      have RF4 := box (show RfAt (fun k => E k ∨ k = m ∨ k = m + 1) wr (.slice va nl vc) (r.fl.filter (fun f => f.t != T)) from by
        refine ⟨by rw [← HFF.out.1]; exact row_low HLF.out (Nat.zero_le _), fun q hq he => ?_, fun f hf => ?_⟩
        · have h1 := (row_blk HLF.out q hq).1
          have h2 := S22.out
          have h3 := S2.out
          rcases he with he | he
          · have := HE.out q he; omega
          · omega
        · exact ((HR.out.excl (E' := fun k => E k ∨ k = m ∨ k = m + 1) (fun q hq h => h.elim id (fun h => by have := HM.out; omega))).keep KW.out).syms f (List.mem_filter.1 hf).1)
      have RF5 := box (RF4.out.same (w' := wr.setCell ⟨m, 5, none⟩ (.slice va nl vc)) (fun q _ he => heap_else (fun e => he (.inr (.inl e.symm))) _))
      have HO5 := box (row_same HOF.out (w' := wr.setCell ⟨m, 5, none⟩ (.slice va nl vc)) (fun q hq => heap_else (fun e => by have := (row_blk HOF.out q hq).1; have := S22.out; omega) _))
      obtain ⟨p0, p1, p2, p3, p4, p5, p6, pz⟩ := MR.out
      have dkl : decide (k < L) = false := decide_eq_false hlt
      go_upto_region 11 with fail
      clear p0 p1 p2 p3 p4 p5 p6 pz
      generalize wr.setCell ⟨m, 5, none⟩ (.slice va nl vc) = w4 at MB4 TB4 K4 RF5 HO5 ⊢
      obtain ⟨p0, p1, p2, p3, p4, p5, p6, pz⟩ := MB4.out
      obtain ⟨t0, t1, t2, t3, t4, t5, t6, tz⟩ := TB4.out
      have PT := box (TB4.out.put (.int .i64 r.d) (.slice r.fa r.fs.length r.fc) (.bool r.down) (.int .i64 r.idx) (.int .i64 T) (.slice va nl vc) (.int .i64 r.lost))
      have KF := box (put7_below K4.out (show w.heap.size ≤ m + 1 by rw [HM.out]; omega) (.int .i64 r.d) (.slice r.fa r.fs.length r.fc) (.bool r.down) (.int .i64 r.idx) (.int .i64 T) (.slice va nl vc) (.int .i64 r.lost))
      have RF9 := box ((RF5.out.same (w' := put7 w4 (m + 1) (.int .i64 r.d) (.slice r.fa r.fs.length r.fc) (.bool r.down) (.int .i64 r.idx) (.int .i64 T) (.slice va nl vc) (.int .i64 r.lost)) (fun k _ he => put7_heap _ _ _ _ _ _ _ _ _ k (fun e => he (.inr (.inr e))))).excl (E' := E) (fun k _ h => .inl h))
      have HO9 := box (row_same HO5.out (w' := put7 w4 (m + 1) (.int .i64 r.d) (.slice r.fa r.fs.length r.fc) (.bool r.down) (.int .i64 r.idx) (.int .i64 T) (.slice va nl vc) (.int .i64 r.lost)) (fun q hq => put7_heap _ _ _ _ _ _ _ _ _ q (fun e => by have := (row_blk HO5.out q hq).1; have := S22.out; omega)))
      have HS9 := box (HR.out.keep KF.out)
      go_wp2_with fail
      change bodyPost _ _ _ _ _ (put7 w4 (m + 1) (.int .i64 r.d) (.slice r.fa r.fs.length r.fc) (.bool r.down) (.int .i64 r.idx) (.int .i64 T) (.slice va nl vc) (.int .i64 r.lost))
      generalize put7 w4 (m + 1) (.int .i64 r.d) (.slice r.fa r.fs.length r.fc) (.bool r.down) (.int .i64 r.idx) (.int .i64 T) (.slice va nl vc) (.int .i64 r.lost) = w9 at PT KF RF9 HO9 HS9 ⊢
      obtain ⟨o0, o1, o2, o3, o4, o5, o6, oz⟩ := PT.out
      refine bodyPost_ret (v := .tuple #[.agg #[.int .i64 r.d, .slice r.fa r.fs.length r.fc, .bool r.down, .int .i64 r.idx, .int .i64 T, .slice va nl vc, .int .i64 r.lost], .slice oa no oc]) (by simp [results, Try.results20, go_sem, o0, o1, o2, o3, o4, o5, o6]) rfl ⟨va, vc, oa, oc, ?_, ?_, ?_, HS9.out.syms, KF.out⟩
      · simp [rcV, ← HFF.out.1, ← HFF.out.2]
      · rw [← HFF.out.1]; exact RF9.out
      · rw [← HFF.out.2]; exact row_low HO9.out S2.out
end Go.Proofs.Ytoeedbimhihbhaa
