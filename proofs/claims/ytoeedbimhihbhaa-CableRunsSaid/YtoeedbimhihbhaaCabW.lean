/- The reference's cable in memory, and its Send. -/
import Derived.Test.YtoeedbimhihbhaaCabV
import Derived.Deep.Cut
namespace Go.Proofs.Ytoeedbimhihbhaa
open Go.RowKit

/-- The cells of the reference's flights. -/
def rfCells (l : List Fl) : List Value := l.flatMap fun f => [.int .i64 f.t, .slice f.a f.xs.length f.c]
theorem rfCells_length (l : List Fl) : (rfCells l).length = l.length * 2 := by
  unfold rfCells
  induction l with
  | nil => rfl
  | cons f r ih => rw [List.flatMap_cons, List.length_append, ih]; show 2 + r.length * 2 = (r.length + 1) * 2; omega
theorem rfCells_append (l m : List Fl) : rfCells (l ++ m) = rfCells l ++ rfCells m := by unfold rfCells; rw [List.flatMap_append]
theorem rfCells_get : ∀ (l : List Fl) (i : Nat) (h : i < l.length), (rfCells l)[i * 2]? = some (.int .i64 l[i].t) ∧ (rfCells l)[i * 2 + 1]? = some (.slice l[i].a l[i].xs.length l[i].c)
  | f :: r, 0, _ => ⟨rfl, rfl⟩
  | f :: r, i + 1, h => by
    obtain ⟨h0, h1⟩ := rfCells_get r i (by simpa using h)
    have e : ∀ j, (rfCells (f :: r))[2 + j]? = (rfCells r)[j]? := fun j => by
      show ([_, _] ++ rfCells r)[2 + j]? = _
      rw [List.getElem?_append_right (by simp)]
      simp
    refine ⟨?_, ?_⟩
    · rw [show (i + 1) * 2 = 2 + i * 2 by omega, e]; exact h0
    · rw [show (i + 1) * 2 + 1 = 2 + (i * 2 + 1) by omega, e]; exact h1
theorem rfCells_one (l : List Fl) : ∀ u ∈ rfCells l, u.oneCell' = true := by
  intro u hu
  unfold rfCells at hu
  obtain ⟨f, _, hu⟩ := List.mem_flatMap.1 hu
  simp at hu
  rcases hu with rfl | rfl <;> rfl
theorem Try.infoRf : (Try.prog.info? 66).map (fun i => (i.zero, i.size, i.bytes)) = some (some (.agg #[.int .i64 0, .slice none 0 0]), 2, 32) := by kernel_rfl
/-- The reference's flights in memory, in no block of E. -/
structure RfAt (E : Nat → Prop) (w : World) (va : Value) (l : List Fl) : Prop where
  row : w.ownsRow 0 66 2 va l.length (rfCells l)
  out : ∀ k, va.ownBlock = some k → ¬ E k
  syms : ∀ f ∈ l, SymIn E w f.a f.c f.xs
theorem RfAt.same {E : Nat → Prop} {w w' : World} {va : Value} {l : List Fl} (h : RfAt E w va l) (hk : ∀ k, k < w.heap.size → ¬ E k → w'.heap[k]? = w.heap[k]?) : RfAt E w' va l :=
  ⟨row_same h.row (fun k hv => hk k (row_blk h.row k hv).2 (h.out k hv)), h.out, fun f hf => (h.syms f hf).keep hk⟩
theorem RfAt.keep {E : Nat → Prop} {w w' : World} {va : Value} {l : List Fl} (h : RfAt E w va l) (hb : Below w.heap.size w w') : RfAt E w' va l := h.same (fun k hk _ => hb.block k hk)
theorem RfAt.excl {E E' : Nat → Prop} {w : World} {va : Value} {l : List Fl} (h : RfAt E w va l) (hE : ∀ k, k < w.heap.size → E' k → E k) : RfAt E' w va l :=
  ⟨h.row, fun k hv he => h.out k hv (hE k (row_blk h.row k hv).2 he), fun f hf => (h.syms f hf).excl hE⟩
/-- The reference's cable. -/
structure Rc where
  d : Nat
  fa : Option Addr
  fc : Nat
  fs : List Ft
  down : Bool
  idx : Nat
  now : Nat
  fl : List Fl
  lost : Nat
abbrev rcV (la : Option Addr) (lc : Nat) (r : Rc) : Value := .agg #[.int .i64 r.d, .slice r.fa r.fs.length r.fc, .bool r.down, .int .i64 r.idx, .int .i64 r.now, .slice la r.fl.length lc, .int .i64 r.lost]
/-- What the reference's Send makes of its cable, and its answer. -/
def rsendR (r : Rc) (xs : List Nat) (r' : Rc) (code : Int) : Prop :=
  if r.down = true ∨ (theF r.fs r.idx).kind = 1 then r' = ⟨r.d, r.fa, r.fc, r.fs, r.down, r.idx + 1, r.now, r.fl, r.lost + 1⟩ ∧ code = 0
  else if 64 < r.fl.length + (if (theF r.fs r.idx).kind = 3 then 2 else 1) then r' = ⟨r.d, r.fa, r.fc, r.fs, r.down, r.idx + 1, r.now, r.fl, r.lost + 1⟩ ∧ code = 5
  else ∃ f : Fl, (f.xs = damage (theF r.fs r.idx) xs ∧ f.t = r.now + r.d) ∧ r' = ⟨r.d, r.fa, r.fc, r.fs, r.down, r.idx + 1, r.now, r.fl ++ List.replicate (if (theF r.fs r.idx).kind = 3 then 2 else 1) f, r.lost⟩ ∧ code = 0

/-- An append of flights to a row of the call's own. -/
theorem wpList_append_rf {w : World} {ops : Array Oper} {rest : List Oper} {o : Oper} {a : Act} {Q : Exit → Act → World → Prop} (hgd : o.guard = none) (s x : Operand)
    (ho : o.op = .call { callee := .builtin .append, args := #[s, x], argTypes := #[33, 33] })
    (base : Nat) (v : Value) (n : Nat) (xs : List Value) (hs : a.eval s = v) (hown : w.ownsRow base 66 2 v n xs)
    (p : Option Addr) (m c : Nat) (news : List Value) (hx : a.eval x = .slice p m c) (hl : news.length = m * 2) (hnil : p = none → c = 0 ∧ m = 0) (hnews : ∀ ad, p = some ad → ∀ j u, news[j]? = some u → w.cell? (ad.add j) = some u) (h1 : ∀ u ∈ news, u.oneCell' = true)
    (h63 : n + m ≤ 100000) (hbase : base ≤ w.heap.size)
    (h : ∀ va' vc' w', Box (w'.ownsRow base 66 2 (.slice va' (n + m) vc') (n + m) (xs ++ news)) → Box (w.grownBy w' v.ownBlock) → wpList Try.prog ops Q rest (a.put o.dst (.slice va' (n + m) vc')) w') : wpList Try.prog ops Q (o :: rest) a w := by
  obtain ⟨i0, hi, hz0, hz1, hz2⟩ := info_parts Try.infoRf
  rcases p with _ | ad
  · obtain ⟨rfl, rfl⟩ := hnil rfl
    obtain rfl : news = [] := List.eq_nil_of_length_eq_zero (by omega)
    refine wpList_append_own_none hgd s x 33 ho base 66 i0 2 Try.underlying33 hi v n xs hs hown hx ?_
    obtain ⟨va, vc, rfl⟩ : ∃ a c, v = .slice a n c := by
      rcases row_form hown with ⟨h, h0, _⟩ | ⟨g', c, h, _⟩
      · exact ⟨none, 0, by rw [h, h0]⟩
      · exact ⟨_, c, h⟩
    exact h va vc w (box (by simpa using hown)) (box ⟨rfl, rfl, rfl, Nat.le_refl _, fun _ _ _ => rfl⟩)
  · refine wpList_append_own_at w hgd s x 33 ho base 66 i0 (.agg #[.int .i64 0, .slice none 0 0]) 2 32 Try.underlying33 hi hz0 hz1 hz2 rfl (by decide) v n xs hs hown ad m c news hx hl (hnews ad rfl) h1 (by unfold maxLen; omega) (by omega) hbase ?_
    intro v' w' ho' hg' _ _
    obtain ⟨va, vc, rfl⟩ : ∃ a c, v' = .slice a (n + m) c := by
      rcases row_form ho' with ⟨h, h0, _⟩ | ⟨g', c, h, _⟩
      · exact ⟨none, 0, by rw [h, h0]⟩
      · exact ⟨_, c, h⟩
    exact h va vc w' (box ho') (box hg')

set_option maxRecDepth 100000 in
set_option maxHeartbeats 8000000 in
theorem rsend_any (E : Nat → Prop) (la : Option Addr) (lc : Nat) (r : Rc) (w : World) (hE : ∀ k, E k → k < w.heap.size) (hr : RfAt E w (.slice la r.fl.length lc) r.fl) (hfs : r.fs.length ≤ 1000) (hf : FtsIn w r.fa r.fs) (harg : ∀ f ∈ r.fs, 0 ≤ f.arg) (a : Option Addr) (n c : Nat) (xs : List Nat) (hn : xs.length = n) (hx : ∀ x ∈ xs, x < 256) (hbig : n ≤ 1000) (hin : In w a xs) (hnil : a = none → c = 0)
    (b1 : r.d ≤ 100) (b2 : r.idx < 1000000) (b3 : r.now < 1000000) (b4 : r.lost < 1000000) (b5 : r.fl.length ≤ 64) :
    Calls Try.prog 18 #[rcV la lc r, .slice a n c] w fun e w' => ∃ la' lc' r' code, e = .returned (.tuple #[rcV la' lc' r', .int .i64 code]) ∧ rsendR r xs r' code ∧ RfAt E w' (.slice la' r'.fl.length lc') r'.fl ∧ Below w.heap.size w w' := by
  obtain ⟨m, hm⟩ : ∃ m, w.heap.size = m := ⟨_, rfl⟩
  have HR := box hr
  have HF := box hf
  have HIN := box hin
  have HX := box hx
  have HE := box hE
  have HNIL := box hnil
  have HM := box hm
  obtain ⟨f, hff⟩ : ∃ f, theF r.fs r.idx = f := ⟨_, rfl⟩
  have HARG := box (show 0 ≤ f.arg by rw [← hff]; exact theF_arg harg _)
  have HRR := box (show ∀ r' code, (if r.down = true ∨ f.kind = 1 then r' = ⟨r.d, r.fa, r.fc, r.fs, r.down, r.idx + 1, r.now, r.fl, r.lost + 1⟩ ∧ code = 0
  else if 64 < r.fl.length + (if f.kind = 3 then 2 else 1) then r' = ⟨r.d, r.fa, r.fc, r.fs, r.down, r.idx + 1, r.now, r.fl, r.lost + 1⟩ ∧ code = 5
  else ∃ h : Fl, (h.xs = damage f xs ∧ h.t = r.now + r.d) ∧ r' = ⟨r.d, r.fa, r.fc, r.fs, r.down, r.idx + 1, r.now, r.fl ++ List.replicate (if f.kind = 3 then 2 else 1) h, r.lost⟩ ∧ code = 0) → rsendR r xs r' code from fun r' code h => by unfold rsendR; rw [hff]; exact h)
  have RFT := box (fun (w' : World) (hb : Below w.heap.size w w') => (rfault_any r.fa r.fs.length r.fc r.fs rfl hfs r.idx w' (hf.below hb)))
  rw [hff] at RFT
  generalize rsendR r xs = RR at HRR ⊢
  clear hr hf hin hx hE hnil hff harg
  -- the two structs
  have M1 := R7.new w (.int .i64 r.d) (.slice r.fa r.fs.length r.fc) (.bool r.down) (.int .i64 r.idx) (.int .i64 r.now) (.slice la r.fl.length lc) (.int .i64 r.lost) 35 m hm.symm
  have k1 : Below w.heap.size w (w.alloc (.cells #[.int .i64 r.d, .slice r.fa r.fs.length r.fc, .bool r.down, .int .i64 r.idx, .int .i64 r.now, .slice la r.fl.length lc, .int .i64 r.lost] 35)) := (Below.refl _ _).alloc (Nat.le_refl _) _
  have s1 := size_alloc' w (.cells #[.int .i64 r.d, .slice r.fa r.fs.length r.fc, .bool r.down, .int .i64 r.idx, .int .i64 r.now, .slice la r.fl.length lc, .int .i64 r.lost] 35)
  have M2 := M1.keep (w' := (w.alloc (.cells #[.int .i64 r.d, .slice r.fa r.fs.length r.fc, .bool r.down, .int .i64 r.idx, .int .i64 r.now, .slice la r.fl.length lc, .int .i64 r.lost] 35)).alloc (.cells #[.int .i64 0, .slice none 0 0, .bool false, .int .i64 0, .int .i64 0, .slice none 0 0, .int .i64 0] 35)) ((Below.refl _ _).alloc (Nat.le_refl _) _)
  have T2 := R7.new (w.alloc (.cells #[.int .i64 r.d, .slice r.fa r.fs.length r.fc, .bool r.down, .int .i64 r.idx, .int .i64 r.now, .slice la r.fl.length lc, .int .i64 r.lost] 35)) (.int .i64 0) (.slice none 0 0) (.bool false) (.int .i64 0) (.int .i64 0) (.slice none 0 0) (.int .i64 0) 35 (m + 1) (by rw [s1, hm])
  have k2 : Below w.heap.size w ((w.alloc (.cells #[.int .i64 r.d, .slice r.fa r.fs.length r.fc, .bool r.down, .int .i64 r.idx, .int .i64 r.now, .slice la r.fl.length lc, .int .i64 r.lost] 35)).alloc (.cells #[.int .i64 0, .slice none 0 0, .bool false, .int .i64 0, .int .i64 0, .slice none 0 0, .int .i64 0] 35)) := k1.alloc k1.size _
  have s2 := size_alloc' (w.alloc (.cells #[.int .i64 r.d, .slice r.fa r.fs.length r.fc, .bool r.down, .int .i64 r.idx, .int .i64 r.now, .slice la r.fl.length lc, .int .i64 r.lost] 35)) (.cells #[.int .i64 0, .slice none 0 0, .bool false, .int .i64 0, .int .i64 0, .slice none 0 0, .int .i64 0] 35)
  rw [s1, hm] at s2
  have MB := box M2
  have TB := box T2
  clear M1 M2 T2 k1 s1
  go_enter Try.func18, Try.ntmps18
  go_upto_region 1 with fail
  generalize (w.alloc (.cells #[.int .i64 r.d, .slice r.fa r.fs.length r.fc, .bool r.down, .int .i64 r.idx, .int .i64 r.now, .slice la r.fl.length lc, .int .i64 r.lost] 35)).alloc (.cells #[.int .i64 0, .slice none 0 0, .bool false, .int .i64 0, .int .i64 0, .slice none 0 0, .int .i64 0] 35) = w1 at MB TB k2 s2 ⊢
  obtain ⟨p0, p1, p2, p3, p4, p5, p6, pz⟩ := MB.out
  have K1 := box k2
  have S1 := box s2
  clear k2 s2 hm
  go_wp2_with fail
  refine (RFT.out w1 K1.out).mono ?_
  rintro e w2 ⟨rfl, hb2⟩
  obtain ⟨q, hq⟩ : ∃ q, w2.heap.size = q := ⟨_, rfl⟩
  have FC := ft_cells w2 f q hq.symm
  have kA := (Below.refl w2.heap.size w2).alloc (Nat.le_refl _) (.cells #[.int .i64 f.at_, .int .i64 f.kind, .int .i64 f.arg] 53)
  have kB := hb2.trans (kA.mono hb2.size)
  have HQ := box (show m + 2 ≤ q by rw [← hq]; have := hb2.size; have := S1.out; omega)
  have MB2 := box (MB.out.keep kB)
  have TB2 := box (TB.out.keep kB)
  have MB3 := box (MB2.out.set3 (.int .i64 ((r.idx : Int) + 1)))
  have TB3 := box (TB2.out.same (w' := (w2.alloc (.cells #[.int .i64 f.at_, .int .i64 f.kind, .int .i64 f.arg] 53)).setCell ⟨m, 3, none⟩ (.int .i64 ((r.idx : Int) + 1))) (heap_else (by omega) _))
  obtain ⟨f0, f1, f2, ff⟩ := FC
  have hmq : m ≠ q := by have := HQ.out; omega
  have fe : ∀ j u, (w2.alloc (.cells #[.int .i64 f.at_, .int .i64 f.kind, .int .i64 f.arg] 53)).cell? ⟨q, j, none⟩ = some u → ((w2.alloc (.cells #[.int .i64 f.at_, .int .i64 f.kind, .int .i64 f.arg] 53)).setCell ⟨m, 3, none⟩ (.int .i64 ((r.idx : Int) + 1))).cell? ⟨q, j, none⟩ = some u := fun j u h => (World.cell?_setCell_far _ ⟨m, 3, none⟩ ⟨q, j, none⟩ _ (fun e => hmq e)).trans h
  have z1 := fe 1 _ f1
  have z2 := fe 2 _ f2
  have K3 := box (show Below w.heap.size w ((w2.alloc (.cells #[.int .i64 f.at_, .int .i64 f.kind, .int .i64 f.arg] 53)).setCell ⟨m, 3, none⟩ (.int .i64 ((r.idx : Int) + 1))) from (K1.out.trans (kB.mono K1.out.size)).setCell (p := ⟨m, 3, none⟩) (by rw [HM.out]; exact Nat.le_refl _) _)
  obtain ⟨p0, p1, p2, p3, p4, p5, p6, pz⟩ := MB2.out
  go_upto_region 3 with fail
  generalize (w2.alloc (.cells #[.int .i64 f.at_, .int .i64 f.kind, .int .i64 f.arg] 53)).setCell ⟨m, 3, none⟩ (.int .i64 ((r.idx : Int) + 1)) = w3 at MB3 TB3 z1 z2 K3 ⊢
  clear p0 p1 p2 p3 p4 p5 p6 pz MB MB2 TB TB2 kA kB hb2 hq f0 f1 f2 ff fe RFT K1 S1
  have hmm : m ≠ m + 1 := by omega
  have HMZ := box (show q < w3.heap.size from World.block_lt_of_cell? w3 ⟨q, 1, none⟩ z1)
  obtain ⟨p0, p1, p2, p3, p4, p5, p6, pz⟩ := MB3.out
  cases hdn : r.down
  · have HDN := box hdn
    rw [hdn] at p2
    have MB3' := MB3
    rw [hdn] at MB3
    by_cases hk1 : f.kind = 1
    · have d1 : (f.kind == 1) = true := by simp [hk1]
      have HK1 := box hk1
      clear hk1
      have MB4 := box (MB3.out.set6 (.int .i64 ((r.lost : Int) + 1)))
      have TB4 := box (TB3.out.same (w' := w3.setCell ⟨m, 6, none⟩ (.int .i64 ((r.lost : Int) + 1))) (heap_else hmm _))
      have K4 := box (K3.out.setCell (p := ⟨m, 6, none⟩) (by rw [HM.out]; exact Nat.le_refl _) (.int .i64 ((r.lost : Int) + 1)))
      go_upto_region 5 with fail
      generalize w3.setCell ⟨m, 6, none⟩ (.int .i64 ((r.lost : Int) + 1)) = w4 at MB4 TB4 K4 ⊢
      clear p0 p1 p2 p3 p4 p5 p6 pz z1 z2
      obtain ⟨p0, p1, p2, p3, p4, p5, p6, pz⟩ := MB4.out
      obtain ⟨t0, t1, t2, t3, t4, t5, t6, tz⟩ := TB4.out
      have PT := box (TB4.out.put (.int .i64 r.d) (.slice r.fa r.fs.length r.fc) (.bool false) (.int .i64 ((r.idx : Int) + 1)) (.int .i64 r.now) (.slice la r.fl.length lc) (.int .i64 ((r.lost : Int) + 1)))
      have KF := box (put7_below K4.out (show w.heap.size ≤ m + 1 by rw [HM.out]; omega) (.int .i64 r.d) (.slice r.fa r.fs.length r.fc) (.bool false) (.int .i64 ((r.idx : Int) + 1)) (.int .i64 r.now) (.slice la r.fl.length lc) (.int .i64 ((r.lost : Int) + 1)))
      have RF9 := box (HR.out.keep KF.out)
      go_wp2_with fail
      change bodyPost _ _ _ _ _ (put7 w4 (m + 1) (.int .i64 r.d) (.slice r.fa r.fs.length r.fc) (.bool false) (.int .i64 ((r.idx : Int) + 1)) (.int .i64 r.now) (.slice la r.fl.length lc) (.int .i64 ((r.lost : Int) + 1)))
      generalize put7 w4 (m + 1) (.int .i64 r.d) (.slice r.fa r.fs.length r.fc) (.bool false) (.int .i64 ((r.idx : Int) + 1)) (.int .i64 r.now) (.slice la r.fl.length lc) (.int .i64 ((r.lost : Int) + 1)) = w9 at PT KF RF9 ⊢
      obtain ⟨o0, o1, o2, o3, o4, o5, o6, oz⟩ := PT.out
      refine bodyPost_ret (v := .tuple #[.agg #[.int .i64 r.d, .slice r.fa r.fs.length r.fc, .bool false, .int .i64 ((r.idx : Int) + 1), .int .i64 r.now, .slice la r.fl.length lc, .int .i64 ((r.lost : Int) + 1)], .int .i64 0]) (by simp [results, Try.results18, go_sem, o0, o1, o2, o3, o4, o5, o6]) rfl ⟨la, lc, ⟨r.d, r.fa, r.fc, r.fs, r.down, r.idx + 1, r.now, r.fl, r.lost + 1⟩, 0, ?_, HRR.out _ _ ?_, RF9.out, KF.out⟩
      · simp [rcV, HDN.out]
      · rw [if_pos (.inr HK1.out)]; exact ⟨by rw [HDN.out], rfl⟩
    have d1 : (f.kind == 1) = false := by simp [hk1]
    have HN := box (show ¬ (r.down = true ∨ f.kind = 1) from fun h => h.elim (fun h => by rw [HDN.out] at h; cases h) hk1)
    clear hk1
    by_cases hk3 : f.kind = 3
    · have d3 : (f.kind == 3) = true := by simp [hk3]
      have HCP := box (show (if f.kind = 3 then 2 else 1) = 2 from if_pos hk3)
      clear hk3
      by_cases hfull : 64 < r.fl.length + 2
      · have d4 : decide ((64 : Int) < (r.fl.length : Int) + 2) = true := decide_eq_true (by omega)
        have MB4 := box (MB3.out.set6 (.int .i64 ((r.lost : Int) + 1)))
        have TB4 := box (TB3.out.same (w' := w3.setCell ⟨m, 6, none⟩ (.int .i64 ((r.lost : Int) + 1))) (heap_else hmm _))
        have K4 := box (K3.out.setCell (p := ⟨m, 6, none⟩) (by rw [HM.out]; exact Nat.le_refl _) (.int .i64 ((r.lost : Int) + 1)))
        go_upto_region 11 with fail
        generalize w3.setCell ⟨m, 6, none⟩ (.int .i64 ((r.lost : Int) + 1)) = w4 at MB4 TB4 K4 ⊢
        clear p0 p1 p2 p3 p4 p5 p6 pz z1 z2
        obtain ⟨p0, p1, p2, p3, p4, p5, p6, pz⟩ := MB4.out
        obtain ⟨t0, t1, t2, t3, t4, t5, t6, tz⟩ := TB4.out
        have PT := box (TB4.out.put (.int .i64 r.d) (.slice r.fa r.fs.length r.fc) (.bool false) (.int .i64 ((r.idx : Int) + 1)) (.int .i64 r.now) (.slice la r.fl.length lc) (.int .i64 ((r.lost : Int) + 1)))
        have KF := box (put7_below K4.out (show w.heap.size ≤ m + 1 by rw [HM.out]; omega) (.int .i64 r.d) (.slice r.fa r.fs.length r.fc) (.bool false) (.int .i64 ((r.idx : Int) + 1)) (.int .i64 r.now) (.slice la r.fl.length lc) (.int .i64 ((r.lost : Int) + 1)))
        have RF9 := box (HR.out.keep KF.out)
        go_wp2_with fail
        change bodyPost _ _ _ _ _ (put7 w4 (m + 1) (.int .i64 r.d) (.slice r.fa r.fs.length r.fc) (.bool false) (.int .i64 ((r.idx : Int) + 1)) (.int .i64 r.now) (.slice la r.fl.length lc) (.int .i64 ((r.lost : Int) + 1)))
        generalize put7 w4 (m + 1) (.int .i64 r.d) (.slice r.fa r.fs.length r.fc) (.bool false) (.int .i64 ((r.idx : Int) + 1)) (.int .i64 r.now) (.slice la r.fl.length lc) (.int .i64 ((r.lost : Int) + 1)) = w9 at PT KF RF9 ⊢
        obtain ⟨o0, o1, o2, o3, o4, o5, o6, oz⟩ := PT.out
        refine bodyPost_ret (v := .tuple #[.agg #[.int .i64 r.d, .slice r.fa r.fs.length r.fc, .bool false, .int .i64 ((r.idx : Int) + 1), .int .i64 r.now, .slice la r.fl.length lc, .int .i64 ((r.lost : Int) + 1)], .int .i64 5]) (by simp [results, Try.results18, go_sem, o0, o1, o2, o3, o4, o5, o6]) rfl ⟨la, lc, ⟨r.d, r.fa, r.fc, r.fs, r.down, r.idx + 1, r.now, r.fl, r.lost + 1⟩, 5, ?_, HRR.out _ _ ?_, RF9.out, KF.out⟩
        · simp [rcV, HDN.out]
        · rw [if_neg HN.out, HCP.out, if_pos hfull]; exact ⟨rfl, rfl⟩
      · have d4 : decide ((64 : Int) < (r.fl.length : Int) + 2) = false := decide_eq_false (by omega)
        have HFULL := box hfull
        have b6 : r.fl.length + 2 ≤ 64 := by omega
        clear hfull
        have kE : Below w3.heap.size w3 (w3.alloc (.cells #[] 5)) := (Below.refl _ _).alloc (Nat.le_refl _) _
        have HIN3 := box ((HIN.out.below K3.out).below kE)
        have HOE := box (World.ownsRow_made (e := 5) (size := 1) (base := w3.heap.size) w3 #[] 0 (Nat.le_refl _) (Nat.zero_le _) rfl)
        have HSE := box (show w3.heap.size ≤ (w3.alloc (.cells #[] 5)).heap.size from kE.size)
        go_upto_region 13 with (at_builtin; refine wpList_append_in (o := ⟨some 48, _, _, _, _, _⟩) rfl (.tmp 46) (.tmp 47) rfl w3.heap.size (.slice (some ⟨w3.heap.size, 0, none⟩) 0 0) 0 [] rfl HOE.out a n c xs rfl hn HIN3.out HNIL.out (by omega) HSE.out ?_; intro v4 w4 ho4 hg4)
        have k34 : Below w3.heap.size w3 w4 := kE.grown hg4 kE.size (fun q hq => by cases hq; exact Nat.le_refl _)
        have HO4 := box (show Own w3.heap.size w4 v4 n xs by simpa [Own] using ho4)
        have K34 := box k34
        have y1 := keepc k34 z1
        have y2 := keepc k34 z2
        clear ho4 hg4 k34 kE HIN3 HOE HSE z1 z2 p0 p1 p2 p3 p4 p5 p6 pz
        by_cases hk2 : f.kind = 2
        · have d5 : (f.kind == 2) = true := by simp [hk2]
          obtain ⟨KK, hKK⟩ := Int.eq_ofNat_of_zero_le HARG.out
          rw [hKK] at y2
          have FP := box (flipped_any a n c xs hn HX.out hbig HNIL.out KK w4 (HIN.out.below (K3.out.trans (K34.out.mono K3.out.size))))
          obtain ⟨ys, hys⟩ : ∃ ys, flipA xs KK = ys := ⟨_, rfl⟩
          have HYD := box (show ys = damage f xs by unfold damage; rw [if_pos hk2, hKK, ← hys]; rfl)
          have HYL := box (show ys.length = n by rw [← hys, flipA_length, hn])
          rw [hys] at FP
          clear hk2 hys hKK
          go_wp2_with fail
          refine FP.out.mono ?_
          rintro e w5 ⟨v5, rfl, ho5, hb5⟩
          have HO5 := box (row_low ho5 (show w3.heap.size ≤ w4.heap.size from K34.out.size))
          have K35 := box (K34.out.trans (hb5.mono K34.out.size))
          clear ho5 hb5 FP y1 y2
          have y1 : True := trivial
          have y2 : True := trivial
          obtain ⟨oa, oc, hoa, hoi, hon, _, hob⟩ := own_any HO5.out
          subst hoa
          have HOI := box hoi
          have HON := box hon
          have HOB := box hob
          clear hoi hon hob
          have MB5 := box (MB3.out.keep K35.out)
          have TB5 := box (TB3.out.keep K35.out)
          have HR5 := box (HR.out.keep (K3.out.trans (K35.out.mono K3.out.size)))
          have kF : Below w5.heap.size w5 (w5.alloc (.cells #[] 66)) := (Below.refl _ _).alloc (Nat.le_refl _) _
          have HOF := box (World.ownsRow_made (e := 66) (size := 2) (base := w5.heap.size) w5 #[] 0 (Nat.le_refl _) (Nat.zero_le _) rfl)
          have HSF := box (show w5.heap.size ≤ (w5.alloc (.cells #[] 66)).heap.size from kF.size)
          have HNF := box (show (∀ ad, la = some ad → ∀ j u, (rfCells r.fl)[j]? = some u → (w5.alloc (.cells #[] 66)).cell? (ad.add j) = some u) ∧ (la = none → lc = 0 ∧ r.fl.length = 0) from by
            rcases row_form HR5.out.row with ⟨h1, h2, h3⟩ | ⟨b, cap, h1, _, _, _, _, h2⟩
            · have e1 : la = none := by injection h1
              have e2 : lc = 0 := by injection h1
              exact ⟨(fun ad h => by rw [e1] at h; cases h), (fun _ => ⟨e2, h2⟩)⟩
            · have e1 : la = some ⟨b, 0, none⟩ := by injection h1
              exact ⟨(fun ad h j u hu => by rw [e1] at h; cases h; rw [add_off]; exact keepa _ (h2 j u hu)), (fun h => by rw [e1] at h; cases h)⟩)
          have HNLF := box (rfCells_length r.fl)
          have HNOF := box (rfCells_one r.fl)
          obtain ⟨p0, p1, p2, p3, p4, p5, p6, pz⟩ := (MB5.out.keep kF)
          obtain ⟨LL, hLL⟩ : ∃ LL, r.fl.length = LL := ⟨_, rfl⟩
          have HLL := box hLL
          rw [hLL] at p5 b6 HNF HNLF
          go_upto_region 16 with (at_builtin; refine wpList_append_rf (o := ⟨some 59, _, _, _, _, _⟩) rfl (.tmp 56) (.tmp 58) rfl w5.heap.size (.slice (some ⟨w5.heap.size, 0, none⟩) 0 0) 0 [] rfl HOF.out la LL lc (rfCells r.fl) rfl HNLF.out HNF.out.2 HNF.out.1 HNOF.out (by omega) HSF.out ?_; intro va6 vc6 w6 ho6 hg6)
          have K56 := box (show Below w5.heap.size w5 w6 from kF.grown hg6.out kF.size (fun q hq => by cases hq; exact Nat.le_refl _))
          have HO6 := box (show w6.ownsRow w5.heap.size 66 2 (.slice va6 (0 + LL) vc6) (LL + 0) (rfCells r.fl ++ rfCells (List.replicate 0 (Fl.mk oa oc ys (r.now + r.d)))) by have h := ho6.out; rw [Nat.zero_add] at h ⊢; simpa [rfCells] using h)
          clear ho6 hg6 kF HOF HSF HNF HNLF HNOF p0 p1 p2 p3 p4 p5 p6 pz y1 y2 hLL
          go_wp2_with fail
          go_loopw [9, 10] (fun t9 t10 wr => ∃ (j : Nat) (va : Option Addr) (vc : Nat), j ≤ 2 ∧ t10 = .int .i64 j ∧ t9 = .slice va (LL + j) vc ∧ Box (wr.ownsRow w5.heap.size 66 2 (.slice va (LL + j) vc) (LL + j) (rfCells r.fl ++ rfCells (List.replicate j (Fl.mk oa oc ys (r.now + r.d))))) ∧ Box (Below w5.heap.size w5 wr)) (fun _ t10 _ => 2 - (intOf t10).toNat)
          case atStart => exact ⟨0, va6, vc6, by omega, rfl, (by simp), box (by have h := HO6.out; rw [Nat.zero_add] at h; exact h), K56⟩
          case round =>
            obtain ⟨j, va, vc, hj, rfl, rfl, HO, KR⟩ := hrel
            obtain ⟨p0, p1, p2, p3, p4, p5, p6, pz⟩ := MB5.out.keep KR.out
            by_cases hlt : j < 2
            · have kG : Below wr.heap.size wr (wr.alloc (.cells #[.int .i64 ((r.now : Int) + (r.d : Int)), .slice oa n oc] 66)) := (Below.refl _ _).alloc (Nat.le_refl _) _
              have HOG := box (row_below HO.out kG)
              have HSG := box (show w5.heap.size ≤ (wr.alloc (.cells #[.int .i64 ((r.now : Int) + (r.d : Int)), .slice oa n oc] 66)).heap.size from Nat.le_trans KR.out.size kG.size)
              have HNG := box (show ∀ ad, (some ⟨wr.heap.size, 0, none⟩ : Option Addr) = some ad → ∀ i u, ([.int .i64 ((r.now : Int) + (r.d : Int)), .slice oa n oc] : List Value)[i]? = some u → (wr.alloc (.cells #[.int .i64 ((r.now : Int) + (r.d : Int)), .slice oa n oc] 66)).cell? (ad.add i) = some u from fun ad h i u hu => by
                cases h
                rw [add_off]
                refine (World.cell?_alloc_mark wr #[.int .i64 ((r.now : Int) + (r.d : Int)), .slice oa n oc] 66 (0, 0) i).trans ?_
                rw [← hu]
                rcases i with _ | _ | i <;> rfl)
              have HNGO := box (show ∀ u ∈ ([.int .i64 ((r.now : Int) + (r.d : Int)), .slice oa n oc] : List Value), u.oneCell' = true from fun u hu => by simp at hu; rcases hu with rfl | rfl <;> rfl)
              have KG := box kG
              clear kG
              go_wp2_with (at_builtin; refine wpList_append_rf (o := ⟨some 74, _, _, _, _, _⟩) rfl (.tmp 65) (.tmp 73) rfl w5.heap.size (.slice va (LL + j) vc) (LL + j) (rfCells r.fl ++ rfCells (List.replicate j (Fl.mk oa oc ys (r.now + r.d)))) rfl HOG.out (some ⟨wr.heap.size, 0, none⟩) 1 1 [.int .i64 ((r.now : Int) + (r.d : Int)), .slice oa n oc] rfl rfl (fun h => by cases h) HNG.out HNGO.out (by omega) HSG.out ?_; intro va7 vc7 w7 ho7 hg7)
              clear p0 p1 p2 p3 p4 p5 p6 pz
              go_wp2_with fail
              go_roundw
              case rel =>
                refine ⟨j + 1, va7, vc7, by omega, by go_num, rfl, box ?_, box (own_below HOG.out (Nat.le_refl _) (KR.out.trans (KG.out.mono KR.out.size)) HSG.out hg7.out)⟩
                have h := ho7.out
                have e : rfCells r.fl ++ rfCells (List.replicate (j + 1) (Fl.mk oa oc ys (r.now + r.d))) = rfCells r.fl ++ rfCells (List.replicate j (Fl.mk oa oc ys (r.now + r.d))) ++ [.int .i64 ((r.now : Int) + (r.d : Int)), .slice oa n oc] := by
                  rw [List.replicate_succ', rfCells_append, List.append_assoc]
                  simp [rfCells, HYL.out]
                rw [e]
                exact h
              case measure => simp [intOf]; omega
            · have hjc : j = 2 := by omega
              subst hjc
              have MBR := box (MB5.out.keep KR.out)
              have TBR := box (TB5.out.keep KR.out)
              have MB8 := box (MBR.out.set5 (.slice va (LL + 2) vc))
              have TB8 := box (TBR.out.same (w' := wr.setCell ⟨m, 5, none⟩ (.slice va (LL + 2) vc)) (heap_else hmm _))
              have KW := box (K3.out.trans (K35.out.mono K3.out.size))
              have KRW := box (KW.out.trans (KR.out.mono KW.out.size))
              have K8 := box (KRW.out.setCell (p := ⟨m, 5, none⟩) (by rw [HM.out]; exact Nat.le_refl _) (.slice va (LL + 2) vc))
              have hm3 : m + 2 ≤ w3.heap.size := by have := HQ.out; have := HMZ.out; omega
              have RF8 := box (show RfAt (fun k => E k ∨ k = m ∨ k = m + 1) wr (.slice va (r.fl ++ List.replicate 2 (Fl.mk oa oc ys (r.now + r.d))).length vc) (r.fl ++ List.replicate 2 (Fl.mk oa oc ys (r.now + r.d))) from by
                have hl : (r.fl ++ List.replicate 2 (Fl.mk oa oc ys (r.now + r.d))).length = LL + 2 := by rw [List.length_append, List.length_replicate, HLL.out]
                refine ⟨?_, fun k hk he => ?_, fun h hh => ?_⟩
                · rw [hl, rfCells_append]; exact row_low HO.out (Nat.zero_le _)
                · rw [hl] at hk
                  have h1 := (row_blk HO.out k hk).1
                  have h2 := K35.out.size
                  have h3 := K3.out.size
                  rcases he with he | he
                  · have := HE.out k he; omega
                  · omega
                · rcases List.mem_append.1 hh with hh | hh
                  · exact ((HR.out.excl (E' := fun k => E k ∨ k = m ∨ k = m + 1) (fun k hk h => h.elim id (fun h => by have := HM.out; omega))).keep KRW.out).syms h hh
                  · obtain rfl := (List.mem_replicate.1 hh).2
                    refine ⟨HOI.out.below KR.out, fun hne q hq he => ?_, HON.out⟩
                    have h1 := (HOB.out q hq).1
                    have h3 := K3.out.size
                    rcases he with he | he
                    · have := HE.out _ he; omega
                    · omega)
              clear hlt hj
              go_upto_region 21 with fail
              clear p0 p1 p2 p3 p4 p5 p6 pz
              have RF88 := box (RF8.out.same (w' := wr.setCell ⟨m, 5, none⟩ (.slice va (LL + 2) vc)) (fun k _ he => heap_else (fun e => he (.inr (.inl e.symm))) _))
              generalize wr.setCell ⟨m, 5, none⟩ (.slice va (LL + 2) vc) = w8 at MB8 TB8 K8 RF88 ⊢
              obtain ⟨p0, p1, p2, p3, p4, p5, p6, pz⟩ := MB8.out
              obtain ⟨t0, t1, t2, t3, t4, t5, t6, tz⟩ := TB8.out
              have PT := box (TB8.out.put (.int .i64 r.d) (.slice r.fa r.fs.length r.fc) (.bool false) (.int .i64 ((r.idx : Int) + 1)) (.int .i64 r.now) (.slice va (LL + 2) vc) (.int .i64 r.lost))
              have KF := box (put7_below K8.out (show w.heap.size ≤ m + 1 by rw [HM.out]; omega) (.int .i64 r.d) (.slice r.fa r.fs.length r.fc) (.bool false) (.int .i64 ((r.idx : Int) + 1)) (.int .i64 r.now) (.slice va (LL + 2) vc) (.int .i64 r.lost))
              have RF9 := box ((RF88.out.same (w' := put7 w8 (m + 1) (.int .i64 r.d) (.slice r.fa r.fs.length r.fc) (.bool false) (.int .i64 ((r.idx : Int) + 1)) (.int .i64 r.now) (.slice va (LL + 2) vc) (.int .i64 r.lost)) (fun k _ he => put7_heap _ _ _ _ _ _ _ _ _ k (fun e => he (.inr (.inr e))))).excl (E' := E) (fun k _ h => .inl h))
              go_wp2_with fail
              change bodyPost _ _ _ _ _ (put7 w8 (m + 1) (.int .i64 r.d) (.slice r.fa r.fs.length r.fc) (.bool false) (.int .i64 ((r.idx : Int) + 1)) (.int .i64 r.now) (.slice va (LL + 2) vc) (.int .i64 r.lost))
              generalize put7 w8 (m + 1) (.int .i64 r.d) (.slice r.fa r.fs.length r.fc) (.bool false) (.int .i64 ((r.idx : Int) + 1)) (.int .i64 r.now) (.slice va (LL + 2) vc) (.int .i64 r.lost) = w9 at PT KF RF9 ⊢
              obtain ⟨o0, o1, o2, o3, o4, o5, o6, oz⟩ := PT.out
              refine bodyPost_ret (v := .tuple #[.agg #[.int .i64 r.d, .slice r.fa r.fs.length r.fc, .bool false, .int .i64 ((r.idx : Int) + 1), .int .i64 r.now, .slice va (LL + 2) vc, .int .i64 r.lost], .int .i64 0]) (by simp [results, Try.results18, go_sem, o0, o1, o2, o3, o4, o5, o6]) rfl ⟨va, vc, ⟨r.d, r.fa, r.fc, r.fs, r.down, r.idx + 1, r.now, r.fl ++ List.replicate 2 (Fl.mk oa oc ys (r.now + r.d)), r.lost⟩, 0, ?_, HRR.out _ _ ?_, RF9.out, KF.out⟩
              · simp [rcV, HLL.out, HDN.out]
              · rw [if_neg HN.out, HCP.out, if_neg HFULL.out]; exact ⟨(Fl.mk oa oc ys (r.now + r.d)), ⟨HYD.out, rfl⟩, rfl, rfl⟩
        · have d5 : (f.kind == 2) = false := by simp [hk2]
          obtain ⟨ys, hys⟩ : ∃ ys, xs = ys := ⟨_, rfl⟩
          have HYD := box (show ys = damage f xs by unfold damage; rw [if_neg hk2, hys])
          have HYL := box (show ys.length = n by rw [← hys, hn])
          have HO5 := box (show Own w3.heap.size w4 v4 n ys by rw [← hys]; exact HO4.out)
          have K35 := K34
          clear hk2 hys
          obtain ⟨oa, oc, hoa, hoi, hon, _, hob⟩ := own_any HO5.out
          subst hoa
          have HOI := box hoi
          have HON := box hon
          have HOB := box hob
          clear hoi hon hob
          have MB5 := box (MB3.out.keep K35.out)
          have TB5 := box (TB3.out.keep K35.out)
          have HR5 := box (HR.out.keep (K3.out.trans (K35.out.mono K3.out.size)))
          have kF : Below w4.heap.size w4 (w4.alloc (.cells #[] 66)) := (Below.refl _ _).alloc (Nat.le_refl _) _
          have HOF := box (World.ownsRow_made (e := 66) (size := 2) (base := w4.heap.size) w4 #[] 0 (Nat.le_refl _) (Nat.zero_le _) rfl)
          have HSF := box (show w4.heap.size ≤ (w4.alloc (.cells #[] 66)).heap.size from kF.size)
          have HNF := box (show (∀ ad, la = some ad → ∀ j u, (rfCells r.fl)[j]? = some u → (w4.alloc (.cells #[] 66)).cell? (ad.add j) = some u) ∧ (la = none → lc = 0 ∧ r.fl.length = 0) from by
            rcases row_form HR5.out.row with ⟨h1, h2, h3⟩ | ⟨b, cap, h1, _, _, _, _, h2⟩
            · have e1 : la = none := by injection h1
              have e2 : lc = 0 := by injection h1
              exact ⟨(fun ad h => by rw [e1] at h; cases h), (fun _ => ⟨e2, h2⟩)⟩
            · have e1 : la = some ⟨b, 0, none⟩ := by injection h1
              exact ⟨(fun ad h j u hu => by rw [e1] at h; cases h; rw [add_off]; exact keepa _ (h2 j u hu)), (fun h => by rw [e1] at h; cases h)⟩)
          have HNLF := box (rfCells_length r.fl)
          have HNOF := box (rfCells_one r.fl)
          obtain ⟨p0, p1, p2, p3, p4, p5, p6, pz⟩ := (MB5.out.keep kF)
          obtain ⟨LL, hLL⟩ : ∃ LL, r.fl.length = LL := ⟨_, rfl⟩
          have HLL := box hLL
          rw [hLL] at p5 b6 HNF HNLF
          go_upto_region 16 with (at_builtin; refine wpList_append_rf (o := ⟨some 59, _, _, _, _, _⟩) rfl (.tmp 56) (.tmp 58) rfl w4.heap.size (.slice (some ⟨w4.heap.size, 0, none⟩) 0 0) 0 [] rfl HOF.out la LL lc (rfCells r.fl) rfl HNLF.out HNF.out.2 HNF.out.1 HNOF.out (by omega) HSF.out ?_; intro va6 vc6 w6 ho6 hg6)
          have K56 := box (show Below w4.heap.size w4 w6 from kF.grown hg6.out kF.size (fun q hq => by cases hq; exact Nat.le_refl _))
          have HO6 := box (show w6.ownsRow w4.heap.size 66 2 (.slice va6 (0 + LL) vc6) (LL + 0) (rfCells r.fl ++ rfCells (List.replicate 0 (Fl.mk oa oc ys (r.now + r.d)))) by have h := ho6.out; rw [Nat.zero_add] at h ⊢; simpa [rfCells] using h)
          clear ho6 hg6 kF HOF HSF HNF HNLF HNOF p0 p1 p2 p3 p4 p5 p6 pz y1 y2 hLL
          go_wp2_with fail
          go_loopw [9, 10] (fun t9 t10 wr => ∃ (j : Nat) (va : Option Addr) (vc : Nat), j ≤ 2 ∧ t10 = .int .i64 j ∧ t9 = .slice va (LL + j) vc ∧ Box (wr.ownsRow w4.heap.size 66 2 (.slice va (LL + j) vc) (LL + j) (rfCells r.fl ++ rfCells (List.replicate j (Fl.mk oa oc ys (r.now + r.d))))) ∧ Box (Below w4.heap.size w4 wr)) (fun _ t10 _ => 2 - (intOf t10).toNat)
          case atStart => exact ⟨0, va6, vc6, by omega, rfl, (by simp), box (by have h := HO6.out; rw [Nat.zero_add] at h; exact h), K56⟩
          case round =>
            obtain ⟨j, va, vc, hj, rfl, rfl, HO, KR⟩ := hrel
            obtain ⟨p0, p1, p2, p3, p4, p5, p6, pz⟩ := MB5.out.keep KR.out
            by_cases hlt : j < 2
            · have kG : Below wr.heap.size wr (wr.alloc (.cells #[.int .i64 ((r.now : Int) + (r.d : Int)), .slice oa n oc] 66)) := (Below.refl _ _).alloc (Nat.le_refl _) _
              have HOG := box (row_below HO.out kG)
              have HSG := box (show w4.heap.size ≤ (wr.alloc (.cells #[.int .i64 ((r.now : Int) + (r.d : Int)), .slice oa n oc] 66)).heap.size from Nat.le_trans KR.out.size kG.size)
              have HNG := box (show ∀ ad, (some ⟨wr.heap.size, 0, none⟩ : Option Addr) = some ad → ∀ i u, ([.int .i64 ((r.now : Int) + (r.d : Int)), .slice oa n oc] : List Value)[i]? = some u → (wr.alloc (.cells #[.int .i64 ((r.now : Int) + (r.d : Int)), .slice oa n oc] 66)).cell? (ad.add i) = some u from fun ad h i u hu => by
                cases h
                rw [add_off]
                refine (World.cell?_alloc_mark wr #[.int .i64 ((r.now : Int) + (r.d : Int)), .slice oa n oc] 66 (0, 0) i).trans ?_
                rw [← hu]
                rcases i with _ | _ | i <;> rfl)
              have HNGO := box (show ∀ u ∈ ([.int .i64 ((r.now : Int) + (r.d : Int)), .slice oa n oc] : List Value), u.oneCell' = true from fun u hu => by simp at hu; rcases hu with rfl | rfl <;> rfl)
              have KG := box kG
              clear kG
              go_wp2_with (at_builtin; refine wpList_append_rf (o := ⟨some 74, _, _, _, _, _⟩) rfl (.tmp 65) (.tmp 73) rfl w4.heap.size (.slice va (LL + j) vc) (LL + j) (rfCells r.fl ++ rfCells (List.replicate j (Fl.mk oa oc ys (r.now + r.d)))) rfl HOG.out (some ⟨wr.heap.size, 0, none⟩) 1 1 [.int .i64 ((r.now : Int) + (r.d : Int)), .slice oa n oc] rfl rfl (fun h => by cases h) HNG.out HNGO.out (by omega) HSG.out ?_; intro va7 vc7 w7 ho7 hg7)
              clear p0 p1 p2 p3 p4 p5 p6 pz
              go_wp2_with fail
              go_roundw
              case rel =>
                refine ⟨j + 1, va7, vc7, by omega, by go_num, rfl, box ?_, box (own_below HOG.out (Nat.le_refl _) (KR.out.trans (KG.out.mono KR.out.size)) HSG.out hg7.out)⟩
                have h := ho7.out
                have e : rfCells r.fl ++ rfCells (List.replicate (j + 1) (Fl.mk oa oc ys (r.now + r.d))) = rfCells r.fl ++ rfCells (List.replicate j (Fl.mk oa oc ys (r.now + r.d))) ++ [.int .i64 ((r.now : Int) + (r.d : Int)), .slice oa n oc] := by
                  rw [List.replicate_succ', rfCells_append, List.append_assoc]
                  simp [rfCells, HYL.out]
                rw [e]
                exact h
              case measure => simp [intOf]; omega
            · have hjc : j = 2 := by omega
              subst hjc
              have MBR := box (MB5.out.keep KR.out)
              have TBR := box (TB5.out.keep KR.out)
              have MB8 := box (MBR.out.set5 (.slice va (LL + 2) vc))
              have TB8 := box (TBR.out.same (w' := wr.setCell ⟨m, 5, none⟩ (.slice va (LL + 2) vc)) (heap_else hmm _))
              have KW := box (K3.out.trans (K35.out.mono K3.out.size))
              have KRW := box (KW.out.trans (KR.out.mono KW.out.size))
              have K8 := box (KRW.out.setCell (p := ⟨m, 5, none⟩) (by rw [HM.out]; exact Nat.le_refl _) (.slice va (LL + 2) vc))
              have hm3 : m + 2 ≤ w3.heap.size := by have := HQ.out; have := HMZ.out; omega
              have RF8 := box (show RfAt (fun k => E k ∨ k = m ∨ k = m + 1) wr (.slice va (r.fl ++ List.replicate 2 (Fl.mk oa oc ys (r.now + r.d))).length vc) (r.fl ++ List.replicate 2 (Fl.mk oa oc ys (r.now + r.d))) from by
                have hl : (r.fl ++ List.replicate 2 (Fl.mk oa oc ys (r.now + r.d))).length = LL + 2 := by rw [List.length_append, List.length_replicate, HLL.out]
                refine ⟨?_, fun k hk he => ?_, fun h hh => ?_⟩
                · rw [hl, rfCells_append]; exact row_low HO.out (Nat.zero_le _)
                · rw [hl] at hk
                  have h1 := (row_blk HO.out k hk).1
                  have h2 := K35.out.size
                  have h3 := K3.out.size
                  rcases he with he | he
                  · have := HE.out k he; omega
                  · omega
                · rcases List.mem_append.1 hh with hh | hh
                  · exact ((HR.out.excl (E' := fun k => E k ∨ k = m ∨ k = m + 1) (fun k hk h => h.elim id (fun h => by have := HM.out; omega))).keep KRW.out).syms h hh
                  · obtain rfl := (List.mem_replicate.1 hh).2
                    refine ⟨HOI.out.below KR.out, fun hne q hq he => ?_, HON.out⟩
                    have h1 := (HOB.out q hq).1
                    have h3 := K3.out.size
                    rcases he with he | he
                    · have := HE.out _ he; omega
                    · omega)
              clear hlt hj
              go_upto_region 21 with fail
              clear p0 p1 p2 p3 p4 p5 p6 pz
              have RF88 := box (RF8.out.same (w' := wr.setCell ⟨m, 5, none⟩ (.slice va (LL + 2) vc)) (fun k _ he => heap_else (fun e => he (.inr (.inl e.symm))) _))
              generalize wr.setCell ⟨m, 5, none⟩ (.slice va (LL + 2) vc) = w8 at MB8 TB8 K8 RF88 ⊢
              obtain ⟨p0, p1, p2, p3, p4, p5, p6, pz⟩ := MB8.out
              obtain ⟨t0, t1, t2, t3, t4, t5, t6, tz⟩ := TB8.out
              have PT := box (TB8.out.put (.int .i64 r.d) (.slice r.fa r.fs.length r.fc) (.bool false) (.int .i64 ((r.idx : Int) + 1)) (.int .i64 r.now) (.slice va (LL + 2) vc) (.int .i64 r.lost))
              have KF := box (put7_below K8.out (show w.heap.size ≤ m + 1 by rw [HM.out]; omega) (.int .i64 r.d) (.slice r.fa r.fs.length r.fc) (.bool false) (.int .i64 ((r.idx : Int) + 1)) (.int .i64 r.now) (.slice va (LL + 2) vc) (.int .i64 r.lost))
              have RF9 := box ((RF88.out.same (w' := put7 w8 (m + 1) (.int .i64 r.d) (.slice r.fa r.fs.length r.fc) (.bool false) (.int .i64 ((r.idx : Int) + 1)) (.int .i64 r.now) (.slice va (LL + 2) vc) (.int .i64 r.lost)) (fun k _ he => put7_heap _ _ _ _ _ _ _ _ _ k (fun e => he (.inr (.inr e))))).excl (E' := E) (fun k _ h => .inl h))
              go_wp2_with fail
              change bodyPost _ _ _ _ _ (put7 w8 (m + 1) (.int .i64 r.d) (.slice r.fa r.fs.length r.fc) (.bool false) (.int .i64 ((r.idx : Int) + 1)) (.int .i64 r.now) (.slice va (LL + 2) vc) (.int .i64 r.lost))
              generalize put7 w8 (m + 1) (.int .i64 r.d) (.slice r.fa r.fs.length r.fc) (.bool false) (.int .i64 ((r.idx : Int) + 1)) (.int .i64 r.now) (.slice va (LL + 2) vc) (.int .i64 r.lost) = w9 at PT KF RF9 ⊢
              obtain ⟨o0, o1, o2, o3, o4, o5, o6, oz⟩ := PT.out
              refine bodyPost_ret (v := .tuple #[.agg #[.int .i64 r.d, .slice r.fa r.fs.length r.fc, .bool false, .int .i64 ((r.idx : Int) + 1), .int .i64 r.now, .slice va (LL + 2) vc, .int .i64 r.lost], .int .i64 0]) (by simp [results, Try.results18, go_sem, o0, o1, o2, o3, o4, o5, o6]) rfl ⟨va, vc, ⟨r.d, r.fa, r.fc, r.fs, r.down, r.idx + 1, r.now, r.fl ++ List.replicate 2 (Fl.mk oa oc ys (r.now + r.d)), r.lost⟩, 0, ?_, HRR.out _ _ ?_, RF9.out, KF.out⟩
              · simp [rcV, HLL.out, HDN.out]
              · rw [if_neg HN.out, HCP.out, if_neg HFULL.out]; exact ⟨(Fl.mk oa oc ys (r.now + r.d)), ⟨HYD.out, rfl⟩, rfl, rfl⟩
    · have d3 : (f.kind == 3) = false := by simp [hk3]
      have HCP := box (show (if f.kind = 3 then 2 else 1) = 1 from if_neg hk3)
      clear hk3
      by_cases hfull : 64 < r.fl.length + 1
      · have d4 : decide ((64 : Int) < (r.fl.length : Int) + 1) = true := decide_eq_true (by omega)
        have MB4 := box (MB3.out.set6 (.int .i64 ((r.lost : Int) + 1)))
        have TB4 := box (TB3.out.same (w' := w3.setCell ⟨m, 6, none⟩ (.int .i64 ((r.lost : Int) + 1))) (heap_else hmm _))
        have K4 := box (K3.out.setCell (p := ⟨m, 6, none⟩) (by rw [HM.out]; exact Nat.le_refl _) (.int .i64 ((r.lost : Int) + 1)))
        go_upto_region 11 with fail
        generalize w3.setCell ⟨m, 6, none⟩ (.int .i64 ((r.lost : Int) + 1)) = w4 at MB4 TB4 K4 ⊢
        clear p0 p1 p2 p3 p4 p5 p6 pz z1 z2
        obtain ⟨p0, p1, p2, p3, p4, p5, p6, pz⟩ := MB4.out
        obtain ⟨t0, t1, t2, t3, t4, t5, t6, tz⟩ := TB4.out
        have PT := box (TB4.out.put (.int .i64 r.d) (.slice r.fa r.fs.length r.fc) (.bool false) (.int .i64 ((r.idx : Int) + 1)) (.int .i64 r.now) (.slice la r.fl.length lc) (.int .i64 ((r.lost : Int) + 1)))
        have KF := box (put7_below K4.out (show w.heap.size ≤ m + 1 by rw [HM.out]; omega) (.int .i64 r.d) (.slice r.fa r.fs.length r.fc) (.bool false) (.int .i64 ((r.idx : Int) + 1)) (.int .i64 r.now) (.slice la r.fl.length lc) (.int .i64 ((r.lost : Int) + 1)))
        have RF9 := box (HR.out.keep KF.out)
        go_wp2_with fail
        change bodyPost _ _ _ _ _ (put7 w4 (m + 1) (.int .i64 r.d) (.slice r.fa r.fs.length r.fc) (.bool false) (.int .i64 ((r.idx : Int) + 1)) (.int .i64 r.now) (.slice la r.fl.length lc) (.int .i64 ((r.lost : Int) + 1)))
        generalize put7 w4 (m + 1) (.int .i64 r.d) (.slice r.fa r.fs.length r.fc) (.bool false) (.int .i64 ((r.idx : Int) + 1)) (.int .i64 r.now) (.slice la r.fl.length lc) (.int .i64 ((r.lost : Int) + 1)) = w9 at PT KF RF9 ⊢
        obtain ⟨o0, o1, o2, o3, o4, o5, o6, oz⟩ := PT.out
        refine bodyPost_ret (v := .tuple #[.agg #[.int .i64 r.d, .slice r.fa r.fs.length r.fc, .bool false, .int .i64 ((r.idx : Int) + 1), .int .i64 r.now, .slice la r.fl.length lc, .int .i64 ((r.lost : Int) + 1)], .int .i64 5]) (by simp [results, Try.results18, go_sem, o0, o1, o2, o3, o4, o5, o6]) rfl ⟨la, lc, ⟨r.d, r.fa, r.fc, r.fs, r.down, r.idx + 1, r.now, r.fl, r.lost + 1⟩, 5, ?_, HRR.out _ _ ?_, RF9.out, KF.out⟩
        · simp [rcV, HDN.out]
        · rw [if_neg HN.out, HCP.out, if_pos hfull]; exact ⟨rfl, rfl⟩
      · have d4 : decide ((64 : Int) < (r.fl.length : Int) + 1) = false := decide_eq_false (by omega)
        have HFULL := box hfull
        have b6 : r.fl.length + 1 ≤ 64 := by omega
        clear hfull
        have kE : Below w3.heap.size w3 (w3.alloc (.cells #[] 5)) := (Below.refl _ _).alloc (Nat.le_refl _) _
        have HIN3 := box ((HIN.out.below K3.out).below kE)
        have HOE := box (World.ownsRow_made (e := 5) (size := 1) (base := w3.heap.size) w3 #[] 0 (Nat.le_refl _) (Nat.zero_le _) rfl)
        have HSE := box (show w3.heap.size ≤ (w3.alloc (.cells #[] 5)).heap.size from kE.size)
        go_upto_region 13 with (at_builtin; refine wpList_append_in (o := ⟨some 48, _, _, _, _, _⟩) rfl (.tmp 46) (.tmp 47) rfl w3.heap.size (.slice (some ⟨w3.heap.size, 0, none⟩) 0 0) 0 [] rfl HOE.out a n c xs rfl hn HIN3.out HNIL.out (by omega) HSE.out ?_; intro v4 w4 ho4 hg4)
        have k34 : Below w3.heap.size w3 w4 := kE.grown hg4 kE.size (fun q hq => by cases hq; exact Nat.le_refl _)
        have HO4 := box (show Own w3.heap.size w4 v4 n xs by simpa [Own] using ho4)
        have K34 := box k34
        have y1 := keepc k34 z1
        have y2 := keepc k34 z2
        clear ho4 hg4 k34 kE HIN3 HOE HSE z1 z2 p0 p1 p2 p3 p4 p5 p6 pz
        by_cases hk2 : f.kind = 2
        · have d5 : (f.kind == 2) = true := by simp [hk2]
          obtain ⟨KK, hKK⟩ := Int.eq_ofNat_of_zero_le HARG.out
          rw [hKK] at y2
          have FP := box (flipped_any a n c xs hn HX.out hbig HNIL.out KK w4 (HIN.out.below (K3.out.trans (K34.out.mono K3.out.size))))
          obtain ⟨ys, hys⟩ : ∃ ys, flipA xs KK = ys := ⟨_, rfl⟩
          have HYD := box (show ys = damage f xs by unfold damage; rw [if_pos hk2, hKK, ← hys]; rfl)
          have HYL := box (show ys.length = n by rw [← hys, flipA_length, hn])
          rw [hys] at FP
          clear hk2 hys hKK
          go_wp2_with fail
          refine FP.out.mono ?_
          rintro e w5 ⟨v5, rfl, ho5, hb5⟩
          have HO5 := box (row_low ho5 (show w3.heap.size ≤ w4.heap.size from K34.out.size))
          have K35 := box (K34.out.trans (hb5.mono K34.out.size))
          clear ho5 hb5 FP y1 y2
          have y1 : True := trivial
          have y2 : True := trivial
          obtain ⟨oa, oc, hoa, hoi, hon, _, hob⟩ := own_any HO5.out
          subst hoa
          have HOI := box hoi
          have HON := box hon
          have HOB := box hob
          clear hoi hon hob
          have MB5 := box (MB3.out.keep K35.out)
          have TB5 := box (TB3.out.keep K35.out)
          have HR5 := box (HR.out.keep (K3.out.trans (K35.out.mono K3.out.size)))
          have kF : Below w5.heap.size w5 (w5.alloc (.cells #[] 66)) := (Below.refl _ _).alloc (Nat.le_refl _) _
          have HOF := box (World.ownsRow_made (e := 66) (size := 2) (base := w5.heap.size) w5 #[] 0 (Nat.le_refl _) (Nat.zero_le _) rfl)
          have HSF := box (show w5.heap.size ≤ (w5.alloc (.cells #[] 66)).heap.size from kF.size)
          have HNF := box (show (∀ ad, la = some ad → ∀ j u, (rfCells r.fl)[j]? = some u → (w5.alloc (.cells #[] 66)).cell? (ad.add j) = some u) ∧ (la = none → lc = 0 ∧ r.fl.length = 0) from by
            rcases row_form HR5.out.row with ⟨h1, h2, h3⟩ | ⟨b, cap, h1, _, _, _, _, h2⟩
            · have e1 : la = none := by injection h1
              have e2 : lc = 0 := by injection h1
              exact ⟨(fun ad h => by rw [e1] at h; cases h), (fun _ => ⟨e2, h2⟩)⟩
            · have e1 : la = some ⟨b, 0, none⟩ := by injection h1
              exact ⟨(fun ad h j u hu => by rw [e1] at h; cases h; rw [add_off]; exact keepa _ (h2 j u hu)), (fun h => by rw [e1] at h; cases h)⟩)
          have HNLF := box (rfCells_length r.fl)
          have HNOF := box (rfCells_one r.fl)
          obtain ⟨p0, p1, p2, p3, p4, p5, p6, pz⟩ := (MB5.out.keep kF)
          obtain ⟨LL, hLL⟩ : ∃ LL, r.fl.length = LL := ⟨_, rfl⟩
          have HLL := box hLL
          rw [hLL] at p5 b6 HNF HNLF
          go_upto_region 16 with (at_builtin; refine wpList_append_rf (o := ⟨some 59, _, _, _, _, _⟩) rfl (.tmp 56) (.tmp 58) rfl w5.heap.size (.slice (some ⟨w5.heap.size, 0, none⟩) 0 0) 0 [] rfl HOF.out la LL lc (rfCells r.fl) rfl HNLF.out HNF.out.2 HNF.out.1 HNOF.out (by omega) HSF.out ?_; intro va6 vc6 w6 ho6 hg6)
          have K56 := box (show Below w5.heap.size w5 w6 from kF.grown hg6.out kF.size (fun q hq => by cases hq; exact Nat.le_refl _))
          have HO6 := box (show w6.ownsRow w5.heap.size 66 2 (.slice va6 (0 + LL) vc6) (LL + 0) (rfCells r.fl ++ rfCells (List.replicate 0 (Fl.mk oa oc ys (r.now + r.d)))) by have h := ho6.out; rw [Nat.zero_add] at h ⊢; simpa [rfCells] using h)
          clear ho6 hg6 kF HOF HSF HNF HNLF HNOF p0 p1 p2 p3 p4 p5 p6 pz y1 y2 hLL
          go_wp2_with fail
          go_loopw [9, 10] (fun t9 t10 wr => ∃ (j : Nat) (va : Option Addr) (vc : Nat), j ≤ 1 ∧ t10 = .int .i64 j ∧ t9 = .slice va (LL + j) vc ∧ Box (wr.ownsRow w5.heap.size 66 2 (.slice va (LL + j) vc) (LL + j) (rfCells r.fl ++ rfCells (List.replicate j (Fl.mk oa oc ys (r.now + r.d))))) ∧ Box (Below w5.heap.size w5 wr)) (fun _ t10 _ => 1 - (intOf t10).toNat)
          case atStart => exact ⟨0, va6, vc6, by omega, rfl, (by simp), box (by have h := HO6.out; rw [Nat.zero_add] at h; exact h), K56⟩
          case round =>
            obtain ⟨j, va, vc, hj, rfl, rfl, HO, KR⟩ := hrel
            obtain ⟨p0, p1, p2, p3, p4, p5, p6, pz⟩ := MB5.out.keep KR.out
            by_cases hlt : j < 1
            · have kG : Below wr.heap.size wr (wr.alloc (.cells #[.int .i64 ((r.now : Int) + (r.d : Int)), .slice oa n oc] 66)) := (Below.refl _ _).alloc (Nat.le_refl _) _
              have HOG := box (row_below HO.out kG)
              have HSG := box (show w5.heap.size ≤ (wr.alloc (.cells #[.int .i64 ((r.now : Int) + (r.d : Int)), .slice oa n oc] 66)).heap.size from Nat.le_trans KR.out.size kG.size)
              have HNG := box (show ∀ ad, (some ⟨wr.heap.size, 0, none⟩ : Option Addr) = some ad → ∀ i u, ([.int .i64 ((r.now : Int) + (r.d : Int)), .slice oa n oc] : List Value)[i]? = some u → (wr.alloc (.cells #[.int .i64 ((r.now : Int) + (r.d : Int)), .slice oa n oc] 66)).cell? (ad.add i) = some u from fun ad h i u hu => by
                cases h
                rw [add_off]
                refine (World.cell?_alloc_mark wr #[.int .i64 ((r.now : Int) + (r.d : Int)), .slice oa n oc] 66 (0, 0) i).trans ?_
                rw [← hu]
                rcases i with _ | _ | i <;> rfl)
              have HNGO := box (show ∀ u ∈ ([.int .i64 ((r.now : Int) + (r.d : Int)), .slice oa n oc] : List Value), u.oneCell' = true from fun u hu => by simp at hu; rcases hu with rfl | rfl <;> rfl)
              have KG := box kG
              clear kG
              go_wp2_with (at_builtin; refine wpList_append_rf (o := ⟨some 74, _, _, _, _, _⟩) rfl (.tmp 65) (.tmp 73) rfl w5.heap.size (.slice va (LL + j) vc) (LL + j) (rfCells r.fl ++ rfCells (List.replicate j (Fl.mk oa oc ys (r.now + r.d)))) rfl HOG.out (some ⟨wr.heap.size, 0, none⟩) 1 1 [.int .i64 ((r.now : Int) + (r.d : Int)), .slice oa n oc] rfl rfl (fun h => by cases h) HNG.out HNGO.out (by omega) HSG.out ?_; intro va7 vc7 w7 ho7 hg7)
              clear p0 p1 p2 p3 p4 p5 p6 pz
              go_wp2_with fail
              go_roundw
              case rel =>
                refine ⟨j + 1, va7, vc7, by omega, by go_num, rfl, box ?_, box (own_below HOG.out (Nat.le_refl _) (KR.out.trans (KG.out.mono KR.out.size)) HSG.out hg7.out)⟩
                have h := ho7.out
                have e : rfCells r.fl ++ rfCells (List.replicate (j + 1) (Fl.mk oa oc ys (r.now + r.d))) = rfCells r.fl ++ rfCells (List.replicate j (Fl.mk oa oc ys (r.now + r.d))) ++ [.int .i64 ((r.now : Int) + (r.d : Int)), .slice oa n oc] := by
                  rw [List.replicate_succ', rfCells_append, List.append_assoc]
                  simp [rfCells, HYL.out]
                rw [e]
                exact h
              case measure => simp [intOf]; omega
            · have hjc : j = 1 := by omega
              subst hjc
              have MBR := box (MB5.out.keep KR.out)
              have TBR := box (TB5.out.keep KR.out)
              have MB8 := box (MBR.out.set5 (.slice va (LL + 1) vc))
              have TB8 := box (TBR.out.same (w' := wr.setCell ⟨m, 5, none⟩ (.slice va (LL + 1) vc)) (heap_else hmm _))
              have KW := box (K3.out.trans (K35.out.mono K3.out.size))
              have KRW := box (KW.out.trans (KR.out.mono KW.out.size))
              have K8 := box (KRW.out.setCell (p := ⟨m, 5, none⟩) (by rw [HM.out]; exact Nat.le_refl _) (.slice va (LL + 1) vc))
              have hm3 : m + 2 ≤ w3.heap.size := by have := HQ.out; have := HMZ.out; omega
              have RF8 := box (show RfAt (fun k => E k ∨ k = m ∨ k = m + 1) wr (.slice va (r.fl ++ List.replicate 1 (Fl.mk oa oc ys (r.now + r.d))).length vc) (r.fl ++ List.replicate 1 (Fl.mk oa oc ys (r.now + r.d))) from by
                have hl : (r.fl ++ List.replicate 1 (Fl.mk oa oc ys (r.now + r.d))).length = LL + 1 := by rw [List.length_append, List.length_replicate, HLL.out]
                refine ⟨?_, fun k hk he => ?_, fun h hh => ?_⟩
                · rw [hl, rfCells_append]; exact row_low HO.out (Nat.zero_le _)
                · rw [hl] at hk
                  have h1 := (row_blk HO.out k hk).1
                  have h2 := K35.out.size
                  have h3 := K3.out.size
                  rcases he with he | he
                  · have := HE.out k he; omega
                  · omega
                · rcases List.mem_append.1 hh with hh | hh
                  · exact ((HR.out.excl (E' := fun k => E k ∨ k = m ∨ k = m + 1) (fun k hk h => h.elim id (fun h => by have := HM.out; omega))).keep KRW.out).syms h hh
                  · obtain rfl := (List.mem_replicate.1 hh).2
                    refine ⟨HOI.out.below KR.out, fun hne q hq he => ?_, HON.out⟩
                    have h1 := (HOB.out q hq).1
                    have h3 := K3.out.size
                    rcases he with he | he
                    · have := HE.out _ he; omega
                    · omega)
              clear hlt hj
              go_upto_region 21 with fail
              clear p0 p1 p2 p3 p4 p5 p6 pz
              have RF88 := box (RF8.out.same (w' := wr.setCell ⟨m, 5, none⟩ (.slice va (LL + 1) vc)) (fun k _ he => heap_else (fun e => he (.inr (.inl e.symm))) _))
              generalize wr.setCell ⟨m, 5, none⟩ (.slice va (LL + 1) vc) = w8 at MB8 TB8 K8 RF88 ⊢
              obtain ⟨p0, p1, p2, p3, p4, p5, p6, pz⟩ := MB8.out
              obtain ⟨t0, t1, t2, t3, t4, t5, t6, tz⟩ := TB8.out
              have PT := box (TB8.out.put (.int .i64 r.d) (.slice r.fa r.fs.length r.fc) (.bool false) (.int .i64 ((r.idx : Int) + 1)) (.int .i64 r.now) (.slice va (LL + 1) vc) (.int .i64 r.lost))
              have KF := box (put7_below K8.out (show w.heap.size ≤ m + 1 by rw [HM.out]; omega) (.int .i64 r.d) (.slice r.fa r.fs.length r.fc) (.bool false) (.int .i64 ((r.idx : Int) + 1)) (.int .i64 r.now) (.slice va (LL + 1) vc) (.int .i64 r.lost))
              have RF9 := box ((RF88.out.same (w' := put7 w8 (m + 1) (.int .i64 r.d) (.slice r.fa r.fs.length r.fc) (.bool false) (.int .i64 ((r.idx : Int) + 1)) (.int .i64 r.now) (.slice va (LL + 1) vc) (.int .i64 r.lost)) (fun k _ he => put7_heap _ _ _ _ _ _ _ _ _ k (fun e => he (.inr (.inr e))))).excl (E' := E) (fun k _ h => .inl h))
              go_wp2_with fail
              change bodyPost _ _ _ _ _ (put7 w8 (m + 1) (.int .i64 r.d) (.slice r.fa r.fs.length r.fc) (.bool false) (.int .i64 ((r.idx : Int) + 1)) (.int .i64 r.now) (.slice va (LL + 1) vc) (.int .i64 r.lost))
              generalize put7 w8 (m + 1) (.int .i64 r.d) (.slice r.fa r.fs.length r.fc) (.bool false) (.int .i64 ((r.idx : Int) + 1)) (.int .i64 r.now) (.slice va (LL + 1) vc) (.int .i64 r.lost) = w9 at PT KF RF9 ⊢
              obtain ⟨o0, o1, o2, o3, o4, o5, o6, oz⟩ := PT.out
              refine bodyPost_ret (v := .tuple #[.agg #[.int .i64 r.d, .slice r.fa r.fs.length r.fc, .bool false, .int .i64 ((r.idx : Int) + 1), .int .i64 r.now, .slice va (LL + 1) vc, .int .i64 r.lost], .int .i64 0]) (by simp [results, Try.results18, go_sem, o0, o1, o2, o3, o4, o5, o6]) rfl ⟨va, vc, ⟨r.d, r.fa, r.fc, r.fs, r.down, r.idx + 1, r.now, r.fl ++ List.replicate 1 (Fl.mk oa oc ys (r.now + r.d)), r.lost⟩, 0, ?_, HRR.out _ _ ?_, RF9.out, KF.out⟩
              · simp [rcV, HLL.out, HDN.out]
              · rw [if_neg HN.out, HCP.out, if_neg HFULL.out]; exact ⟨(Fl.mk oa oc ys (r.now + r.d)), ⟨HYD.out, rfl⟩, rfl, rfl⟩
        · have d5 : (f.kind == 2) = false := by simp [hk2]
          obtain ⟨ys, hys⟩ : ∃ ys, xs = ys := ⟨_, rfl⟩
          have HYD := box (show ys = damage f xs by unfold damage; rw [if_neg hk2, hys])
          have HYL := box (show ys.length = n by rw [← hys, hn])
          have HO5 := box (show Own w3.heap.size w4 v4 n ys by rw [← hys]; exact HO4.out)
          have K35 := K34
          clear hk2 hys
          obtain ⟨oa, oc, hoa, hoi, hon, _, hob⟩ := own_any HO5.out
          subst hoa
          have HOI := box hoi
          have HON := box hon
          have HOB := box hob
          clear hoi hon hob
          have MB5 := box (MB3.out.keep K35.out)
          have TB5 := box (TB3.out.keep K35.out)
          have HR5 := box (HR.out.keep (K3.out.trans (K35.out.mono K3.out.size)))
          have kF : Below w4.heap.size w4 (w4.alloc (.cells #[] 66)) := (Below.refl _ _).alloc (Nat.le_refl _) _
          have HOF := box (World.ownsRow_made (e := 66) (size := 2) (base := w4.heap.size) w4 #[] 0 (Nat.le_refl _) (Nat.zero_le _) rfl)
          have HSF := box (show w4.heap.size ≤ (w4.alloc (.cells #[] 66)).heap.size from kF.size)
          have HNF := box (show (∀ ad, la = some ad → ∀ j u, (rfCells r.fl)[j]? = some u → (w4.alloc (.cells #[] 66)).cell? (ad.add j) = some u) ∧ (la = none → lc = 0 ∧ r.fl.length = 0) from by
            rcases row_form HR5.out.row with ⟨h1, h2, h3⟩ | ⟨b, cap, h1, _, _, _, _, h2⟩
            · have e1 : la = none := by injection h1
              have e2 : lc = 0 := by injection h1
              exact ⟨(fun ad h => by rw [e1] at h; cases h), (fun _ => ⟨e2, h2⟩)⟩
            · have e1 : la = some ⟨b, 0, none⟩ := by injection h1
              exact ⟨(fun ad h j u hu => by rw [e1] at h; cases h; rw [add_off]; exact keepa _ (h2 j u hu)), (fun h => by rw [e1] at h; cases h)⟩)
          have HNLF := box (rfCells_length r.fl)
          have HNOF := box (rfCells_one r.fl)
          obtain ⟨p0, p1, p2, p3, p4, p5, p6, pz⟩ := (MB5.out.keep kF)
          obtain ⟨LL, hLL⟩ : ∃ LL, r.fl.length = LL := ⟨_, rfl⟩
          have HLL := box hLL
          rw [hLL] at p5 b6 HNF HNLF
          go_upto_region 16 with (at_builtin; refine wpList_append_rf (o := ⟨some 59, _, _, _, _, _⟩) rfl (.tmp 56) (.tmp 58) rfl w4.heap.size (.slice (some ⟨w4.heap.size, 0, none⟩) 0 0) 0 [] rfl HOF.out la LL lc (rfCells r.fl) rfl HNLF.out HNF.out.2 HNF.out.1 HNOF.out (by omega) HSF.out ?_; intro va6 vc6 w6 ho6 hg6)
          have K56 := box (show Below w4.heap.size w4 w6 from kF.grown hg6.out kF.size (fun q hq => by cases hq; exact Nat.le_refl _))
          have HO6 := box (show w6.ownsRow w4.heap.size 66 2 (.slice va6 (0 + LL) vc6) (LL + 0) (rfCells r.fl ++ rfCells (List.replicate 0 (Fl.mk oa oc ys (r.now + r.d)))) by have h := ho6.out; rw [Nat.zero_add] at h ⊢; simpa [rfCells] using h)
          clear ho6 hg6 kF HOF HSF HNF HNLF HNOF p0 p1 p2 p3 p4 p5 p6 pz y1 y2 hLL
          go_wp2_with fail
          go_loopw [9, 10] (fun t9 t10 wr => ∃ (j : Nat) (va : Option Addr) (vc : Nat), j ≤ 1 ∧ t10 = .int .i64 j ∧ t9 = .slice va (LL + j) vc ∧ Box (wr.ownsRow w4.heap.size 66 2 (.slice va (LL + j) vc) (LL + j) (rfCells r.fl ++ rfCells (List.replicate j (Fl.mk oa oc ys (r.now + r.d))))) ∧ Box (Below w4.heap.size w4 wr)) (fun _ t10 _ => 1 - (intOf t10).toNat)
          case atStart => exact ⟨0, va6, vc6, by omega, rfl, (by simp), box (by have h := HO6.out; rw [Nat.zero_add] at h; exact h), K56⟩
          case round =>
            obtain ⟨j, va, vc, hj, rfl, rfl, HO, KR⟩ := hrel
            obtain ⟨p0, p1, p2, p3, p4, p5, p6, pz⟩ := MB5.out.keep KR.out
            by_cases hlt : j < 1
            · have kG : Below wr.heap.size wr (wr.alloc (.cells #[.int .i64 ((r.now : Int) + (r.d : Int)), .slice oa n oc] 66)) := (Below.refl _ _).alloc (Nat.le_refl _) _
              have HOG := box (row_below HO.out kG)
              have HSG := box (show w4.heap.size ≤ (wr.alloc (.cells #[.int .i64 ((r.now : Int) + (r.d : Int)), .slice oa n oc] 66)).heap.size from Nat.le_trans KR.out.size kG.size)
              have HNG := box (show ∀ ad, (some ⟨wr.heap.size, 0, none⟩ : Option Addr) = some ad → ∀ i u, ([.int .i64 ((r.now : Int) + (r.d : Int)), .slice oa n oc] : List Value)[i]? = some u → (wr.alloc (.cells #[.int .i64 ((r.now : Int) + (r.d : Int)), .slice oa n oc] 66)).cell? (ad.add i) = some u from fun ad h i u hu => by
                cases h
                rw [add_off]
                refine (World.cell?_alloc_mark wr #[.int .i64 ((r.now : Int) + (r.d : Int)), .slice oa n oc] 66 (0, 0) i).trans ?_
                rw [← hu]
                rcases i with _ | _ | i <;> rfl)
              have HNGO := box (show ∀ u ∈ ([.int .i64 ((r.now : Int) + (r.d : Int)), .slice oa n oc] : List Value), u.oneCell' = true from fun u hu => by simp at hu; rcases hu with rfl | rfl <;> rfl)
              have KG := box kG
              clear kG
              go_wp2_with (at_builtin; refine wpList_append_rf (o := ⟨some 74, _, _, _, _, _⟩) rfl (.tmp 65) (.tmp 73) rfl w4.heap.size (.slice va (LL + j) vc) (LL + j) (rfCells r.fl ++ rfCells (List.replicate j (Fl.mk oa oc ys (r.now + r.d)))) rfl HOG.out (some ⟨wr.heap.size, 0, none⟩) 1 1 [.int .i64 ((r.now : Int) + (r.d : Int)), .slice oa n oc] rfl rfl (fun h => by cases h) HNG.out HNGO.out (by omega) HSG.out ?_; intro va7 vc7 w7 ho7 hg7)
              clear p0 p1 p2 p3 p4 p5 p6 pz
              go_wp2_with fail
              go_roundw
              case rel =>
                refine ⟨j + 1, va7, vc7, by omega, by go_num, rfl, box ?_, box (own_below HOG.out (Nat.le_refl _) (KR.out.trans (KG.out.mono KR.out.size)) HSG.out hg7.out)⟩
                have h := ho7.out
                have e : rfCells r.fl ++ rfCells (List.replicate (j + 1) (Fl.mk oa oc ys (r.now + r.d))) = rfCells r.fl ++ rfCells (List.replicate j (Fl.mk oa oc ys (r.now + r.d))) ++ [.int .i64 ((r.now : Int) + (r.d : Int)), .slice oa n oc] := by
                  rw [List.replicate_succ', rfCells_append, List.append_assoc]
                  simp [rfCells, HYL.out]
                rw [e]
                exact h
              case measure => simp [intOf]; omega
            · have hjc : j = 1 := by omega
              subst hjc
              have MBR := box (MB5.out.keep KR.out)
              have TBR := box (TB5.out.keep KR.out)
              have MB8 := box (MBR.out.set5 (.slice va (LL + 1) vc))
              have TB8 := box (TBR.out.same (w' := wr.setCell ⟨m, 5, none⟩ (.slice va (LL + 1) vc)) (heap_else hmm _))
              have KW := box (K3.out.trans (K35.out.mono K3.out.size))
              have KRW := box (KW.out.trans (KR.out.mono KW.out.size))
              have K8 := box (KRW.out.setCell (p := ⟨m, 5, none⟩) (by rw [HM.out]; exact Nat.le_refl _) (.slice va (LL + 1) vc))
              have hm3 : m + 2 ≤ w3.heap.size := by have := HQ.out; have := HMZ.out; omega
              have RF8 := box (show RfAt (fun k => E k ∨ k = m ∨ k = m + 1) wr (.slice va (r.fl ++ List.replicate 1 (Fl.mk oa oc ys (r.now + r.d))).length vc) (r.fl ++ List.replicate 1 (Fl.mk oa oc ys (r.now + r.d))) from by
                have hl : (r.fl ++ List.replicate 1 (Fl.mk oa oc ys (r.now + r.d))).length = LL + 1 := by rw [List.length_append, List.length_replicate, HLL.out]
                refine ⟨?_, fun k hk he => ?_, fun h hh => ?_⟩
                · rw [hl, rfCells_append]; exact row_low HO.out (Nat.zero_le _)
                · rw [hl] at hk
                  have h1 := (row_blk HO.out k hk).1
                  have h2 := K35.out.size
                  have h3 := K3.out.size
                  rcases he with he | he
                  · have := HE.out k he; omega
                  · omega
                · rcases List.mem_append.1 hh with hh | hh
                  · exact ((HR.out.excl (E' := fun k => E k ∨ k = m ∨ k = m + 1) (fun k hk h => h.elim id (fun h => by have := HM.out; omega))).keep KRW.out).syms h hh
                  · obtain rfl := (List.mem_replicate.1 hh).2
                    refine ⟨HOI.out.below KR.out, fun hne q hq he => ?_, HON.out⟩
                    have h1 := (HOB.out q hq).1
                    have h3 := K3.out.size
                    rcases he with he | he
                    · have := HE.out _ he; omega
                    · omega)
              clear hlt hj
              go_upto_region 21 with fail
              clear p0 p1 p2 p3 p4 p5 p6 pz
              have RF88 := box (RF8.out.same (w' := wr.setCell ⟨m, 5, none⟩ (.slice va (LL + 1) vc)) (fun k _ he => heap_else (fun e => he (.inr (.inl e.symm))) _))
              generalize wr.setCell ⟨m, 5, none⟩ (.slice va (LL + 1) vc) = w8 at MB8 TB8 K8 RF88 ⊢
              obtain ⟨p0, p1, p2, p3, p4, p5, p6, pz⟩ := MB8.out
              obtain ⟨t0, t1, t2, t3, t4, t5, t6, tz⟩ := TB8.out
              have PT := box (TB8.out.put (.int .i64 r.d) (.slice r.fa r.fs.length r.fc) (.bool false) (.int .i64 ((r.idx : Int) + 1)) (.int .i64 r.now) (.slice va (LL + 1) vc) (.int .i64 r.lost))
              have KF := box (put7_below K8.out (show w.heap.size ≤ m + 1 by rw [HM.out]; omega) (.int .i64 r.d) (.slice r.fa r.fs.length r.fc) (.bool false) (.int .i64 ((r.idx : Int) + 1)) (.int .i64 r.now) (.slice va (LL + 1) vc) (.int .i64 r.lost))
              have RF9 := box ((RF88.out.same (w' := put7 w8 (m + 1) (.int .i64 r.d) (.slice r.fa r.fs.length r.fc) (.bool false) (.int .i64 ((r.idx : Int) + 1)) (.int .i64 r.now) (.slice va (LL + 1) vc) (.int .i64 r.lost)) (fun k _ he => put7_heap _ _ _ _ _ _ _ _ _ k (fun e => he (.inr (.inr e))))).excl (E' := E) (fun k _ h => .inl h))
              go_wp2_with fail
              change bodyPost _ _ _ _ _ (put7 w8 (m + 1) (.int .i64 r.d) (.slice r.fa r.fs.length r.fc) (.bool false) (.int .i64 ((r.idx : Int) + 1)) (.int .i64 r.now) (.slice va (LL + 1) vc) (.int .i64 r.lost))
              generalize put7 w8 (m + 1) (.int .i64 r.d) (.slice r.fa r.fs.length r.fc) (.bool false) (.int .i64 ((r.idx : Int) + 1)) (.int .i64 r.now) (.slice va (LL + 1) vc) (.int .i64 r.lost) = w9 at PT KF RF9 ⊢
              obtain ⟨o0, o1, o2, o3, o4, o5, o6, oz⟩ := PT.out
              refine bodyPost_ret (v := .tuple #[.agg #[.int .i64 r.d, .slice r.fa r.fs.length r.fc, .bool false, .int .i64 ((r.idx : Int) + 1), .int .i64 r.now, .slice va (LL + 1) vc, .int .i64 r.lost], .int .i64 0]) (by simp [results, Try.results18, go_sem, o0, o1, o2, o3, o4, o5, o6]) rfl ⟨va, vc, ⟨r.d, r.fa, r.fc, r.fs, r.down, r.idx + 1, r.now, r.fl ++ List.replicate 1 (Fl.mk oa oc ys (r.now + r.d)), r.lost⟩, 0, ?_, HRR.out _ _ ?_, RF9.out, KF.out⟩
              · simp [rcV, HLL.out, HDN.out]
              · rw [if_neg HN.out, HCP.out, if_neg HFULL.out]; exact ⟨(Fl.mk oa oc ys (r.now + r.d)), ⟨HYD.out, rfl⟩, rfl, rfl⟩
  · have HDN := box hdn
    rw [hdn] at p2 MB3
    have MB4 := box (MB3.out.set6 (.int .i64 ((r.lost : Int) + 1)))
    have TB4 := box (TB3.out.same (w' := w3.setCell ⟨m, 6, none⟩ (.int .i64 ((r.lost : Int) + 1))) (heap_else hmm _))
    have K4 := box (K3.out.setCell (p := ⟨m, 6, none⟩) (by rw [HM.out]; exact Nat.le_refl _) (.int .i64 ((r.lost : Int) + 1)))
    go_upto_region 5 with fail
    generalize w3.setCell ⟨m, 6, none⟩ (.int .i64 ((r.lost : Int) + 1)) = w4 at MB4 TB4 K4 ⊢
    clear p0 p1 p2 p3 p4 p5 p6 pz z1 z2
    obtain ⟨p0, p1, p2, p3, p4, p5, p6, pz⟩ := MB4.out
    obtain ⟨t0, t1, t2, t3, t4, t5, t6, tz⟩ := TB4.out
    have PT := box (TB4.out.put (.int .i64 r.d) (.slice r.fa r.fs.length r.fc) (.bool true) (.int .i64 ((r.idx : Int) + 1)) (.int .i64 r.now) (.slice la r.fl.length lc) (.int .i64 ((r.lost : Int) + 1)))
    have KF := box (put7_below K4.out (show w.heap.size ≤ m + 1 by rw [HM.out]; omega) (.int .i64 r.d) (.slice r.fa r.fs.length r.fc) (.bool true) (.int .i64 ((r.idx : Int) + 1)) (.int .i64 r.now) (.slice la r.fl.length lc) (.int .i64 ((r.lost : Int) + 1)))
    have RF9 := box (HR.out.keep KF.out)
    go_wp2_with fail
    change bodyPost _ _ _ _ _ (put7 w4 (m + 1) (.int .i64 r.d) (.slice r.fa r.fs.length r.fc) (.bool true) (.int .i64 ((r.idx : Int) + 1)) (.int .i64 r.now) (.slice la r.fl.length lc) (.int .i64 ((r.lost : Int) + 1)))
    generalize put7 w4 (m + 1) (.int .i64 r.d) (.slice r.fa r.fs.length r.fc) (.bool true) (.int .i64 ((r.idx : Int) + 1)) (.int .i64 r.now) (.slice la r.fl.length lc) (.int .i64 ((r.lost : Int) + 1)) = w9 at PT KF RF9 ⊢
    obtain ⟨o0, o1, o2, o3, o4, o5, o6, oz⟩ := PT.out
    refine bodyPost_ret (v := .tuple #[.agg #[.int .i64 r.d, .slice r.fa r.fs.length r.fc, .bool true, .int .i64 ((r.idx : Int) + 1), .int .i64 r.now, .slice la r.fl.length lc, .int .i64 ((r.lost : Int) + 1)], .int .i64 0]) (by simp [results, Try.results18, go_sem, o0, o1, o2, o3, o4, o5, o6]) rfl ⟨la, lc, ⟨r.d, r.fa, r.fc, r.fs, r.down, r.idx + 1, r.now, r.fl, r.lost + 1⟩, 0, ?_, HRR.out _ _ ?_, RF9.out, KF.out⟩
    · simp [rcV, HDN.out]
    · rw [if_pos (.inl HDN.out)]; exact ⟨by rw [HDN.out], rfl⟩
end Go.Proofs.Ytoeedbimhihbhaa
