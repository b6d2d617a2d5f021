/- The scanner's Push, whole: its contract. -/
import Derived.Test.YthfoakomapmkeaaDoorFrBc
namespace Go.Proofs.YthfoakomapmkeaaDoor
open Go.RowKit

set_option maxRecDepth 100000 in
set_option maxHeartbeats 8000000 in
theorem push_end (g h : Nat) (xs : List Nat) (b : Nat) (hb : b < 1000000) (hx : ∀ x ∈ xs, idx x < 16 ∧ x < 256) (hl : xs.length ≤ 162) (w : World) (x : ScAt w g h ⟨true, xs, b⟩) (hT : Crc.HasTab w) (hT2 : HasTab w) :
    Calls Tryd.prog 26 #[.pointer (some ⟨g, 0, none⟩), nU8 50] w (EndPost g h xs b w) := by
  have X := box x
  have LG := x.lt
  have LH := x.lth
  have kA := (Below.refl w.heap.size w).alloc (Nat.le_refl _) (.cells #[.int .u8 0, .int .i64 0, .int .i64 0, .int .i64 0, .slice none 0 0] 24)
  have XB : Box (ScAt (w.alloc (.cells #[.int .u8 0, .int .i64 0, .int .i64 0, .int .i64 0, .slice none 0 0] 24)) g h ⟨true, xs, b⟩) := box (X.out.keep kA)
  have R : Box (Pk5 (w.alloc (.cells #[.int .u8 0, .int .i64 0, .int .i64 0, .int .i64 0, .slice none 0 0] 24)) w.heap.size (nU8 0) (.int .i64 0) (.int .i64 0) (.int .i64 0) (.slice none 0 0)) := box (pk5_new w 0 0 0 0 none 0 0 w.heap.size rfl)
  have KA := box kA
  have VV := value_any 50 (by omega) (w.alloc (.cells #[.int .u8 0, .int .i64 0, .int .i64 0, .int .i64 0, .slice none 0 0] 24)) (hT2.below kA)
  rw [show valueV (idx 50) = .tuple #[.int .i64 1, .bool true, .int .i64 0] by rw [idx50]; rfl] at VV
  have VB := box VV
  have rg : w.heap.size ≠ g := Nat.ne_of_gt LG
  have rh : w.heap.size ≠ h := Nat.ne_of_gt LH
  have i1 := XB.out.c0
  have EN := box (end_any g h xs b hb hx hl (w.alloc (.cells #[.int .u8 0, .int .i64 0, .int .i64 0, .int .i64 0, .slice none 0 0] 24)) XB.out (hT.below kA) (hT2.below kA))
  have LR : w.heap.size < (w.alloc (.cells #[.int .u8 0, .int .i64 0, .int .i64 0, .int .i64 0, .slice none 0 0] 24)).heap.size := World.block_lt_of_cell? _ ⟨w.heap.size, 0, none⟩ R.out.q0
  clear hT2 hT x kA VV hx hl hb
  go_enter Tryd.func26, Tryd.ntmps26
  go_wp2_with fail
  refine VB.out.mono ?_
  rintro e w2 ⟨rfl, hw2⟩
  change w.alloc (.cells #[.int .u8 0, .int .i64 0, .int .i64 0, .int .i64 0, .slice none 0 0] 24) = w2 at hw2
  rw [hw2] at XB R KA i1 EN LR
  clear hw2 VB
  have KK := box (Apart.ofBelow (g := g) (h := h) KA.out)
  go_wp2_with fail
  refine EN.out.mono ?_
  rintro e w4 ⟨ap, x4, hres⟩
  obtain ⟨r0, r1, r2, r3, r4, rz⟩ := R.out.apart ap rg rh
  have R5 := box (R.out.apart ap rg rh)
  replace KK := box (KK.out.trans ap)
  clear i1 EN
  rcases hres with ⟨hg, rfl⟩ | ⟨hg, a, l, c, rfl, hpl, hi, hn, hf⟩
  · have HF := fun w' (ap : Apart g h w w') (x : ScAt w' g h ⟨false, [], if goodS xs then b else b + 1⟩) => box (show EndPost g h xs b w (.returned (.tuple #[pk0, .bool false])) w' from ⟨ap, x, .inl ⟨hg, rfl⟩⟩)
    have X4 := box x4
    clear hg x4
    go_wp2_with fail
    have Y := pk5_put R5.out (nU8 0) (.int .i64 0) (.int .i64 0) (.int .i64 0) (.slice none 0 0)
    have F := HF (put5 w4 w.heap.size (nU8 0) (.int .i64 0) (.int .i64 0) (.int .i64 0) (.slice none 0 0)) (KK.out.put5 (Nat.le_refl _) _ _ _ _ _) (X4.out.far rg rh _ _ _ _ _)
    change bodyPost _ _ _ _ _ (put5 w4 w.heap.size (nU8 0) (.int .i64 0) (.int .i64 0) (.int .i64 0) (.slice none 0 0))
    generalize put5 w4 w.heap.size (nU8 0) (.int .i64 0) (.int .i64 0) (.int .i64 0) (.slice none 0 0) = w5 at Y F ⊢
    clear r0 r1 r2 r3 r4 rz
    obtain ⟨z0, z1, z2, z3, z4, _⟩ := Y
    exact bodyPost_ret (v := .tuple #[pk0, .bool false]) (by simp [results, Tryd.results26, go_sem, z0, z1, z2, z3, z4]) rfl F.out
  · have HG := box hg
    obtain ⟨p, hp⟩ : ∃ p, pktB (bytesS xs) = p := ⟨_, rfl⟩
    rw [hp] at hpl hi ⊢
    have HP := box hp
    have HF := fun w' (ap : Apart g h w w') (x : ScAt w' g h ⟨false, [], if goodS xs then b else b + 1⟩) (hi : In w' a p.pay) => box (show EndPost g h xs b w (.returned (.tuple #[pkV p.k p.c p.n p.v a l c, .bool true])) w' from ⟨ap, x, .inr ⟨HG.out, a, l, c, by rw [HP.out], by rw [HP.out]; exact hpl, by rw [HP.out]; exact hi, hn, fun q hq => Nat.le_trans (Nat.le_of_lt LR) (hf q hq)⟩⟩)
    have X4 := box x4
    have I4 := box hi
    have HF4 := box (fun q hq => Nat.lt_of_lt_of_le LR (hf q hq))
    clear hg hp x4 hi hf hpl HG HP
    obtain ⟨pk, pc, pn, pv, pp⟩ := p
    have V4 := box R5.out
    go_wp2_with fail
    have Y := pk5_put R5.out (nU8 pk) (.int .i64 pc) (.int .i64 pn) (.int .i64 pv) (.slice a l c)
    have F := HF (put5 w4 w.heap.size (nU8 pk) (.int .i64 pc) (.int .i64 pn) (.int .i64 pv) (.slice a l c)) (KK.out.put5 (Nat.le_refl _) _ _ _ _ _) (X4.out.far rg rh _ _ _ _ _) (put5_in I4.out w.heap.size (nU8 pk) (.int .i64 pc) (.int .i64 pn) (.int .i64 pv) (.slice a l c) (fun q hq => Nat.ne_of_lt (HF4.out q hq)))
    change bodyPost _ _ _ _ _ (put5 w4 w.heap.size (nU8 pk) (.int .i64 pc) (.int .i64 pn) (.int .i64 pv) (.slice a l c))
    generalize put5 w4 w.heap.size (nU8 pk) (.int .i64 pc) (.int .i64 pn) (.int .i64 pv) (.slice a l c) = w5 at Y F ⊢
    clear r0 r1 r2 r3 r4 rz
    obtain ⟨z0, z1, z2, z3, z4, _⟩ := Y
    exact bodyPost_ret (v := .tuple #[pkV pk pc pn pv a l c, .bool true]) (by simp [results, Tryd.results26, go_sem, z0, z1, z2, z3, z4]) rfl F.out

set_option maxRecDepth 100000 in
set_option maxHeartbeats 8000000 in
theorem push_nil (y : Nat) (w : World) :
    Calls Tryd.prog 26 #[.pointer none, nU8 y] w fun e w' => e = .returned (.tuple #[pk0, .bool false]) ∧ Below w.heap.size w w' := by
  go_enter Tryd.func26, Tryd.ntmps26
  go_wp2_with fail
  refine bodyPost_ret (v := .tuple #[pk0, .bool false]) (by simp [results, Tryd.results26, go_sem]) rfl ⟨rfl, ?_⟩
  exact (Below.refl _ _).alloc (Nat.le_refl _) _

theorem push_any (g h : Nat) (s : Sc) (hs : s.Ok) (hb : s.bad < 1000000) (y : Nat) (hy : y < 256) (w : World) (x : ScAt w g h s) (hT : Crc.HasTab w) (hT2 : HasTab w) :
    Calls Tryd.prog 26 #[.pointer (some ⟨g, 0, none⟩), nU8 y] w (PushPost g h s y w) := by
  by_cases h49 : y = 49
  · subst h49
    have hf : foundS s 49 = none := by unfold foundS; rw [if_neg (fun h => by omega)]
    have hst : stepS s 49 = ⟨true, [], if s.ins then s.bad + 1 else s.bad⟩ := by unfold stepS; rw [if_pos rfl]
    refine (push_start g h s hb hs.out (by omega) (by rw [idx49]; rfl) _ rfl w x hT2).mono ?_
    rintro e w' ⟨h1, h2, h3⟩
    exact ⟨h1, by rw [hst]; exact h2, by rw [hf]; exact h3⟩
  have n16 : idx y ≠ 16 := fun h => h49 (idx_49 y hy h)
  obtain ⟨i, xs, b⟩ := s
  cases i
  · have hf : foundS ⟨false, xs, b⟩ y = none := by unfold foundS; rw [if_neg (fun h => by cases h.2.1)]
    have hst : stepS ⟨false, xs, b⟩ y = ⟨false, xs, b⟩ := by unfold stepS; rw [if_neg h49, if_pos rfl]
    have fin : ∀ e w', Apart g h w w' ∧ ScAt w' g h ⟨false, xs, b⟩ ∧ e = .returned (.tuple #[pk0, .bool false]) → PushPost g h ⟨false, xs, b⟩ y w e w' := fun e w' ⟨h1, h2, h3⟩ => ⟨h1, by rw [hst]; exact h2, by rw [hf]; exact h3⟩
    by_cases c16 : idx y < 16
    · exact (push_out1 g h xs b y (idx y : Nat) 0 hy (by unfold valueV; rw [if_pos c16]) _ rfl w x hT2).mono fin
    by_cases c20 : idx y < 20
    · exact (push_out2 g h xs b y ((idx y : Nat) - 16) 0 hy (by unfold valueV; rw [if_neg c16, if_pos c20]) (by simp; omega) _ rfl w x hT2).mono fin
    · exact (push_out1 g h xs b y 0 3 hy (by unfold valueV; rw [if_neg c16, if_neg c20]) _ rfl w x hT2).mono fin
  by_cases h50 : y = 50
  · subst h50
    have hst : stepS ⟨true, xs, b⟩ 50 = ⟨false, [], if goodS xs then b else b + 1⟩ := by unfold stepS; rw [if_neg h49, if_neg (by simp), if_pos rfl]
    refine (push_end g h xs b hb hs.data hs.room w x hT hT2).mono ?_
    rintro e w' ⟨h1, h2, h3⟩
    refine ⟨h1, by rw [hst]; exact h2, ?_⟩
    rcases h3 with ⟨hg, h3⟩ | ⟨hg, h3⟩
    · have hf : foundS ⟨true, xs, b⟩ 50 = none := by unfold foundS; rw [if_neg (fun h => by rw [hg] at h; cases h.2.2)]
      rw [hf]; exact h3
    · have hf : foundS ⟨true, xs, b⟩ 50 = some (pktB (bytesS xs)) := by unfold foundS; rw [if_pos ⟨rfl, rfl, hg⟩]
      rw [hf]; exact h3
  have n17 : idx y ≠ 17 := fun h => h50 (idx_50 y hy h)
  have hf : foundS ⟨true, xs, b⟩ y = none := by unfold foundS; rw [if_neg (fun h => h50 h.1)]
  by_cases c16 : idx y < 16
  · have hst : stepS ⟨true, xs, b⟩ y = if xs.length < 162 then ⟨true, xs ++ [y], b⟩ else ⟨false, [], b + 1⟩ := by unfold stepS; rw [if_neg h49, if_neg (by simp), if_neg h50, if_pos c16]
    refine (push_data g h xs b y hb hs.room (idx y : Nat) hy (by unfold valueV; rw [if_pos c16]) _ rfl w x hT2).mono ?_
    rintro e w' ⟨h1, h2, h3⟩
    exact ⟨h1, by rw [hst]; exact h2, by rw [hf]; exact h3⟩
  have hst : stepS ⟨true, xs, b⟩ y = ⟨false, [], b + 1⟩ := by unfold stepS; rw [if_neg h49, if_neg (by simp), if_neg h50, if_neg c16]
  have fin : ∀ e w', Apart g h w w' ∧ ScAt w' g h ⟨false, [], b + 1⟩ ∧ e = .returned (.tuple #[pk0, .bool false]) → PushPost g h ⟨true, xs, b⟩ y w e w' := fun e w' ⟨h1, h2, h3⟩ => ⟨h1, by rw [hst]; exact h2, by rw [hf]; exact h3⟩
  by_cases c20 : idx y < 20
  · exact (push_ctl g h xs b y hb ((idx y : Nat) - 16) hy (by unfold valueV; rw [if_neg c16, if_pos c20]) (by simp; omega) (by simp; omega) _ rfl w x hT2).mono fin
  · exact (push_no g h xs b y hb 0 hy (by unfold valueV; rw [if_neg c16, if_neg c20]) _ rfl w x hT2).mono fin
end Go.Proofs.YthfoakomapmkeaaDoor
