/- The scanner's small methods: their contracts. -/
import Derived.Test.YthfoakomapmkeaaDoorFrZ
namespace Go.Proofs.YthfoakomapmkeaaDoor
open Go.RowKit

theorem own_blk {B h n c : Nat} {w w' : World} {xs : List Nat} (x : Own B w (.slice (some ⟨h, 0, none⟩) n c) n xs) (e : w'.heap[h]? = w.heap[h]?) : Own B w' (.slice (some ⟨h, 0, none⟩) n c) n xs := by
  obtain ⟨hl, hc⟩ := x
  rcases hc with ⟨h0, _⟩ | ⟨g', cap, cur, hv, hg, hh, hr⟩
  · cases h0
  · cases hv
    exact ⟨hl, .inr ⟨h, c, cur, rfl, hg, e.trans hh, hr⟩⟩
theorem own_cut0 {B h n c : Nat} {w : World} {xs : List Nat} (x : Own B w (.slice (some ⟨h, 0, none⟩) n c) n xs) : Own B w (.slice (some ⟨h, 0, none⟩) 0 c) 0 [] := by
  obtain ⟨hl, hc⟩ := x
  rcases hc with ⟨h0, _⟩ | ⟨g', cap, cur, hv, hg, hh, hnc, hcap, hsz, ht⟩
  · cases h0
  · cases hv
    exact ⟨rfl, .inr ⟨h, c, cur, rfl, hg, hh, Nat.zero_le _, hcap, hsz, by simp⟩⟩
theorem ScAt.blk {w w' : World} {g h : Nat} {s : Sc} {i : Bool} {b : Nat} (x : ScAt w g h s)
    (c0 : w'.cell? ⟨g, 0, none⟩ = some (.bool i)) (c1 : w'.cell? ⟨g, 1, none⟩ = some (.slice (some ⟨h, 0, none⟩) s.syms.length 163)) (c2 : w'.cell? ⟨g, 2, none⟩ = some (.int .i64 b)) (fr : ∀ j, w'.frozen? ⟨g, j, none⟩ = false) (e : w'.heap[h]? = w.heap[h]?) : ScAt w' g h ⟨i, s.syms, b⟩ :=
  ⟨c0, c1, c2, fr, own_blk x.own e, x.ne⟩
theorem ScAt.blk0 {w w' : World} {g h : Nat} {s : Sc} {i : Bool} {b : Nat} (x : ScAt w g h s)
    (c0 : w'.cell? ⟨g, 0, none⟩ = some (.bool i)) (c1 : w'.cell? ⟨g, 1, none⟩ = some (.slice (some ⟨h, 0, none⟩) 0 163)) (c2 : w'.cell? ⟨g, 2, none⟩ = some (.int .i64 b)) (fr : ∀ j, w'.frozen? ⟨g, j, none⟩ = false) (e : w'.heap[h]? = w.heap[h]?) : ScAt w' g h ⟨i, [], b⟩ :=
  ⟨c0, c1, c2, fr, own_cut0 (own_blk x.own e), x.ne⟩

theorem cell_put {w : World} {g i : Nat} {u : Value} (h : w.cell? ⟨g, i, none⟩ = some u) (v : Value) : (w.setCell ⟨g, i, none⟩ v).cell? ⟨g, i, none⟩ = some v := World.cell?_setCell_same _ _ _ h
theorem cell_else {w : World} {g i j : Nat} {u : Value} (hij : i ≠ j) (h : w.cell? ⟨g, j, none⟩ = some u) (v : Value) : (w.setCell ⟨g, i, none⟩ v).cell? ⟨g, j, none⟩ = some u := by
  rw [World.cell?_setCell_other _ _ _ _ (fun e => hij (by injection e))]; exact h
theorem heap_else {w : World} {g i h : Nat} (hgh : g ≠ h) (v : Value) : (w.setCell ⟨g, i, none⟩ v).heap[h]? = w.heap[h]? := heap_setCell_other w _ h v (fun e => hgh e.symm)

set_option maxHeartbeats 4000000 in
theorem leave_any (g h : Nat) (s : Sc) (w : World) (x : ScAt w g h s) :
    Calls Tryd.prog 64 #[.pointer (some ⟨g, 0, none⟩)] w fun e w' => e = .returned (.tuple #[]) ∧ ScAt w' g h ⟨false, [], s.bad⟩ ∧ Apart g h w w' := by
  have X := box x
  obtain ⟨c0, c1, c2, fr, _, _⟩ := x
  go_enter Tryd.func64, Tryd.ntmps64
  go_wp2_with fail
  go_end0
  refine ⟨rfl, X.out.blk0 ?_ ?_ ?_ ?_ ?_, ((Apart.refl g h w).setCell 0 _).setCell 1 _⟩
  · exact cell_else (by decide) (cell_put c0 _) _
  · exact cell_put (cell_else (by decide) c1 _) _
  · exact cell_else (by decide) (cell_else (by decide) c2 _) _
  · intro j; rw [World.frozen?_setCell, World.frozen?_setCell]; exact fr j
  · rw [heap_else X.out.ne, heap_else X.out.ne]

set_option maxHeartbeats 4000000 in
theorem discard_any (g h : Nat) (s : Sc) (hb : s.bad < 1000000) (w : World) (x : ScAt w g h s) :
    Calls Tryd.prog 50 #[.pointer (some ⟨g, 0, none⟩)] w fun e w' => e = .returned (.tuple #[]) ∧ ScAt w' g h ⟨false, [], s.bad + 1⟩ ∧ Apart g h w w' := by
  have X := box x
  obtain ⟨c0, c1, c2, fr, _, _⟩ := x
  obtain ⟨i, xs, b⟩ := s
  have hb' : b < 1000000 := hb
  clear hb
  go_enter Tryd.func50, Tryd.ntmps50
  go_wp2_with fail
  have Y : ScAt (w.setCell ⟨g, 2, none⟩ (.int .i64 ((b : Int) + 1))) g h ⟨i, xs, b + 1⟩ := by
    refine X.out.blk ?_ ?_ ?_ ?_ ?_
    · exact cell_else (by decide) c0 _
    · exact cell_else (by decide) c1 _
    · have := cell_put c2 (.int .i64 ((b : Int) + 1)); rw [this]; simp
    · intro j; rw [World.frozen?_setCell]; exact fr j
    · rw [heap_else X.out.ne]
  refine (leave_any g h _ _ Y).mono ?_
  rintro e w2 ⟨rfl, x2, ap⟩
  go_wp2_with fail
  go_end0
  exact ⟨rfl, x2, ((Apart.refl g h w).setCell 2 _).trans ap⟩

set_option maxHeartbeats 4000000 in
theorem begin_any (g h : Nat) (s : Sc) (hb : s.bad < 1000000) (hout : s.ins = false → s.syms = []) (w : World) (x : ScAt w g h s) :
    Calls Tryd.prog 47 #[.pointer (some ⟨g, 0, none⟩)] w fun e w' => e = .returned (.tuple #[]) ∧ ScAt w' g h ⟨true, [], if s.ins then s.bad + 1 else s.bad⟩ ∧ Apart g h w w' := by
  have X := box x
  obtain ⟨c0, c1, c2, fr, _, _⟩ := x
  obtain ⟨i, xs, b⟩ := s
  cases i
  · obtain rfl := hout rfl
    clear hout
    go_enter Tryd.func47, Tryd.ntmps47
    go_wp2_with fail
    go_end0
    refine ⟨rfl, X.out.blk ?_ ?_ ?_ ?_ ?_, (Apart.refl g h w).setCell 0 _⟩
    · exact cell_put c0 _
    · exact cell_else (by decide) c1 _
    · exact cell_else (by decide) c2 _
    · intro j; rw [World.frozen?_setCell]; exact fr j
    · rw [heap_else X.out.ne]
  · have D := box (discard_any g h _ hb w X.out)
    clear hout
    go_enter Tryd.func47, Tryd.ntmps47
    go_wp2_with fail
    refine D.out.mono ?_
    rintro e w2 ⟨rfl, x2, ap⟩
    have X2 := box x2
    obtain ⟨d0, d1, d2, fr2, _, _⟩ := x2
    clear c0 c1 c2 fr
    go_wp2_with fail
    go_end0
    refine ⟨rfl, X2.out.blk (s := ⟨false, [], b + 1⟩) ?_ ?_ ?_ ?_ ?_, ap.setCell 0 _⟩
    · exact cell_put d0 _
    · exact cell_else (by decide) d1 _
    · exact cell_else (by decide) d2 _
    · intro j; rw [World.frozen?_setCell]; exact fr2 j
    · rw [heap_else X2.out.ne]

theorem bad_any (g h : Nat) (s : Sc) (w : World) (x : ScAt w g h s) :
    Calls Tryd.prog 28 #[.pointer (some ⟨g, 0, none⟩)] w fun e w' => e = .returned (.int .i64 s.bad) ∧ w = w' := by
  obtain ⟨c0, c1, c2, fr, _, _⟩ := x
  go_enter Tryd.func28, Tryd.ntmps28
  go_wp2_with fail
  go_ret
  exact ⟨rfl, rfl⟩
theorem bad_nil (w : World) :
    Calls Tryd.prog 28 #[.pointer none] w fun e w' => e = .returned (.int .i64 0) ∧ w = w' := by
  go_enter Tryd.func28, Tryd.ntmps28
  go_wp2_with fail
  go_ret
  exact ⟨rfl, rfl⟩

set_option maxHeartbeats 4000000 in
theorem add_any (g h : Nat) (xs : List Nat) (b y : Nat) (hb : b < 1000000) (hl : xs.length ≤ 162) (w : World) (x : ScAt w g h ⟨true, xs, b⟩) :
    Calls Tryd.prog 49 #[.pointer (some ⟨g, 0, none⟩), nU8 y] w fun e w' => e = .returned (.tuple #[]) ∧ ScAt w' g h (if xs.length < 162 then ⟨true, xs ++ [y], b⟩ else ⟨false, [], b + 1⟩) ∧ Apart g h w w' := by
  have X := box x
  have LG := X.out.lt
  have LH := X.out.lth
  obtain ⟨c0, c1, c2, fr, _, _⟩ := x
  simp only at c0 c1 c2
  obtain ⟨l, hxl⟩ : ∃ l, xs.length = l := ⟨_, rfl⟩
  rw [hxl] at c1 hl
  obtain ⟨i0, hi, hz0, hz1, hz2⟩ := info_parts Tryd.infoU8
  have kA := (Below.refl w.heap.size w).alloc (Nat.le_refl _) (.cells #[nU8 y] 5)
  have XA := box (X.out.keep kA)
  have HOW : Box (Own h (w.alloc (.cells #[nU8 y] 5)) (.slice (some ⟨h, 0, none⟩) l 163) l xs) := box (by have h := XA.out.own; simp only at h; rwa [hxl] at h)
  have HAT := box (at_mark w [y] 5 (0, 0) _ rfl)
  have NE := X.out.ne
  have G0 := box (fun (w2 : World) (h2 : (w.alloc (.cells #[nU8 y] 5)).grownBy w2 (some h)) => (And.intro (h2.cell XA.out.c0 (fun e => NE (Option.some.inj e))) (And.intro (h2.cell XA.out.c1 (fun e => NE (Option.some.inj e))) (And.intro (h2.cell XA.out.c2 (fun e => NE (Option.some.inj e))) (fun j => (World.frozen?_of_block (a := ⟨g, j, none⟩) (h2.block g XA.out.lt (fun e => NE (Option.some.inj e)))).trans (XA.out.fr j)))) : w2.cell? ⟨g, 0, none⟩ = some (.bool true) ∧ w2.cell? ⟨g, 1, none⟩ = some (.slice (some ⟨h, 0, none⟩) xs.length 163) ∧ w2.cell? ⟨g, 2, none⟩ = some (.int .i64 b) ∧ ∀ j, w2.frozen? ⟨g, j, none⟩ = false))
  have GK := box (fun (w2 : World) (h2 : (w.alloc (.cells #[nU8 y] 5)).grownBy w2 (some h)) => (Apart.trans (Apart.ofBelow (g := g) (h := h) kA) (Apart.ofGrown h2) : Apart g h w w2))
  clear kA
  by_cases hroom : l < 162
  · rw [if_pos (by omega)]
    have d1 : decide ((162 : Int) < (l : Int) + 1) = false := decide_eq_false (by omega)
    go_enter Tryd.func49, Tryd.ntmps49
    go_wp2_with (at_builtin; refine wpList_append_own_spare (o := ⟨some 11, _, _, _, _, _⟩) _ rfl (.tmp 8) (.tmp 10) 22 rfl h 5 i0 1 Tryd.underlying22 hi hz1 h l 163 (xs.map nU8) rfl HOW.out ⟨w.heap.size, 0, none⟩ 1 1 [nU8 y] rfl rfl (fun j u hj => by rcases j with _ | j <;> simp at hj; subst hj; exact HAT.out 0 (by simp)) (fun u hu => by simp at hu; subst hu; rfl) (by omega) ?_; intro w2 ho2 hg2; obtain ⟨b0, b1, b2, bf⟩ := G0.out w2 hg2; clear c0 c1 c2 fr)
    have Y : ScAt (w2.setCell ⟨g, 1, none⟩ (.slice (some ⟨h, 0, none⟩) (l + 1) 163)) g h ⟨true, xs ++ [y], b⟩ := by
      have e1 : (xs ++ [y]).length = l + 1 := by simp [hxl]
      refine ⟨cell_else (by decide) b0 _, ?_, cell_else (by decide) b2 _, fun j => by rw [World.frozen?_setCell]; exact bf j, ?_, NE⟩
      · show World.cell? _ _ = some (Value.slice (some ⟨h, 0, none⟩) (xs ++ [y]).length 163)
        rw [e1]; exact cell_put b1 _
      · show Own h _ (Value.slice (some ⟨h, 0, none⟩) (xs ++ [y]).length 163) (xs ++ [y]).length (xs ++ [y])
        rw [e1]
        refine own_blk (w := w2) ?_ (heap_else NE _)
        have h := ho2
        rw [show [nU8 y] = [y].map nU8 from rfl, ← List.map_append] at h
        exact h
    go_end0
    exact ⟨rfl, Y, (GK.out w2 hg2).setCell 1 _⟩
  · rw [if_neg (by omega)]
    have d1 : decide ((162 : Int) < (l : Int) + 1) = true := decide_eq_true (by omega)
    go_enter Tryd.func49, Tryd.ntmps49
    go_wp2_with (at_builtin; refine wpList_append_own_spare (o := ⟨some 11, _, _, _, _, _⟩) _ rfl (.tmp 8) (.tmp 10) 22 rfl h 5 i0 1 Tryd.underlying22 hi hz1 h l 163 (xs.map nU8) rfl HOW.out ⟨w.heap.size, 0, none⟩ 1 1 [nU8 y] rfl rfl (fun j u hj => by rcases j with _ | j <;> simp at hj; subst hj; exact HAT.out 0 (by simp)) (fun u hu => by simp at hu; subst hu; rfl) (by omega) ?_; intro w2 ho2 hg2; obtain ⟨b0, b1, b2, bf⟩ := G0.out w2 hg2; clear c0 c1 c2 fr)
    have Y : ScAt (w2.setCell ⟨g, 1, none⟩ (.slice (some ⟨h, 0, none⟩) (l + 1) 163)) g h ⟨true, xs ++ [y], b⟩ := by
      have e1 : (xs ++ [y]).length = l + 1 := by simp [hxl]
      refine ⟨cell_else (by decide) b0 _, ?_, cell_else (by decide) b2 _, fun j => by rw [World.frozen?_setCell]; exact bf j, ?_, NE⟩
      · show World.cell? _ _ = some (Value.slice (some ⟨h, 0, none⟩) (xs ++ [y]).length 163)
        rw [e1]; exact cell_put b1 _
      · show Own h _ (Value.slice (some ⟨h, 0, none⟩) (xs ++ [y]).length 163) (xs ++ [y]).length (xs ++ [y])
        rw [e1]
        refine own_blk (w := w2) ?_ (heap_else NE _)
        have h := ho2
        rw [show [nU8 y] = [y].map nU8 from rfl, ← List.map_append] at h
        exact h
    refine (discard_any g h _ hb _ Y).mono ?_
    rintro e w3 ⟨rfl, x3, ap⟩
    clear b0 b1 b2 bf
    go_wp2_with fail
    go_end0
    exact ⟨rfl, x3, ((GK.out w2 hg2).setCell 1 _).trans ap⟩
end Go.Proofs.YthfoakomapmkeaaDoor
