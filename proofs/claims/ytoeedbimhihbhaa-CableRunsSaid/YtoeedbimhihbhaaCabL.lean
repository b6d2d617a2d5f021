/- Tick. -/
import Derived.Test.YtoeedbimhihbhaaCabK
namespace Go.Proofs.Ytoeedbimhihbhaa
open Go.RowKit

/-- The slice of a transmission's symbols. -/
abbrev slV (f : Fl) : Value := .slice f.a f.xs.length f.c
theorem Try.infoSl : (Try.prog.info? 36).map (fun i => (i.zero, i.size, i.bytes)) = some (some (.slice none 0 0), 1, 24) := by kernel_rfl
theorem slV_one (l : List Fl) : ∀ u ∈ l.map slV, u.oneCell' = true := by
  intro u hu
  obtain ⟨f, _, rfl⟩ := List.mem_map.1 hu
  rfl
/-- How many transmissions arrive. -/
def due (l : List Fl) (t : Nat) : Nat := (l.takeWhile fun f => decide (f.t ≤ t)).length
theorem due_le (l : List Fl) (t : Nat) : due l t ≤ l.length := by
  unfold due
  exact (List.takeWhile_prefix _).length_le
theorem due_stop : ∀ (l : List Fl) (t k : Nat) (h : k < l.length), (∀ i (hi : i < k), l[i].t ≤ t) → t < l[k].t → due l t = k
  | f :: r, t, 0, _, _, h2 => by
    have : decide (f.t ≤ t) = false := decide_eq_false (by have h2 : t < f.t := h2; omega)
    unfold due; simp [this]
  | f :: r, t, k + 1, h, h1, h2 => by
    have h0 : decide (f.t ≤ t) = true := decide_eq_true (h1 0 (by omega))
    have := due_stop r t k (by simpa using h) (fun i hi => h1 (i + 1) (by omega)) h2
    unfold due at this ⊢
    rw [List.takeWhile_cons, if_pos h0, List.length_cons, this]
theorem due_all : ∀ (l : List Fl) (t : Nat), (∀ i (hi : i < l.length), l[i].t ≤ t) → due l t = l.length
  | [], _, _ => rfl
  | f :: r, t, h => by
    have h0 : decide (f.t ≤ t) = true := decide_eq_true (h 0 (by simp))
    have := due_all r t (fun i hi => h (i + 1) (by simpa using hi))
    unfold due at this ⊢
    rw [List.takeWhile_cons, if_pos h0, List.length_cons, this, List.length_cons]

theorem drewN_below (w : World) (k : Nat) : Below w.heap.size w (w.drewN k) := ⟨rfl, rfl, rfl, Nat.le_refl _, fun _ _ => rfl⟩
theorem below_ada (w : World) (o o' : Obj) (k : Nat) : Below w.heap.size w (((w.alloc o).drewN k).alloc o') := by
  have h1 : Below w.heap.size w (w.alloc o) := (Below.refl _ _).alloc (Nat.le_refl _) _
  have h2 : Below w.heap.size w ((w.alloc o).drewN k) := h1.trans ((drewN_below _ _).mono h1.size)
  exact h2.alloc h2.size _

theorem tick_nil (w : World) :
    Calls Try.prog 22 #[.pointer none] w fun e w' => e = .returned (.slice none 0 0) ∧ w = w' := by
  go_enter Try.func22, Try.ntmps22
  go_wp2_with fail
  go_ret
  exact ⟨rfl, rfl⟩

/-- A cable of whose row the first transmissions were deleted, and the row's value stored. -/
theorem CabAt.dropped {B : Nat} {Z : Nat → Prop} {w w4 w5 : World} {g h n cap k : Nat} {s : Cab} (x : CabAt B Z w g (.slice (some ⟨h, 0, none⟩) n cap) s) (hg : w.grownBy w4 (some h))
    (hrow : w4.ownsRow B 70 2 (.slice (some ⟨h, 0, none⟩) (n - k) cap) (n - k) (flCells (s.fl.drop k))) (hn : s.fl.length = n) (hw5 : w5 = w4.setCell ⟨g, 5, none⟩ (.slice (some ⟨h, 0, none⟩) (n - k) cap)) :
    CabAt B Z w5 g (.slice (some ⟨h, 0, none⟩) (n - k) cap) ⟨s.d, s.fa, s.fc, s.fs, s.up, s.time, s.sent, s.fl.drop k, s.lost⟩ := by
  subst hw5
  have hgh : g ≠ h := fun e => x.ne (by rw [e]; rfl)
  have hgv : some g ≠ some h := fun e => hgh (Option.some.inj e)
  have q : ∀ j u, w.cell? ⟨g, j, none⟩ = some u → w4.cell? ⟨g, j, none⟩ = some u := fun j u h => hg.cell h hgv
  have hblk : ∀ k', k' < w.heap.size → k' ≠ g → k' ≠ h → (w4.setCell ⟨g, 5, none⟩ (.slice (some ⟨h, 0, none⟩) (n - k) cap)).heap[k']? = w.heap[k']? := fun k' h1 h2 h3 => by
    rw [heap_else (fun e => h2 e.symm)]; exact hg.block k' h1 (fun e => h3 (Option.some.inj e))
  refine ⟨cell_else (by decide) (q _ _ x.c0) _, cell_else (by decide) (q _ _ x.c1) _, cell_else (by decide) (q _ _ x.c2) _, cell_else (by decide) (q _ _ x.c3) _, cell_else (by decide) (q _ _ x.c4) _, cell_put (q _ _ x.c5) _, cell_else (by decide) (q _ _ x.c6) _,
    fun j => ?_, ?_, x.ne, fun f hf => ?_, x.fts.same (fun hx p hp => ?_), x.ftn, x.hB, x.gz, x.vz, x.asc, x.args, x.fsl, ?_⟩
  · rw [World.frozen?_setCell]
    exact (World.frozen?_of_block (a := ⟨g, j, none⟩) (hg.block g x.lt hgv)).trans (x.fr j)
  · show World.ownsRow _ B _ 2 _ (s.fl.drop k).length (flCells (s.fl.drop k))
    rw [List.length_drop, hn]
    exact row_same hrow (fun q hq => heap_else (fun e => x.ne (hq.trans (by rw [e]))) _)
  · have y := x.syms f (List.mem_of_mem_drop hf)
    exact y.keep (fun k' h1 h2 => hblk k' h1 (fun e => h2 (.inr (.inl e))) (fun e => h2 (.inr (.inr (by rw [e]; rfl)))))
  · have hlt : p.block < w.heap.size := by have := x.fts; rw [hp] at this; exact this.lt hx
    exact hblk _ hlt (fun e => x.ftn hx p hp (.inr (.inl e))) (fun e => x.ftn hx p hp (.inr (.inr (by rw [e]; rfl))))
  · have := x.fll
    show (s.fl.drop k).length ≤ 64
    rw [List.length_drop]; omega

theorem CabAt.dropped_syms {B : Nat} {Z : Nat → Prop} {w w4 : World} {g h n cap : Nat} {s : Cab} (u : Value) (x : CabAt B Z w g (.slice (some ⟨h, 0, none⟩) n cap) s) (hg : w.grownBy w4 (some h)) :
    ∀ f ∈ s.fl, SymIn (fun k => Z k ∨ k = g ∨ (some h : Option Nat) = some k) (w4.setCell ⟨g, 5, none⟩ u) f.a f.c f.xs := fun f hf =>
  (x.syms f hf).keep (fun k' h1 h2 => by
    have hkg : k' ≠ g := fun e => h2 (.inr (.inl e))
    have hkh : k' ≠ h := fun e => h2 (.inr (.inr (by rw [e]; rfl)))
    rw [heap_else (fun e => hkg e.symm)]
    exact hg.block k' h1 (fun e => hkh (Option.some.inj e)))

set_option maxRecDepth 100000 in
set_option maxHeartbeats 8000000 in
theorem tick_any (B : Nat) (Z : Nat → Prop) (g : Nat) (v : Value) (s : Cab) (w : World) (x : CabAt B Z w g v s) (ht : s.time < 1000000) :
    Calls Try.prog 22 #[.pointer (some ⟨g, 0, none⟩)] w fun e w' => ∃ v' a c, e = .returned (.slice a (due s.fl (s.time + 1)) c) ∧ w'.ownsRow w.heap.size 36 1 (.slice a (due s.fl (s.time + 1)) c) (due s.fl (s.time + 1)) ((s.fl.take (due s.fl (s.time + 1))).map slV)
      ∧ CabAt B Z w' g v' ⟨s.d, s.fa, s.fc, s.fs, s.up, s.time + 1, s.sent, s.fl.drop (due s.fl (s.time + 1)), s.lost⟩ ∧ Steps g v v' w w' ∧ (v'.ownBlock = v.ownBlock) ∧ ∀ f ∈ s.fl, SymIn (fun k => Z k ∨ k = g ∨ v'.ownBlock = some k) w' f.a f.c f.xs := by
  obtain ⟨K, hK⟩ : ∃ K, due s.fl (s.time + 1) = K := ⟨_, rfl⟩
  have HK := box hK
  rw [hK]
  clear hK
  obtain ⟨va, vc, rfl⟩ : ∃ a c, v = .slice a s.fl.length c := by
    rcases row_form x.row with ⟨h, h0, _⟩ | ⟨g', c, h, _⟩
    · exact ⟨none, 0, by rw [h, h0]⟩
    · exact ⟨_, c, h⟩
  have X := box x
  obtain ⟨c0, c1, c2, c3, c4, c5, c6, fr, _, _, _, _, _, _, _, _, _, _, _, _⟩ := x
  have X1 := box (X.out.mod (w' := w.setCell ⟨g, 3, none⟩ (.int .i64 ((s.time : Int) + 1))) (fun k hk => heap_else (fun e => hk e.symm) _) (up := s.up) (time := s.time + 1) (sent := s.sent) (lost := s.lost) (cell_else (by decide) c0 _) (cell_else (by decide) c1 _) (cell_else (by decide) c2 _) (by rw [show ((s.time + 1 : Nat) : Int) = (s.time : Int) + 1 by push_cast; rfl]; exact cell_put c3 _) (cell_else (by decide) c4 _) (cell_else (by decide) c5 _) (cell_else (by decide) c6 _) (fr_put fr _ _))
  have S1 := box (show Steps g (.slice va s.fl.length vc) (.slice va s.fl.length vc) w (w.setCell ⟨g, 3, none⟩ (.int .i64 ((s.time : Int) + 1))) from ⟨(Apart.refl _ _ _).setCell 3 _, fun _ h => .inl h⟩)
  have HSZ := box (show (w.setCell ⟨g, 3, none⟩ (.int .i64 ((s.time : Int) + 1))).heap.size = w.heap.size from World.size_setCell _ _ _)
  go_enter Try.func22, Try.ntmps22
  go_upto_region 4 with fail
  generalize w.setCell ⟨g, 3, none⟩ (.int .i64 ((s.time : Int) + 1)) = w1 at X1 S1 HSZ ⊢
  clear c0 c1 c2 c3 c4 c5 c6 fr
  obtain ⟨c0, c1, c2, c3, c4, c5, c6, fr, _, _, _, _, _, _, _, _, _, _, _, _⟩ := X1.out
  simp only at c0 c1 c2 c3 c4 c5 c6
  obtain ⟨l, hl⟩ : ∃ l, s.fl.length = l := ⟨_, rfl⟩
  rw [hl] at c5
  have HL := box hl
  obtain ⟨i0, hi0, hz0, hz1, hz2⟩ := info_parts Try.infoSl
  obtain ⟨T, hT⟩ : ∃ T, s.time + 1 = T := ⟨_, rfl⟩
  have HT := box hT
  rw [hT] at c3
  have HL64 := box (show l ≤ 64 by rw [← hl]; exact X.out.fll)
  go_wp2_with fail
  clear hl c0 c1 c2 c4 c6 hT
  go_loopw [3, 20] (fun t3 t20 wr => ∃ (k : Nat) (ra : Option Addr) (rc : Nat), k ≤ l ∧ t20 = .int .i64 k ∧ t3 = .slice ra k rc ∧ Box (∀ i (hi : i < s.fl.length), i < k → s.fl[i].t ≤ T) ∧ Box (wr.ownsRow w.heap.size 36 1 (.slice ra k rc) k ((s.fl.take k).map slV)) ∧ Box (Below w.heap.size w1 wr)) (fun _ t20 _ => l - (intOf t20).toNat)
  case atStart => exact ⟨0, none, 0, by omega, rfl, rfl, box (fun i hi h => by omega), box (by simpa using World.ownsRow_nil w1 w.heap.size 36 1), box (Below.refl _ _)⟩
  case round =>
    obtain ⟨k, ra, rc, hk, rfl, rfl, hdue, hrow, hbel⟩ := hrel
    have hl64 := HL64.out
    have XR := box (X1.out.keep (show Below w1.heap.size w1 wr by rw [HSZ.out]; exact hbel.out))
    have hszr : w.heap.size ≤ wr.heap.size := by have := hbel.out.size; rw [HSZ.out] at this; exact this
    by_cases hlt : k < l
    · obtain ⟨h, hva, hlv⟩ : ∃ h, va = some ⟨h, 0, none⟩ ∧ h < w.heap.size := by
        rcases row_form X.out.row with ⟨hh, hn, _⟩ | ⟨g', c', hh, _, h3, _⟩
        · have := HL.out; omega
        · cases hh; exact ⟨g', rfl, h3⟩
      subst hva
      have HF := box (show ∃ f, s.fl[k]'(by have := HL.out; omega) = f from ⟨_, rfl⟩)
      obtain ⟨f, hf⟩ := HF.out
      obtain ⟨p0, p1⟩ := flCells_get s.fl k (by have := HL.out; omega)
      rw [hf] at p0 p1
      have HFF := box hf
      have x0 : wr.cell? ⟨h, k * 2, none⟩ = some (.slice f.a f.xs.length f.c) := by
        have := XR.out.row.cellAt (k * 2) (by show k * 2 < s.fl.length * 2; have := HL.out; omega)
        rw [this]; exact p0
      have x1 : wr.cell? ⟨h, k * 2 + 1, none⟩ = some (.int .i64 f.t) := by
        have := XR.out.row.cellAt (k * 2 + 1) (by show k * 2 + 1 < s.fl.length * 2; have := HL.out; omega)
        rw [this]; exact p1
      have lx : h < wr.heap.size := by omega
      obtain ⟨fn, hfn⟩ : ∃ fn, f.xs.length = fn := ⟨_, rfl⟩
      have HFN := box hfn
      rw [hfn] at x0
      have c3r : wr.cell? ⟨g, 3, none⟩ = some (.int .i64 T) := by have := XR.out.c3; simp only [HT.out] at this; exact this
      have c3a : (wr.alloc (.cells #[.slice f.a fn f.c, .int .i64 f.t] 70)).cell? ⟨g, 3, none⟩ = some (.int .i64 T) := keepa _ c3r
      clear HF hf hfn p0 p1 c3 c5 fr
      by_cases hd : f.t ≤ T
      · have hd1 : decide (T < f.t) = false := decide_eq_false (by omega)
        have HD := box hd
        clear hd
        go_wp2_with fail
        go_quiet (fail)
        have kA : Below wr.heap.size wr (((wr.alloc (.cells #[.slice f.a fn f.c, .int .i64 f.t] 70)).drewN nq).alloc (.cells #[.slice f.a fn f.c] 36)) := below_ada _ _ _ _
        have HROW := box (row_below hrow.out kA)
        have KA := box kA
        have HCELL := box (show ∀ j u, ([.slice f.a fn f.c] : List Value)[j]? = some u → (((wr.alloc (.cells #[.slice f.a fn f.c, .int .i64 f.t] 70)).drewN nq).alloc (.cells #[.slice f.a fn f.c] 36)).cell? ((⟨wr.heap.size + 1, 0, none⟩ : Addr).add j) = some u from by
          have h := cell_one_new ((wr.alloc (.cells #[.slice f.a fn f.c, .int .i64 f.t] 70)).drewN nq) (.slice f.a fn f.c) 36
          rw [show ((wr.alloc (.cells #[.slice f.a fn f.c, .int .i64 f.t] 70)).drewN nq).heap.size = wr.heap.size + 1 from size_alloc' wr _] at h
          exact h)
        have HB2 := box (show w.heap.size ≤ (((wr.alloc (.cells #[.slice f.a fn f.c, .int .i64 f.t] 70)).drewN nq).alloc (.cells #[.slice f.a fn f.c] 36)).heap.size from Nat.le_trans hszr kA.size)
        clear kA
        go_wp2_with (at_builtin; go_loud (refine wpList_append_own_at (o := ⟨some 35, _, _, _, _, _⟩) _ rfl (.tmp 31) (.tmp 34) 42 rfl w.heap.size 36 i0 (.slice none 0 0) 1 24 Try.underlying42 hi0 hz0 hz1 hz2 rfl (by decide) (.slice ra k rc) k ((s.fl.take k).map slV) rfl HROW.out ⟨wr.heap.size + 1, 0, none⟩ 1 1 [.slice f.a fn f.c] rfl rfl HCELL.out (fun u hu => by simp at hu; subst hu; rfl) (by have := HL64.out; unfold maxLen; omega) (by have := HL64.out; omega) HB2.out ?_); intro v4 w4 ho4 hg4 _ _)
        have HG4 := box hg4
        have HO4 := box ho4
        obtain ⟨ra4, rc4, hv4⟩ : ∃ a c, v4 = .slice a (k + 1) c := by
          rcases row_form ho4 with ⟨h, h0, _⟩ | ⟨g', c, h, _⟩
          · exact ⟨none, 0, by rw [h, h0]⟩
          · exact ⟨_, c, h⟩
        subst hv4
        clear ho4 hg4
        go_wp2_with fail
        go_roundw
        case rel =>
          refine ⟨k + 1, ra4, rc4, by omega, by go_num, rfl, box (fun i hi hik => ?_), box ?_, box (own_below HROW.out (Nat.le_refl _) (hbel.out.trans (KA.out.mono hszr)) HB2.out HG4.out)⟩
          · rcases Nat.lt_or_ge i k with h1 | h1
            · exact hdue.out i hi h1
            · obtain rfl : i = k := by omega
              rw [HFF.out]; exact HD.out
          · rw [List.take_add_one, List.getElem?_eq_getElem (show k < s.fl.length by have := HL.out; omega), HFF.out, Option.toList_some, List.map_append]
            have h := HO4.out
            rw [← HFN.out] at h
            exact h
        case measure => simp [intOf]; omega
      · have hd1 : decide (T < f.t) = true := decide_eq_true (by omega)
        have HD := box (show T < f.t by omega)
        clear hd
        go_wp2_with fail
        go_quiet (fail)
        have kA : Below wr.heap.size wr ((wr.alloc (.cells #[.slice f.a fn f.c, .int .i64 f.t] 70)).drewN nq) := by
          have h1 : Below wr.heap.size wr (wr.alloc (.cells #[.slice f.a fn f.c, .int .i64 f.t] 70)) := (Below.refl _ _).alloc (Nat.le_refl _) _
          exact h1.trans ((drewN_below _ _).mono h1.size)
        have XW := box (XR.out.keep kA)
        have RW := box (row_below hrow.out kA)
        have BW := box (hbel.out.trans (kA.mono hszr))
        clear kA x0 x1 c3r c3a
        generalize (wr.alloc (.cells #[.slice f.a fn f.c, .int .i64 f.t] 70)).drewN nq = W at XW RW BW ⊢
        have HT2 := HT.out
        subst HT2
        have hKK : K = k := by rw [← HK.out]; exact due_stop s.fl (s.time + 1) k (by have := HL.out; omega) (fun i hi => hdue.out i (by have := HL.out; omega) hi) (by rw [HFF.out]; exact HD.out)
        subst hKK
        clear HK
        obtain ⟨c0, c1, c2, c3, c4, c5, c6, fr, _, _, _, _, _, _, _, _, _, _, _, _⟩ := XW.out
        simp only at c0 c1 c2 c3 c4 c5 c6
        rcases Nat.eq_zero_or_pos K with h0 | h0
        · subst h0
          have C5 := box c5
          rw [HL.out] at c5
          have hlv : l ≤ vc ∧ vc ≤ maxLen := by
            have h := row_form XW.out.row
            rcases h with ⟨h, hn, _⟩ | ⟨g', c', h, _, _, h1, h2, _⟩
            · have e3 : vc = 0 := by injection h
              have hn : s.fl.length = 0 := hn
              have := HL.out
              rw [e3]
              exact ⟨by omega, Nat.zero_le _⟩
            · have e3 : vc = c' := by injection h
              have h1 : s.fl.length ≤ c' := h1
              rw [← HL.out, e3]; exact ⟨h1, h2⟩
          have DN := box (delete_none (some ⟨h, 0, none⟩) l vc hlv.1 hlv.2 W)
          go_wp2_with fail
          refine DN.out.mono ?_
          rintro e w5 ⟨rfl, hw5⟩
          replace hw5 := hw5.symm
          subst hw5
          go_wp2_with fail
          go_ret
          have X5 := XW.out.mod (w' := W.setCell ⟨g, 5, none⟩ (.slice (some ⟨h, 0, none⟩) l vc)) (fun k hk => heap_else (fun e => hk e.symm) _) (up := s.up) (time := s.time + 1) (sent := s.sent) (lost := s.lost) (cell_else (by decide) c0 _) (cell_else (by decide) c1 _) (cell_else (by decide) c2 _) (cell_else (by decide) c3 _) (cell_else (by decide) c4 _) (by rw [HL.out]; exact cell_put C5.out _) (cell_else (by decide) c6 _) (fr_put fr _ _)
          refine ⟨.slice (some ⟨h, 0, none⟩) s.fl.length vc, ra, rc, rfl, row_same RW.out (fun b hb => heap_else (fun e => ?_) _), X5, ⟨((S1.out.apart.trans (Apart.ofBelow (BW.out.mono (by rw [HSZ.out]; exact Nat.le_refl _)))).setCell 5 _), fun _ h => .inl h⟩, rfl, X5.syms⟩
          have h1 := (row_blk RW.out b hb).1
          have h2 := X.out.lt
          omega
        · skip
          have C5 := box c5
          rw [HL.out] at c5
          have ROW := box (show W.ownsRow B 70 2 (.slice (some ⟨h, 0, none⟩) l vc) l (flCells s.fl) by have h := XW.out.row; simp only [HL.out] at h; exact h)
          have DS := box (delete_some B h l vc K s.fl HL.out h0 (by omega) HL64.out W ROW.out)
          have hgh : g ≠ h := fun e => XW.out.ne (by rw [e]; rfl)
          go_wp2_with fail
          refine DS.out.mono ?_
          rintro e w5 ⟨rfl, hrow5, hg5⟩
          have R5 := box hrow5
          have G5 := box hg5
          have e5 := hg5.cell c5 (fun e => hgh (Option.some.inj e))
          have f5 : ∀ j, w5.frozen? ⟨g, j, none⟩ = false := fun j => (World.frozen?_of_block (a := ⟨g, j, none⟩) (hg5.block g XW.out.lt (fun e => hgh (Option.some.inj e)))).trans (fr j)
          clear hrow5 hg5 c0 c1 c2 c3 c4 c5 c6 fr
          go_wp2_with fail
          go_ret
          have XL := XW.out
          rw [HL.out] at XL
          refine ⟨.slice (some ⟨h, 0, none⟩) (l - K) vc, ra, rc, rfl, row_same RW.out (fun b hb => ?_), XL.dropped G5.out R5.out HL.out rfl, ⟨(((S1.out.apart.trans (Apart.ofBelow (BW.out.mono (by rw [HSZ.out]; exact Nat.le_refl _)))).trans (Apart.ofGrown G5.out)).setCell 5 _), fun _ h => .inl h⟩, rfl, XL.dropped_syms _ G5.out⟩
          have h1 := (row_blk RW.out b hb)
          have h2 := X.out.lt
          rw [heap_else (by omega)]
          exact G5.out.block b h1.2 (fun e => by have := Option.some.inj e; omega)
    · have dkl : decide (k < l) = false := decide_eq_false (by omega)
      have HKL := box (show k = l by omega)
      clear c3 c5 fr
      have XW := XR
      have RW := hrow
      have BW := hbel
      have HT2 := HT.out
      subst HT2
      have hKK : K = k := by rw [← HK.out]; rw [due_all s.fl (s.time + 1) (fun i hi => hdue.out i hi (by have := HL.out; omega)), HL.out, HKL.out]
      subst hKK
      clear HK
      obtain ⟨c0, c1, c2, c3, c4, c5, c6, fr, _, _, _, _, _, _, _, _, _, _, _, _⟩ := XW.out
      simp only at c0 c1 c2 c3 c4 c5 c6
      rcases Nat.eq_zero_or_pos K with h0 | h0
      · subst h0
        have C5 := box c5
        rw [HL.out] at c5
        have hlv : l ≤ vc ∧ vc ≤ maxLen := by
          have h := row_form XW.out.row
          rcases h with ⟨h, hn, _⟩ | ⟨g', c', h, _, _, h1, h2, _⟩
          · have e3 : vc = 0 := by injection h
            have hn : s.fl.length = 0 := hn
            have := HL.out
            rw [e3]
            exact ⟨by omega, Nat.zero_le _⟩
          · have e3 : vc = c' := by injection h
            have h1 : s.fl.length ≤ c' := h1
            rw [← HL.out, e3]; exact ⟨h1, h2⟩
        have DN := box (delete_none va l vc hlv.1 hlv.2 wr)
        go_wp2_with fail
        refine DN.out.mono ?_
        rintro e w5 ⟨rfl, hw5⟩
        replace hw5 := hw5.symm
        subst hw5
        go_wp2_with fail
        go_ret
        have X5 := XW.out.mod (w' := wr.setCell ⟨g, 5, none⟩ (.slice va l vc)) (fun k hk => heap_else (fun e => hk e.symm) _) (up := s.up) (time := s.time + 1) (sent := s.sent) (lost := s.lost) (cell_else (by decide) c0 _) (cell_else (by decide) c1 _) (cell_else (by decide) c2 _) (cell_else (by decide) c3 _) (cell_else (by decide) c4 _) (by rw [HL.out]; exact cell_put C5.out _) (cell_else (by decide) c6 _) (fr_put fr _ _)
        refine ⟨.slice va s.fl.length vc, ra, rc, rfl, row_same RW.out (fun b hb => heap_else (fun e => ?_) _), X5, ⟨((S1.out.apart.trans (Apart.ofBelow (BW.out.mono (by rw [HSZ.out]; exact Nat.le_refl _)))).setCell 5 _), fun _ h => .inl h⟩, rfl, X5.syms⟩
        have h1 := (row_blk RW.out b hb).1
        have h2 := X.out.lt
        omega
      · obtain ⟨h, hva, hlv⟩ : ∃ h, va = some ⟨h, 0, none⟩ ∧ h < w.heap.size := by
          rcases row_form X.out.row with ⟨hh, hn, _⟩ | ⟨g', c', hh, _, h3, _⟩
          · have := HL.out; omega
          · cases hh; exact ⟨g', rfl, h3⟩
        subst hva
        have C5 := box c5
        rw [HL.out] at c5
        have ROW := box (show wr.ownsRow B 70 2 (.slice (some ⟨h, 0, none⟩) l vc) l (flCells s.fl) by have h := XW.out.row; simp only [HL.out] at h; exact h)
        have DS := box (delete_some B h l vc K s.fl HL.out h0 (by omega) HL64.out wr ROW.out)
        have hgh : g ≠ h := fun e => XW.out.ne (by rw [e]; rfl)
        go_wp2_with fail
        refine DS.out.mono ?_
        rintro e w5 ⟨rfl, hrow5, hg5⟩
        have R5 := box hrow5
        have G5 := box hg5
        have e5 := hg5.cell c5 (fun e => hgh (Option.some.inj e))
        have f5 : ∀ j, w5.frozen? ⟨g, j, none⟩ = false := fun j => (World.frozen?_of_block (a := ⟨g, j, none⟩) (hg5.block g XW.out.lt (fun e => hgh (Option.some.inj e)))).trans (fr j)
        clear hrow5 hg5 c0 c1 c2 c3 c4 c5 c6 fr
        go_wp2_with fail
        go_ret
        have XL := XW.out
        rw [HL.out] at XL
        refine ⟨.slice (some ⟨h, 0, none⟩) (l - K) vc, ra, rc, rfl, row_same RW.out (fun b hb => ?_), XL.dropped G5.out R5.out HL.out rfl, ⟨(((S1.out.apart.trans (Apart.ofBelow (BW.out.mono (by rw [HSZ.out]; exact Nat.le_refl _)))).trans (Apart.ofGrown G5.out)).setCell 5 _), fun _ h => .inl h⟩, rfl, XL.dropped_syms _ G5.out⟩
        have h1 := (row_blk RW.out b hb)
        have h2 := X.out.lt
        rw [heap_else (by omega)]
        exact G5.out.block b h1.2 (fun e => by have := Option.some.inj e; omega)
end Go.Proofs.Ytoeedbimhihbhaa
