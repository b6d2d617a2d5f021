/- story: a giver and a taker. -/
import Derived.Test.YtoolphpideicoaaCreH
import Derived.Deep.CutBlock
import Derived.Deep.DeepCutAuto
namespace Go.Proofs.Ytoolphpideicoaa
open Go.RowKit

/-- What holds behind i events. -/
structure Inv (n i : Nat) (c : Gc) (t : Tc) (fly : Nat) (L : List Nat) : Prop where
  ok : c.Ok
  tok : t.Ok
  r : c.r = n
  vs : c.v + fly ≤ t.s
  tl : t.l ≤ c.lim
  lm : ∀ x ∈ L, x ≤ c.lim
  ne : 1 ≤ L.length
  len : L.length ≤ i + 1
  si : t.s ≤ i
section
variable {n i : Nat} {c : Gc} {t : Tc} {fly : Nat} {L : List Nat}
theorem Inv.next (h : Inv n i c t fly L) : Inv n (i + 1) c t fly L := ⟨h.ok, h.tok, h.r, h.vs, h.tl, h.lm, h.ne, by have := h.len; omega, by have := h.si; omega⟩
theorem Inv.take (h : Inv n i c t fly L) (hs : t.s < t.l) : Inv n (i + 1) c t.tkC (fly + 1) L ∧ t.tkE = 0 := by
  have e : t.tkC = ⟨t.l, t.s + 1⟩ := if_neg (by omega)
  refine ⟨⟨h.ok, h.tok.tk, h.r, ?_, ?_, h.lm, h.ne, by have := h.len; omega, ?_⟩, if_neg (by omega)⟩
  · rw [e]; have := h.vs; show c.v + (fly + 1) ≤ t.s + 1; omega
  · rw [e]; exact h.tl
  · rw [e]; have := h.si; show t.s + 1 ≤ i + 1; omega
theorem Inv.full (h : Inv n i c t fly L) (hs : ¬ t.s < t.l) : Inv n (i + 1) c t.tkC fly L ∧ t.tkE = 5 := by
  have e : t.tkC = t := if_pos (by omega)
  exact ⟨by rw [e]; exact h.next, if_pos (by omega)⟩
theorem Inv.recv (h : Inv n i c t (fly + 1) L) : Inv n (i + 1) c.recvC t fly L ∧ c.recvE = 0 := by
  have v := h.vs; have s := h.tok.sl; have l := h.tl
  obtain ⟨e1, e2⟩ := recv_ok c (by omega)
  have el : c.recvC.lim = c.lim := by rw [e2]; rfl
  exact ⟨⟨h.ok.recv, h.tok, by rw [e2]; exact h.r, by rw [e2]; show c.v + 1 + fly ≤ t.s; omega, by rw [el]; exact h.tl, by rw [el]; exact h.lm, h.ne, by have := h.len; omega, by have := h.si; omega⟩, e1⟩
theorem Inv.lost (h : Inv n i c t (fly + 1) L) : Inv n (i + 1) c t fly L := ⟨h.ok, h.tok, h.r, by have := h.vs; omega, h.tl, h.lm, h.ne, by have := h.len; omega, by have := h.si; omega⟩
theorem Inv.free (h : Inv n i c t fly L) : Inv n (i + 1) c.freeC t fly L := by
  have e : c.lim ≤ c.freeC.lim := by
    unfold Gc.freeC
    split
    · exact Nat.le_refl _
    · show min (c.r + c.f) LIM ≤ min (c.r + (c.f + 1)) LIM; omega
  have er : c.freeC.r = c.r ∧ c.freeC.v = c.v := by unfold Gc.freeC; split <;> exact ⟨rfl, rfl⟩
  exact ⟨h.ok.free, h.tok, er.1.trans h.r, by rw [er.2]; exact h.vs, Nat.le_trans h.tl e, fun x hx => Nat.le_trans (h.lm x hx) e, h.ne, by have := h.len; omega, by have := h.si; omega⟩
theorem Inv.note (h : Inv n i c t fly L) : Inv n (i + 1) c t fly (L ++ [c.lim]) :=
  ⟨h.ok, h.tok, h.r, h.vs, h.tl, fun x hx => by rcases List.mem_append.1 hx with hx | hx
                                                · exact h.lm x hx
                                                · simp at hx; omega, by simp, by have := h.len; simp; omega, by have := h.si; omega⟩
theorem rsC_nat (t : Tc) (x : Nat) (h : x ≤ LIM) : t.rsC x = ⟨max t.l x, t.s⟩ ∧ Tc.rsE x = 0 := by
  unfold LIM at h
  have hn : ¬ ((x : Int) < 0 ∨ 1099511627776 < (x : Int)) := by omega
  exact ⟨by unfold Tc.rsC; rw [if_neg hn]; rfl, if_neg hn⟩
theorem Inv.hear (h : Inv n i c t fly L) {x : Nat} (hx : x ∈ L) : Inv n (i + 1) c (t.rsC x) fly L := by
  have h1 := h.lm x hx
  have h2 : c.lim ≤ LIM := Nat.min_le_right _ _
  have e := (rsC_nat t x (by omega)).1
  exact ⟨h.ok, h.tok.rs _, h.r, by rw [e]; exact h.vs, by rw [e]; have := h.tl; show max t.l x ≤ c.lim; omega, h.lm, h.ne, by have := h.len; omega, by rw [e]; have := h.si; show t.s ≤ i + 1; omega⟩
theorem Inv.aud (h : Inv n i c t 0 L) : Inv n (i + 1) (c.audC t.s) t 0 L ∧ c.audE t.s = 0 := by
  have v := h.vs; have s := h.tok.sl; have l := h.tl
  obtain ⟨e1, e2, e3⟩ := aud_eq c t.s (t.s - c.v) (by omega) (by omega)
  have el : c.lim ≤ (c.audC t.s).lim := by rw [e3]; show min (c.r + c.f) LIM ≤ min (c.r + (c.f + (t.s - c.v))) LIM; omega
  exact ⟨⟨h.ok.aud _, h.tok, by rw [e3]; exact h.r, by rw [e3]; show c.v + (t.s - c.v) + 0 ≤ t.s; omega, Nat.le_trans h.tl el, fun x hx => Nat.le_trans (h.lm x hx) el, h.ne, by have := h.len; omega, by have := h.si; omega⟩, e2⟩
end

/-- The story in memory. -/
structure StAt (B D : Nat) (w0 w : World) (g h : Nat) (c : Gc) (gt ht : Nat) (t : Tc) (vl : Value) (L : List Nat) : Prop where
  xg : GvAt w g h [c]
  xt : TkAt w gt ht [t]
  row : w.ownsRow D 3 1 vl L.length (L.map (fun x : Nat => Value.int .i64 (x : Int)))
  bel : Below B w0 w
  sz : D ≤ w.heap.size
  bd : B ≤ D
  bh : B ≤ h
  bt : B ≤ ht
  dg : g < D
  dh : h < D
  dgt : gt < D
  dht : ht < D
  n1 : gt ≠ h
  n2 : ht ≠ h
  n3 : g ≠ ht
section
variable {B D : Nat} {w0 w w' : World} {g h : Nat} {c c' : Gc} {gt ht : Nat} {t t' : Tc} {vl vl' : Value} {L : List Nat}
theorem StAt.keep (x : StAt B D w0 w g h c gt ht t vl L) (b : Below w.heap.size w w') : StAt B D w0 w' g h c gt ht t vl L :=
  ⟨x.xg.keep b, x.xt.keep b, row_below x.row b, x.bel.trans (b.mono (Nat.le_trans x.bd x.sz)), Nat.le_trans x.sz b.size, x.bd, x.bh, x.bt, x.dg, x.dh, x.dgt, x.dht, x.n1, x.n2, x.n3⟩
theorem StAt.giver (x : StAt B D w0 w g h c gt ht t vl L) (x' : GvAt w' g h ([c].set 0 c')) (a : Apart h none w w') : StAt B D w0 w' g h c' gt ht t vl L :=
  ⟨x', x.xt.apart a x.n1 x.n2, row_same x.row (fun k hk => a.block k (row_blk x.row k hk).2 (by have := (row_blk x.row k hk).1; have := x.dh; omega) (by simp)), a.below x.bel (Nat.le_trans x.bd x.sz) x.bh (fun k hk => by cases hk), Nat.le_trans x.sz a.size, x.bd, x.bh, x.bt, x.dg, x.dh, x.dgt, x.dht, x.n1, x.n2, x.n3⟩
theorem StAt.taker (x : StAt B D w0 w g h c gt ht t vl L) (x' : TkAt w' gt ht ([t].set 0 t')) (a : Apart ht none w w') : StAt B D w0 w' g h c gt ht t' vl L :=
  ⟨x.xg.apart a x.n3 (fun e => x.n2 e.symm), x', row_same x.row (fun k hk => a.block k (row_blk x.row k hk).2 (by have := (row_blk x.row k hk).1; have := x.dht; omega) (by simp)), a.below x.bel (Nat.le_trans x.bd x.sz) x.bt (fun k hk => by cases hk), Nat.le_trans x.sz a.size, x.bd, x.bh, x.bt, x.dg, x.dh, x.dgt, x.dht, x.n1, x.n2, x.n3⟩
theorem StAt.grow (x : StAt B D w0 w g h c gt ht t vl L) {y : Nat} (row : w'.ownsRow D 3 1 vl' (L.length + 1) ((L.map (fun x : Nat => Value.int .i64 (x : Int))) ++ [.int .i64 (y : Int)])) (gb : w.grownBy w' vl.ownBlock) : StAt B D w0 w' g h c gt ht t vl' (L ++ [y]) := by
  have hn : ∀ k, k < D → w'.heap[k]? = w.heap[k]? := fun k hk => gb.block k (Nat.lt_of_lt_of_le hk x.sz) (fun e => by have := (row_blk x.row k e.symm).1; omega)
  exact ⟨x.xg.same gb.size (hn g x.dg) (hn h x.dh), x.xt.same gb.size (hn gt x.dgt) (hn ht x.dht), by rw [List.length_append, List.map_append]; exact row, own_below x.row x.bd x.bel (Nat.le_trans x.bd x.sz) gb, Nat.le_trans x.sz gb.size, x.bd, x.bh, x.bt, x.dg, x.dh, x.dgt, x.dht, x.n1, x.n2, x.n3⟩
theorem StAt.at_ (x : StAt B D w0 w g h c gt ht t vl L) {q : Nat} (hq : q < L.length) : ∃ b k, vl = .slice (some ⟨b, 0, none⟩) L.length k ∧ w.cell? ⟨b, q, none⟩ = some (.int .i64 (L[q] : Int)) := by
  rcases row_form x.row with ⟨_, h0, _⟩ | ⟨b, k, e, _, _, _, _, hc⟩
  · omega
  · exact ⟨b, k, e, hc q _ (by simp [hq])⟩
end
theorem results_tmp4 {fn : Func} {t u v x : Tmp} (h : fn.results = #[.tmp t, .tmp u, .tmp v, .tmp x]) (tmps : Array Value) (P : Program) (w : World) :
    (results fn tmps).run P w = .ok (.tuple #[tmps.getD t undef, tmps.getD u undef, tmps.getD v undef, tmps.getD x undef]) w := by
  simp [results, h]
theorem Try.infoInt : (Try.prog.info? 3).map (fun i => (i.zero, i.size, i.bytes)) = some (some (.int .i64 0), 1, 8) := by kernel_rfl

set_option maxRecDepth 100000 in
set_option maxHeartbeats 8000000 in
theorem story_any (n : Nat) (h1 : 1 ≤ n) (h8 : n ≤ 8) (a : Option Addr) (m cp : Nat) (xs : List Nat) (hm : xs.length = m) (hx : ∀ x ∈ xs, x < 256) (h60 : m ≤ 60) (w : World) (hin : In w a xs) :
    Calls Try.prog 30 #[.int .i64 n, .slice a m cp] w fun e w' => ∃ D g h c gt ht t fly vl L, e = .returned (.tuple #[.pointer (some ⟨g, 0, none⟩), .pointer (some ⟨gt, 0, none⟩), .int .i64 (fly : Nat), .bool true]) ∧ Inv n m c t fly L ∧ StAt w.heap.size D w w' g h c gt ht t vl L := by
  obtain ⟨i9, hi9, hz9, hs9, hb9⟩ := info_parts Try.infoInt
  have NG := box (newg_lit (n : Int) (by omega) w)
  have HI := box hin
  have HX := box hx
  have HM := box hm
  clear hin hx hm
  go_enter Try.func30, Try.ntmps30
  go_wp2_with fail
  refine NG.out.mono ?_
  rintro e w1 ⟨g, h, rfl, xg, hg, hh, b1⟩
  have NT := box (newt_any 1 (by decide) (by decide) 1 rfl w1)
  have X1 := box (show GvAt w1 g h [⟨n, 0, 0⟩] from xg)
  have B1 := box (And.intro b1 (And.intro hg hh))
  clear NG xg hg hh b1
  go_wp2_with fail
  refine NT.out.mono ?_
  rintro e w2 ⟨gt, ht, rfl, xt, hgt, hht, b2⟩
  have X2 := box (X1.out.keep b2)
  have OK0 := box (show (⟨n, 0, 0⟩ : Gc).Ok from ⟨by show 1 ≤ n; omega, by show n ≤ 64; omega, Nat.le_refl _, Nat.zero_le _, Nat.zero_le _⟩)
  have LM := box (limit_b 0 0 rfl g h [⟨n, 0, 0⟩] w2 X2.out ⟨n, 0, 0⟩ rfl OK0.out)
  have T2 := box (And.intro (show TkAt w2 gt ht [⟨0, 0⟩] from xt) (And.intro hgt (And.intro hht b2)))
  clear NT xt hgt hht b2
  go_wp2_with fail
  refine LM.out.mono ?_
  rintro e w3 ⟨rfl, b3⟩
  have X3 := box (X2.out.keep b3)
  have T3 := box (T2.out.1.keep b3)
  have B3 := box (show Below w.heap.size w w3 ∧ w.heap.size ≤ w3.heap.size from by
    have k2 := B1.out.1.trans (T2.out.2.2.2.mono B1.out.1.size)
    exact ⟨k2.trans (b3.mono k2.size), Nat.le_trans k2.size b3.size⟩)
  obtain ⟨l0, hl0⟩ : ∃ l0, (⟨n, 0, 0⟩ : Gc).lim = l0 := ⟨_, rfl⟩
  have HL0 := box hl0
  rw [hl0]
  have kA : Below w3.heap.size w3 (w3.alloc (.cells #[.int .i64 (l0 : Int)] 3)) := (Below.refl _ _).alloc (Nat.le_refl _) _
  have ST0 := box (show StAt w.heap.size w3.heap.size w (w3.alloc (.cells #[.int .i64 (l0 : Int)] 3)) g h ⟨n, 0, 0⟩ gt ht ⟨0, 0⟩ (.slice (some ⟨w3.heap.size, 0, none⟩) 1 1) [l0] from by
    have p1 := X1.out.glt; have p2 := X1.out.lt; have p3 := T2.out.2.1; have p4 := T2.out.2.2.1
    exact ⟨X3.out.keep kA, T3.out.keep kA, World.ownsRow_lit w3 #[.int .i64 (l0 : Int)] 1 (Nat.le_refl _) (by unfold maxLen; omega) rfl, B3.out.1.trans (kA.mono B3.out.2), kA.size, B3.out.2, B1.out.2.2, Nat.le_trans B1.out.1.size T2.out.2.2.1, X3.out.glt, X3.out.lt, T3.out.glt, T3.out.lt, by omega, by omega, by omega⟩)
  have INV0 := box (show Inv n 0 ⟨n, 0, 0⟩ ⟨0, 0⟩ 0 [l0] from ⟨OK0.out, ⟨Nat.le_refl _, Nat.zero_le _⟩, rfl, Nat.le_refl _, Nat.zero_le _, fun x hx => by simp at hx; rw [hx, HL0.out]; exact Nat.le_refl _, Nat.le_refl _, Nat.le_refl _, Nat.le_refl _⟩)
  clear LM b3 hl0 kA X3 T3
  go_wp2_with fail
  generalize w3.alloc (.cells #[.int .i64 (l0 : Int)] 3) = wa at ST0 ⊢
  go_loopw [12, 13, 47] (fun t12 t13 t47 wr => ∃ (i : Nat) (c : Gc) (t : Tc) (fly : Nat) (L : List Nat), i ≤ m ∧ t47 = .int .i64 i ∧ t12 = .int .i64 (fly : Nat) ∧ Box (Inv n i c t fly L) ∧ Box (StAt w.heap.size w3.heap.size w wr g h c gt ht t t13 L)) (fun _ _ t47 _ => m - (intOf t47).toNat)
  case atStart => exact ⟨0, _, _, 0, _, by omega, rfl, rfl, INV0, ST0⟩
  case round =>
    clear ST0 INV0 X1 B1 X2 T2 B3 OK0
    obtain ⟨i, c, t, fly, L, hi, rfl, rfl, hI, hS⟩ := hrel
    by_cases him : i < m
    · obtain ⟨ad, rfl, cx⟩ := in_some (HI.out.below hS.out.bel) (show i < xs.length by rw [HM.out]; exact him)
      obtain ⟨x, hxx⟩ : ∃ x, xs.getD i 0 = x := ⟨_, rfl⟩
      have hx256 : x < 256 := by rw [← hxx]; exact getD_lt HX.out (by rw [HM.out]; exact him)
      rw [hxx] at cx
      clear hxx
      have hm8 : (x : Int) % 8 = 0 ∨ (x : Int) % 8 = 1 ∨ (x : Int) % 8 = 2 ∨ (x : Int) % 8 = 3 ∨ (x : Int) % 8 = 4 ∨ (x : Int) % 8 = 5 ∨ (x : Int) % 8 = 6 ∨ (x : Int) % 8 = 7 := by omega
      have HM8 := box hm8
      clear hm8
      go_upto_block 2 with fail
      generalize (x : Int) % 8 = m8 at HM8 ⊢
      go_cut [12, 13] (fun t12 t13 wx => ∃ (c : Gc) (t : Tc) (fly : Nat) (L : List Nat), t12 = .int .i64 (fly : Nat) ∧ Box (Inv n (i + 1) c t fly L) ∧ Box (StAt w.heap.size w3.heap.size w wx g h c gt ht t t13 L))
      case first =>
        rcases HM8.out with rfl | rfl | rfl | rfl | rfl | rfl | rfl | rfl
        · have C := box (take_any 0 0 rfl gt ht [t] _ hS.out.xt t rfl hI.out.tok)
          clear cx
          by_cases hs : t.s < t.l
          · have E := box (hI.out.take hs)
            rw [E.out.2] at C
            go_wp2_with fail
            refine C.out.mono ?_
            rintro e w4 ⟨rfl, x4, a4⟩
            have FIN := box (show ∃ (c' : Gc) (t' : Tc) (fly' : Nat) (L' : List Nat), Value.int .i64 ((fly : Int) + 1) = .int .i64 (fly' : Nat) ∧ Box (Inv n (i + 1) c' t' fly' L') ∧ Box (StAt w.heap.size w3.heap.size w w4 g h c' gt ht t' u13 L') from ⟨c, _, fly + 1, L, rfl, box E.out.1, box (hS.out.taker x4 a4)⟩)
            have fb := (show fly ≤ 100 from by have := E.out.1.vs; have := E.out.1.si; omega)
            clear x4 a4 C hI hS E
            go_wp2_with fail
            go_meet
            exact FIN.out
          · have E := box (hI.out.full hs)
            rw [E.out.2] at C
            go_wp2_with fail
            refine C.out.mono ?_
            rintro e w4 ⟨rfl, x4, a4⟩
            have FIN := box (show ∃ (c' : Gc) (t' : Tc) (fly' : Nat) (L' : List Nat), Value.int .i64 (fly : Int) = .int .i64 (fly' : Nat) ∧ Box (Inv n (i + 1) c' t' fly' L') ∧ Box (StAt w.heap.size w3.heap.size w w4 g h c' gt ht t' u13 L') from ⟨c, _, fly, L, rfl, box E.out.1, box (hS.out.taker x4 a4)⟩)
            clear x4 a4 C hI hS E
            go_wp2_with fail
            go_meet
            exact FIN.out
        · clear cx
          by_cases hf : fly = 0
          · subst hf
            have FIN := box (fun (u : Value) (hu : u = .int .i64 ((0 : Nat) : Int)) => show ∃ (c' : Gc) (t' : Tc) (fly' : Nat) (L' : List Nat), u = .int .i64 (fly' : Nat) ∧ Box (Inv n (i + 1) c' t' fly' L') ∧ Box (StAt w.heap.size w3.heap.size w wr g h c' gt ht t' u13 L') from ⟨c, t, 0, L, hu, box hI.out.next, hS⟩)
            clear hI hS
            go_wp2_with fail
            all_goals
              go_meet
              exact FIN.out _ (by first | rfl | (congr 1; omega) | (simp; omega))
          · obtain ⟨f, rfl⟩ : ∃ f, fly = f + 1 := ⟨fly - 1, by omega⟩
            have E := box hI.out.recv
            have C := box (receive_any 0 0 rfl g h [c] _ hS.out.xg c rfl hI.out.ok)
            rw [E.out.2] at C
            have fb := (show f + 1 ≤ 100 from by have := hI.out.vs; have := hI.out.si; omega)
            clear hf
            go_wp2_with fail
            refine C.out.mono ?_
            rintro e w4 ⟨rfl, x4, a4⟩
            have FIN := box (show ∃ (c' : Gc) (t' : Tc) (fly' : Nat) (L' : List Nat), Value.int .i64 (((f + 1 : Nat) : Int) - 1) = .int .i64 (fly' : Nat) ∧ Box (Inv n (i + 1) c' t' fly' L') ∧ Box (StAt w.heap.size w3.heap.size w w4 g h c' gt ht t' u13 L') from ⟨_, t, f, L, by congr 1; omega, box E.out.1, box (hS.out.giver x4 a4)⟩)
            clear x4 a4 C hI hS E
            go_wp2_with fail
            go_meet
            first | exact FIN.out | (simpa using FIN.out)
        · clear cx
          by_cases hf : fly = 0
          · subst hf
            have FIN := box (fun (u : Value) (hu : u = .int .i64 ((0 : Nat) : Int)) => show ∃ (c' : Gc) (t' : Tc) (fly' : Nat) (L' : List Nat), u = .int .i64 (fly' : Nat) ∧ Box (Inv n (i + 1) c' t' fly' L') ∧ Box (StAt w.heap.size w3.heap.size w wr g h c' gt ht t' u13 L') from ⟨c, t, 0, L, hu, box hI.out.next, hS⟩)
            clear hI hS
            go_wp2_with fail
            all_goals
              go_meet
              exact FIN.out _ (by first | rfl | (congr 1; omega) | (simp; omega))
          · obtain ⟨f, rfl⟩ : ∃ f, fly = f + 1 := ⟨fly - 1, by omega⟩
            have fb := (show f + 1 ≤ 100 from by have := hI.out.vs; have := hI.out.si; omega)
            have FIN := box (fun (u : Value) (hu : u = .int .i64 (f : Int)) => show ∃ (c' : Gc) (t' : Tc) (fly' : Nat) (L' : List Nat), u = .int .i64 (fly' : Nat) ∧ Box (Inv n (i + 1) c' t' fly' L') ∧ Box (StAt w.heap.size w3.heap.size w wr g h c' gt ht t' u13 L') from ⟨c, t, f, L, hu, box hI.out.lost, hS⟩)
            clear hI hS hf
            go_wp2_with fail
            all_goals
              go_meet
              exact FIN.out _ (by first | rfl | (congr 1; omega) | (simp; omega))
        · have C := box (free_any 0 0 rfl g h [c] _ hS.out.xg c rfl hI.out.ok)
          clear cx
          go_wp2_with fail
          refine C.out.mono ?_
          rintro e w4 ⟨rfl, x4, a4⟩
          have FIN := box (show ∃ (c' : Gc) (t' : Tc) (fly' : Nat) (L' : List Nat), Value.int .i64 (fly : Int) = .int .i64 (fly' : Nat) ∧ Box (Inv n (i + 1) c' t' fly' L') ∧ Box (StAt w.heap.size w3.heap.size w w4 g h c' gt ht t' u13 L') from ⟨_, t, fly, L, rfl, box hI.out.free, box (hS.out.giver x4 a4)⟩)
          clear x4 a4 C hI hS
          go_wp2_with fail
          go_meet
          exact FIN.out
        · have C := box (limit_b 0 0 rfl g h [c] _ hS.out.xg c rfl hI.out.ok)
          clear cx
          go_wp2_with fail
          refine C.out.mono ?_
          rintro e w4 ⟨rfl, b4⟩
          have S4 := box (hS.out.keep b4)
          have kA : Below w4.heap.size w4 (w4.alloc (.cells #[.int .i64 (c.lim : Int)] 3)) := (Below.refl _ _).alloc (Nat.le_refl _) _
          have S5 := box (S4.out.keep kA)
          have N5 := box (show ∀ j u, ([Value.int .i64 (c.lim : Int)] : List Value)[j]? = some u → (w4.alloc (.cells #[.int .i64 (c.lim : Int)] 3)).cell? ((⟨w4.heap.size, 0, none⟩ : Addr).add j) = some u from fun j u hu => by
            rw [add_off]
            refine (World.cell?_alloc_mark w4 #[.int .i64 (c.lim : Int)] 3 (0, 0) j).trans ?_
            rw [← hu]
            rcases j with _ | j <;> rfl)
          have LL := box (show L.length ≤ 61 from by have := hI.out.len; omega)
          have LL2 := LL.out
          clear b4 kA C hS S4
          go_wp2_with (at_builtin; refine wpList_append_own_at (o := ⟨some 84, _, _, _, _, _⟩) (w4.alloc (.cells #[.int .i64 (c.lim : Int)] 3)) rfl (.tmp 80) (.tmp 83) 22 rfl w3.heap.size 3 i9 _ 1 8 Try.underlying22 hi9 hz9 hs9 hb9 rfl (by decide) u13 L.length _ rfl S5.out.row ⟨w4.heap.size, 0, none⟩ 1 1 [.int .i64 (c.lim : Int)] rfl rfl N5.out (fun u hu => by simp at hu; subst hu; rfl) (by unfold maxLen; omega) (by omega) S5.out.sz ?_; intro v8 w8 h8 g8 _ f8)
          have FIN := box (show ∃ (c' : Gc) (t' : Tc) (fly' : Nat) (L' : List Nat), Value.int .i64 (fly : Int) = .int .i64 (fly' : Nat) ∧ Box (Inv n (i + 1) c' t' fly' L') ∧ Box (StAt w.heap.size w3.heap.size w w8 g h c' gt ht t' v8 L') from ⟨c, t, fly, L ++ [c.lim], rfl, box hI.out.note, box (S5.out.grow h8 g8)⟩)
          clear h8 g8 f8 hI S5 N5
          go_wp2_with fail
          go_meet
          exact FIN.out
        · clear cx
          have LN := hI.out.ne
          obtain ⟨q, hqe⟩ : ∃ q, x / 8 % L.length = q := ⟨_, rfl⟩
          have hq : q < L.length := by rw [← hqe]; exact Nat.mod_lt _ (by omega)
          have hqI : (x : Int) / 8 % (L.length : Int) = (q : Int) := by rw [← hqe]; norm_cast
          clear hqe
          obtain ⟨bl, kl, rfl, cl⟩ := hS.out.at_ hq
          obtain ⟨y, hy⟩ : ∃ y, L[q] = y := ⟨_, rfl⟩
          have hyL := (show y ∈ L by rw [← hy]; exact List.getElem_mem _)
          have HYL := box (hI.out.hear hyL)
          have LL := (show L.length ≤ 61 from by have := hI.out.len; omega)
          rw [hy] at cl
          clear hy hyL
          have C := box (raise_any (y : Int) 0 0 rfl gt ht [t] _ hS.out.xt t rfl hI.out.tok)
          go_wp2_with fail
          refine C.out.mono ?_
          rintro e w4 ⟨rfl, x4, a4⟩
          have FIN := box (show ∃ (c' : Gc) (t' : Tc) (fly' : Nat) (L' : List Nat), Value.int .i64 (fly : Int) = .int .i64 (fly' : Nat) ∧ Box (Inv n (i + 1) c' t' fly' L') ∧ Box (StAt w.heap.size w3.heap.size w w4 g h c' gt ht t' (.slice (some ⟨bl, 0, none⟩) L.length kl) L') from ⟨c, _, fly, L, rfl, HYL, box (hS.out.taker x4 a4)⟩)
          clear x4 a4 C hI hS HYL
          go_wp2_with fail
          go_meet
          exact FIN.out
        · clear cx
          have LN := hI.out.ne
          obtain ⟨q, hq0⟩ : ∃ q, q = 0 := ⟨_, rfl⟩
          have hq : q < L.length := by omega
          obtain ⟨bl, kl, rfl, cl⟩ := hS.out.at_ hq
          obtain ⟨y, hy⟩ : ∃ y, L[q] = y := ⟨_, rfl⟩
          have hyL := (show y ∈ L by rw [← hy]; exact List.getElem_mem _)
          have HYL := box (hI.out.hear hyL)
          have LL := (show L.length ≤ 61 from by have := hI.out.len; omega)
          rw [hy, hq0] at cl
          clear hy hyL
          have C := box (raise_any (y : Int) 0 0 rfl gt ht [t] _ hS.out.xt t rfl hI.out.tok)
          go_wp2_with fail
          refine C.out.mono ?_
          rintro e w4 ⟨rfl, x4, a4⟩
          have FIN := box (show ∃ (c' : Gc) (t' : Tc) (fly' : Nat) (L' : List Nat), Value.int .i64 (fly : Int) = .int .i64 (fly' : Nat) ∧ Box (Inv n (i + 1) c' t' fly' L') ∧ Box (StAt w.heap.size w3.heap.size w w4 g h c' gt ht t' (.slice (some ⟨bl, 0, none⟩) L.length kl) L') from ⟨c, _, fly, L, rfl, HYL, box (hS.out.taker x4 a4)⟩)
          clear x4 a4 C hI hS HYL
          go_wp2_with fail
          go_meet
          exact FIN.out
        · clear cx
          by_cases hf : fly = 0
          · subst hf
            have E := box hI.out.aud
            have C := box (sent_b 0 0 rfl gt ht [t] _ hS.out.xt t rfl hI.out.tok)
            go_wp2_with fail
            refine C.out.mono ?_
            rintro e w4 ⟨rfl, b4⟩
            have S4 := box (hS.out.keep b4)
            have CA := box (audit_any (t.s : Int) 0 0 rfl g h [c] _ S4.out.xg c rfl hI.out.ok)
            rw [E.out.2] at CA
            clear b4 C hS
            go_wp2_with fail
            refine CA.out.mono ?_
            rintro e w5 ⟨rfl, x5, a5⟩
            have FIN := box (fun (u : Value) (hu : u = .int .i64 ((0 : Nat) : Int)) => show ∃ (c' : Gc) (t' : Tc) (fly' : Nat) (L' : List Nat), u = .int .i64 (fly' : Nat) ∧ Box (Inv n (i + 1) c' t' fly' L') ∧ Box (StAt w.heap.size w3.heap.size w w5 g h c' gt ht t' u13 L') from ⟨_, t, 0, L, hu, box E.out.1, box (S4.out.giver x5 a5)⟩)
            clear x5 a5 CA S4 hI E
            go_wp2_with fail
            go_meet
            exact FIN.out _ rfl
          · have FIN := box (show ∃ (c' : Gc) (t' : Tc) (fly' : Nat) (L' : List Nat), Value.int .i64 (fly : Int) = .int .i64 (fly' : Nat) ∧ Box (Inv n (i + 1) c' t' fly' L') ∧ Box (StAt w.heap.size w3.heap.size w wr g h c' gt ht t' u13 L') from ⟨c, t, fly, L, rfl, box hI.out.next, hS⟩)
            clear hI hS
            go_wp2_with fail
            go_meet
            exact FIN.out
      case rest =>
        clear hI hS cx HM8
        obtain ⟨c, t, fly, L, rfl, hI, hS⟩ := hcut
        obtain ⟨hq, hhq⟩ : ∃ hq : Nat, (c.v : Int) - (c.f : Int) = (hq : Int) := ⟨c.v - c.f, by have := hI.out.ok.fv; omega⟩
        have hqn : hq ≤ n := by have := hI.out.ok.vr; have := hI.out.r; omega
        obtain ⟨lq, hlq⟩ : ∃ lq : Nat, (t.l : Int) - (t.s : Int) = (lq : Int) := ⟨t.l - t.s, by have := hI.out.tok.sl; omega⟩
        have C := box (held_b 0 0 rfl g h [c] _ hS.out.xg c rfl hI.out.ok)
        rw [hhq] at C
        go_wp2_with fail
        refine C.out.mono ?_
        rintro e w4 ⟨rfl, b4⟩
        have S4 := box (hS.out.keep b4)
        have C2 := box (held_b 0 0 rfl g h [c] _ S4.out.xg c rfl hI.out.ok)
        rw [hhq] at C2
        clear C b4 hS
        go_wp2_with fail
        refine C2.out.mono ?_
        rintro e w5 ⟨rfl, b5⟩
        have S5 := box (S4.out.keep b5)
        have C3 := box (left_b 0 0 rfl gt ht [t] _ S5.out.xt t rfl hI.out.tok)
        rw [hlq] at C3
        clear C2 b5 S4
        go_wp2_with fail
        refine C3.out.mono ?_
        rintro e w6 ⟨rfl, b6⟩
        have S6 := box (S5.out.keep b6)
        clear C3 b6 S5 hhq hlq
        go_wp2_with fail
        go_roundw
        case rel => exact ⟨i + 1, c, t, fly, L, by omega, by go_num, rfl, hI, S6⟩
        case measure => simp [intOf]; omega
    · obtain rfl : i = m := by omega
      have FIN := box (show ∃ D g' h' c' gt' ht' t' fly' vl L', Ending.returned (.tuple #[.pointer (some ⟨g, 0, none⟩), .pointer (some ⟨gt, 0, none⟩), .int .i64 (fly : Nat), .bool true]) = .returned (.tuple #[.pointer (some ⟨g', 0, none⟩), .pointer (some ⟨gt', 0, none⟩), .int .i64 (fly' : Nat), .bool true]) ∧ Inv n i c' t' fly' L' ∧ StAt w.heap.size D w wr g' h' c' gt' ht' t' vl L' from ⟨_, g, h, c, gt, ht, t, fly, _, L, rfl, hI.out, hS.out⟩)
      clear hI hS
      go_wp2_with fail
      (try simp only [Exit.inBlock, Exit.then])
      refine bodyPost_ret (results_tmp4 rfl _ _ _) rfl ?_
      exact FIN.out
end Go.Proofs.Ytoolphpideicoaa
