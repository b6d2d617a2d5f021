/- FrameScans: its walk. -/
import Derived.Test.YthfoakomapmkeaaDoorMrCh
import Derived.Test.YthfoakomapmkeaaDoorMrE
import Derived.Test.YthfoakomapmkeaaDoorMrC
import Derived.Deep.RegionHeld3
import Derived.Deep.RegionLaw
namespace Go.Proofs.YthfoakomapmkeaaDoor
open Go.RowKit

/-- What a scanner hands back as its packet: the packet that it found, or the empty one. -/
def pkD (f : Option Pkt) : Pkt := f.getD ⟨0, 0, 0, 0, []⟩
theorem pushRes_form {f : Option Pkt} {n : Nat} {e : Ending} {w' : World} (h : PushRes f n e w') :
    ∃ (a : Option Addr) (l cap : Nat), e = .returned (.tuple #[pkV (pkD f).k (pkD f).c (pkD f).n (pkD f).v a l cap, .bool f.isSome]) ∧ (pkD f).pay.length = l ∧ In w' a (pkD f).pay ∧ ∀ q, a = some q → n ≤ q.block := by
  cases f with
  | none => exact ⟨none, 0, 0, h, rfl, .inl rfl, fun q hq => by cases hq⟩
  | some p =>
    obtain ⟨a, l, c, h1, h2, h3, _, h5⟩ := h
    exact ⟨a, l, c, h1, h2, h3, h5⟩
theorem rpush_form {f : Option Pkt} {u : Value} {e : Ending} {w' : World} {n : Nat}
    (h : (f = none ∧ e = .returned (.tuple #[u, pk0, .bool false])) ∨ (∃ p, f = some p ∧ ∃ (pa : Option Addr) (pl pc : Nat), e = .returned (.tuple #[u, pkV p.k p.c p.n p.v pa pl pc, .bool true]) ∧ p.pay.length = pl ∧ In w' pa p.pay ∧ ∀ g, pa = some g → n ≤ g.block)) :
    ∃ (a : Option Addr) (l cap : Nat), e = .returned (.tuple #[u, pkV (pkD f).k (pkD f).c (pkD f).n (pkD f).v a l cap, .bool f.isSome]) ∧ (pkD f).pay.length = l ∧ In w' a (pkD f).pay ∧ ∀ q, a = some q → n ≤ q.block := by
  rcases h with ⟨rfl, h⟩ | ⟨p, rfl, a, l, c, h1, h2, h3, h4⟩
  · exact ⟨none, 0, 0, h, rfl, .inl rfl, fun q hq => by cases hq⟩
  · exact ⟨a, l, c, h1, h2, h3, h4⟩

/-- The reference's scanner lies in block m. -/
structure RefAt (w : World) (g h m : Nat) (s : Sc) (a : Option Addr) (l cap : Nat) : Prop where
  c0 : w.cell? ⟨m, 0, none⟩ = some (.bool s.ins)
  c1 : w.cell? ⟨m, 1, none⟩ = some (.slice a l cap)
  c2 : w.cell? ⟨m, 2, none⟩ = some (.int .i64 s.bad)
  fr : ∀ j, w.frozen? ⟨m, j, none⟩ = false
  hl : s.syms.length = l
  inn : In w a s.syms
  nil : a = none → cap = 0
  ne : ∀ q, a = some q → q.block ≠ g ∧ q.block ≠ h ∧ q.block ≠ m
theorem RefAt.lt {w : World} {g h m : Nat} {s : Sc} {a : Option Addr} {l cap : Nat} (x : RefAt w g h m s a l cap) : m < w.heap.size := World.block_lt_of_cell? w ⟨m, 0, none⟩ x.c0
theorem RefAt.keep {w w' : World} {g h m : Nat} {s : Sc} {a : Option Addr} {l cap : Nat} (x : RefAt w g h m s a l cap) (hb : Below w.heap.size w w') : RefAt w' g h m s a l cap :=
  ⟨keepc hb x.c0, keepc hb x.c1, keepc hb x.c2, fun j => by rw [hb.frozen (p := ⟨m, j, none⟩) x.lt]; exact x.fr j, x.hl, x.inn.below hb, x.nil, x.ne⟩
theorem RefAt.apart {w w' : World} {g h m : Nat} {s : Sc} {a : Option Addr} {l cap : Nat} (x : RefAt w g h m s a l cap) (ap : Apart g h w w') (hg : m ≠ g) (hh : m ≠ h) : RefAt w' g h m s a l cap :=
  ⟨ap.cell x.c0 hg hh, ap.cell x.c1 hg hh, ap.cell x.c2 hg hh, fun j => by rw [ap.frozen (a := ⟨m, j, none⟩) x.lt hg hh]; exact x.fr j, x.hl, ap.inn x.inn (fun b hb => ⟨(x.ne b hb).1, (x.ne b hb).2.1⟩), x.nil, x.ne⟩
abbrev put3 (w : World) (m : Nat) (y0 y1 y2 : Value) : World := ((w.setCell ⟨m, 0, none⟩ y0).setCell ⟨m, 1, none⟩ y1).setCell ⟨m, 2, none⟩ y2
theorem RefAt.put {w : World} {g h m : Nat} {s s' : Sc} {a a' : Option Addr} {l l' cap cap' : Nat} (x : RefAt w g h m s a l cap) (hl : s'.syms.length = l') (hi : In w a' s'.syms) (hn : a' = none → cap' = 0) (hne : ∀ q, a' = some q → q.block ≠ g ∧ q.block ≠ h ∧ q.block ≠ m) :
    RefAt (put3 w m (.bool s'.ins) (.slice a' l' cap') (.int .i64 s'.bad)) g h m s' a' l' cap' := by
  refine ⟨cell_else (by decide) (cell_else (by decide) (cell_put x.c0 _) _) _, cell_else (by decide) (cell_put (cell_else (by decide) x.c1 _) _) _, cell_put (cell_else (by decide) (cell_else (by decide) x.c2 _) _) _, fun j => by simp only [put3, World.frozen?_setCell]; exact x.fr j, hl, ?_, hn, hne⟩
  have h3 : ∀ q, a' = some q → m ≠ q.block := fun q hq e => (hne q hq).2.2 e.symm
  exact in_far (in_far (in_far hi _ _ h3) _ _ h3) _ _ h3
theorem put3_heap {w : World} {m b : Nat} (e : b ≠ m) (y0 y1 y2 : Value) : (put3 w m y0 y1 y2).heap[b]? = w.heap[b]? := by
  unfold put3
  repeat rw [heap_setCell_other _ ⟨m, _, none⟩ b _ e]
theorem put3_far {w : World} {m : Nat} {p : Addr} {v : Value} (e : m ≠ p.block) (h : w.cell? p = some v) (y0 y1 y2 : Value) : (put3 w m y0 y1 y2).cell? p = some v := by
  unfold put3
  rw [World.cell?_setCell_far _ _ p _ e, World.cell?_setCell_far _ _ p _ e, World.cell?_setCell_far _ _ p _ e]; exact h

theorem put3_frozen {w : World} {m : Nat} (p : Addr) (y0 y1 y2 : Value) : (put3 w m y0 y1 y2).frozen? p = w.frozen? p := by
  unfold put3
  rw [World.frozen?_setCell, World.frozen?_setCell, World.frozen?_setCell]
theorem Pk5.put3 {w : World} {q m : Nat} {v0 v1 v2 v3 v4 : Value} (h : Pk5 w q v0 v1 v2 v3 v4) (e : m ≠ q) (y0 y1 y2 : Value) : Pk5 (put3 w m y0 y1 y2) q v0 v1 v2 v3 v4 :=
  ⟨put3_far e h.q0 _ _ _, put3_far e h.q1 _ _ _, put3_far e h.q2 _ _ _, put3_far e h.q3 _ _ _, put3_far e h.q4 _ _ _, fun j => (put3_frozen _ _ _ _).trans (h.zq j)⟩
theorem in_put3 {w : World} {p : Option Addr} {xs : List Nat} (h : In w p xs) (m : Nat) (y0 y1 y2 : Value) (hm : ∀ g, p = some g → m ≠ g.block) : In (put3 w m y0 y1 y2) p xs :=
  in_far (in_far (in_far h _ _ hm) _ _ hm) _ _ hm
theorem ref0_frozen (w : World) (j : Nat) : (w.alloc (.cells #[.bool false, .slice none 0 0, .int .i64 0] 43)).frozen? ⟨w.heap.size, j, none⟩ = false := by
  unfold World.frozen?
  have h : (w.alloc (.cells #[.bool false, .slice none 0 0, .int .i64 0] 43)).heap[w.heap.size]? = some (.cells #[.bool false, .slice none 0 0, .int .i64 0] 43) := by show (w.heap.push _)[w.heap.size]? = _; simp
  rw [show (⟨w.heap.size, j, none⟩ : Addr).block = w.heap.size from rfl, h]
  simp

set_option maxRecDepth 100000 in
set_option maxHeartbeats 2400000 in
theorem scans_walk (a : Option Addr) (n c : Nat) (xs : List Nat) (hn : xs.length = n) (hx : ∀ x ∈ xs, x < 256) (w : World) (hc : In w a xs) (hT : Crc.HasTab w) (hT2 : HasTab w) :
    Calls Tryd.prog 6 #[.slice a n c] w fun e w' => e = .returned (.bool true) ∧ Below w.heap.size w w' := by
  have HT := box hT
  have HT2 := box hT2
  have HC := box hc
  have HX := box hx
  have HOK := box (scanTo_ok hx)
  clear hT hT2 hc hx
  go_enter Tryd.func6, Tryd.ntmps6
  go_wp2_with fail
  refine (awake_any _ HT.out HT2.out).mono ?_
  rintro e w0 ⟨rfl, k0⟩
  by_cases hb1 : 800 < n
  · have d1 : decide ((800 : Int) < (n : Int)) = true := decide_eq_true (by omega)
    go_wp2_with fail
    go_ret
    exact ⟨rfl, k0⟩
  have d1 : decide ((800 : Int) < (n : Int)) = false := decide_eq_false (by omega)
  go_wp2_with fail
  refine (new_any w0).mono ?_
  rintro e w1 ⟨rfl, kn, x1⟩
  have k := k0.trans (kn.mono k0.size)
  have K0 := k0.size
  have LG : w0.heap.size + 1 < w1.heap.size := x1.lt
  have X := box x1
  obtain ⟨g, hg⟩ : ∃ g, w0.heap.size + 1 = g := ⟨_, rfl⟩
  obtain ⟨h, hh⟩ : ∃ h, w0.heap.size = h := ⟨_, rfl⟩
  have hgw : w.heap.size ≤ g := by omega
  have hhw : w.heap.size ≤ h := by omega
  have hg1 : g < w1.heap.size := by omega
  have hh1 : h < w1.heap.size := by omega
  rw [hg, hh] at X
  rw [hg]
  clear x1 hg hh LG k0 kn K0
  obtain ⟨mb, hmb⟩ : ∃ m, w1.heap.size = m := ⟨_, rfl⟩
  have kA := (Below.refl w1.heap.size w1).alloc (Nat.le_refl _) (.cells #[.bool false, .slice none 0 0, .int .i64 0] 43)
  have M0 : RefAt (w1.alloc (.cells #[.bool false, .slice none 0 0, .int .i64 0] 43)) g h mb ⟨false, [], 0⟩ none 0 0 := by
    rw [← hmb]
    exact ⟨World.cell?_alloc_mark w1 #[.bool false, .slice none 0 0, .int .i64 0] 43 (0, 0) 0, World.cell?_alloc_mark w1 #[.bool false, .slice none 0 0, .int .i64 0] 43 (0, 0) 1, World.cell?_alloc_mark w1 #[.bool false, .slice none 0 0, .int .i64 0] 43 (0, 0) 2, fun j => ref0_frozen w1 j, rfl, .inl rfl, fun _ => rfl, fun q hq => by cases hq⟩
  have X0 := box (X.out.keep kA)
  have k1 := k.trans (kA.mono k.size)
  have KS : w1.heap.size < (w1.alloc (.cells #[.bool false, .slice none 0 0, .int .i64 0] 43)).heap.size := by show _ < (w1.heap.push _).size; rw [Array.size_push]; omega
  have hmw : w.heap.size ≤ mb := by have := k.size; omega
  have hmg : mb ≠ g := by omega
  have hmh : mb ≠ h := by omega
  clear kA X k
  go_wp2_with fail
  rw [hmb] at KS
  clear hmb
  generalize w1.alloc (.cells #[.bool false, .slice none 0 0, .int .i64 0] 43) = w2 at M0 X0 k1 KS ⊢
  clear hg1 hh1
  go_loopw [20] (fun t20 wr => ∃ (i : Nat) (ra : Option Addr) (rl rc : Nat), i ≤ n ∧ t20 = .int .i64 i ∧ Box (ScAt wr g h (scanTo xs i).1) ∧ Box (RefAt wr g h mb (scanTo xs i).1 ra rl rc) ∧ Below w.heap.size w wr) (fun t20 _ => n - (intOf t20).toNat)
  case atStart => exact ⟨0, none, 0, 0, by omega, rfl, X0, box M0, k1⟩
  case round =>
    obtain ⟨i, ra, rl, rc, hi, rfl, hsc, href, kr⟩ := hrel
    clear X0 M0 k1 KS
    by_cases hlt : i < n
    · have hz : (i : Int) < (n : Int) := by omega
      have HOKi := box (HOK.out i (by omega))
      obtain ⟨b2, rfl, cx⟩ := in_some (HC.out.below kr) (show i < xs.length by omega)
      have lx := getD_lt HX.out (show i < xs.length by omega)
      have HS := box (show (scanTo xs (i + 1)).1 = stepS (scanTo xs i).1 (xs.getD i 0) from rfl)
      have PU := box (push_any g h (scanTo xs i).1 HOKi.out.1 (by have := HOKi.out.2.1; omega) (xs.getD i 0) lx wr hsc.out (HT.out.below kr) (HT2.out.below kr))
      have RU := fun w' a' l' c' (x : RefAt w' g h mb (scanTo xs i).1 a' l' c') => box (rpush_any (scanTo xs i).1 HOKi.out.1 (by have := HOKi.out.2.1; omega) (xs.getD i 0) lx a' l' c' x.hl w' x.inn x.nil)
      generalize (scanTo xs i).1 = st at hsc href HS PU RU HOKi
      clear HOKi
      generalize xs.getD i 0 = y at cx lx HS PU RU
      obtain ⟨f, hf⟩ : ∃ f, foundS st y = f := ⟨_, rfl⟩
      have HF := box hf
      obtain ⟨st2, hst2⟩ : ∃ s, stepS st y = s := ⟨_, rfl⟩
      have HST2 := box hst2
      rw [hst2] at HS
      have PV : Box (Calls Tryd.prog 26 #[.pointer (some ⟨g, 0, none⟩), nU8 y] wr fun e w' => ∃ (a : Option Addr) (l cap : Nat), e = .returned (.tuple #[pkV (pkD f).k (pkD f).c (pkD f).n (pkD f).v a l cap, .bool f.isSome]) ∧ (pkD f).pay.length = l ∧ In w' a (pkD f).pay ∧ (∀ q, a = some q → wr.heap.size ≤ q.block) ∧ ScAt w' g h st2 ∧ Apart g h wr w') := box (PU.out.mono fun e w' ⟨h1, h2, h3⟩ => by
        rw [HF.out] at h3
        rw [HST2.out] at h2
        obtain ⟨a, l, c, e1, e2, e3, e4⟩ := pushRes_form h3
        exact ⟨a, l, c, e1, e2, e3, e4, h2, h1⟩)
      have RV := fun w' a' l' c' (x : RefAt w' g h mb st a' l' c') => box (show Calls Tryd.prog 27 #[scV st.ins a' l' c' st.bad, nU8 y] w' fun e w2 => ∃ (a2 : Option Addr) (l2 c2 : Nat) (pa : Option Addr) (pl pc : Nat), e = .returned (.tuple #[scV st2.ins a2 l2 c2 st2.bad, pkV (pkD f).k (pkD f).c (pkD f).n (pkD f).v pa pl pc, .bool f.isSome]) ∧ st2.syms.length = l2 ∧ In w2 a2 st2.syms ∧ (a2 = none → c2 = 0) ∧ (a2 = a' ∨ ∀ q, a2 = some q → w'.heap.size ≤ q.block) ∧ (pkD f).pay.length = pl ∧ In w2 pa (pkD f).pay ∧ (∀ q, pa = some q → w'.heap.size ≤ q.block) ∧ Below w'.heap.size w' w2 from ((RU w' a' l' c' x).out.mono fun e w2 ⟨h0, a2, l2, c2, h1, h2, h3, h4, h5⟩ => by
        rw [HST2.out] at h1 h2 h5
        rw [HF.out] at h5
        obtain ⟨pa, pl, pc, e1, e2, e3, e4⟩ := rpush_form h5
        exact ⟨a2, l2, c2, pa, pl, pc, e1, h1, h2, h3, h4.imp (fun z => z.1) id, e2, e3, e4, h0⟩))
      generalize pkD f = D at PV RV
      generalize f.isSome = fl at PV RV
      obtain ⟨dk, dc, dn, dv, dp⟩ := D
      clear hf hst2 HF HST2 PU RU
      go_wp2_with fail
      refine PV.out.mono ?_
      rintro e w3 ⟨qa, ql, qc, rfl, hql, hqi, hqf, x3, ap⟩
      have k3 := ap.below kr kr.size hgw hhw
      have M3 := href.out.apart ap hmg hmh
      have hmr := href.out.lt
      have HQF := box (show ∀ q, qa = some q → mb ≠ q.block from fun q hq => by have := hqf q hq; omega)
      have X3 := box x3
      have HQL := box hql
      clear x3 PV hsc href ap cx hql hqf
      have kA := (Below.refl w3.heap.size w3).alloc (Nat.le_refl _) (.cells (pkC dk dc dn dv qa ql qc) 24)
      have k4 := k3.trans (kA.mono k3.size)
      have M4 := M3.keep kA
      have X4 := box (X3.out.keep kA)
      have P4 := box (pk5_new w3 dk dc dn dv qa ql qc w3.heap.size rfl)
      have HQI := box (hqi.below kA)
      have M4B := box M4
      have RV4 := RV _ _ _ _ M4
      obtain ⟨c0, c1, c2, fr, _, _, _, ne⟩ := M4
      have NE := box ne
      have hsz : w3.heap.size < (w3.alloc (.cells (pkC dk dc dn dv qa ql qc) 24)).heap.size := by show _ < (w3.heap.push _).size; rw [Array.size_push]; omega
      have hm3 := M3.lt
      have hX3 := X3.out.lt
      have hX3h := X3.out.lth
      clear M3 X3 hqi RV ne kA
      obtain ⟨qb, hqb⟩ : ∃ q, w3.heap.size = q := ⟨_, rfl⟩
      go_wp2_with fail
      change Calls _ _ _ (w3.alloc (.cells (pkC dk dc dn dv qa ql qc) 24)) _
      rw [hqb] at P4 hsz hm3 hX3 hX3h
      clear c0 c1 c2 fr hqb
      generalize w3.alloc (.cells (pkC dk dc dn dv qa ql qc) 24) = w4 at k4 X4 P4 HQI M4B RV4 hsz ⊢
      refine RV4.out.mono ?_
      rintro e w5 ⟨ra2, rl2, rc2, pa, pl, pc, rfl, hrl2, hri2, hrn2, hra2, hpl, hpi, hpf, hb5⟩
      obtain rfl : ql = pl := by have h1 : dp.length = ql := HQL.out; have h2 : dp.length = pl := hpl; omega
      have hne2 : ∀ q, ra2 = some q → q.block ≠ g ∧ q.block ≠ h ∧ q.block ≠ mb := fun q hq => by
        rcases hra2 with e | e
        · exact NE.out q (by rw [← e]; exact hq)
        · have := e q hq
          refine ⟨?_, ?_, ?_⟩ <;> omega
      have k5 := k4.trans (hb5.mono k4.size)
      have P5 := P4.out.keep hb5
      have X5 := X4.out.keep hb5
      have M5 := M4B.out.keep hb5
      have HQ5 := HQI.out.below hb5
      have hs5 : qb < w5.heap.size := by have := hb5.size; omega
      have HPL := box hpl
      have HPF := box (show ∀ q, pa = some q → mb ≠ q.block from fun q hq => by have := hpf q hq; omega)
      clear hpf
      have HRL := box hrl2
      have HRN := box hrn2
      have HNE := box hne2
      clear RV4 M4B X4 P4 HQI hra2 k3 k4 hsz NE HQL hpl hrl2 hrn2 hne2
      clear hb5
      have kB := (Below.refl w5.heap.size w5).alloc (Nat.le_refl _) (.cells #[.bool st2.ins, .slice ra2 rl2 rc2, .int .i64 st2.bad] 43)
      have kC := (Below.refl (w5.alloc (.cells #[.bool st2.ins, .slice ra2 rl2 rc2, .int .i64 st2.bad] 43)).heap.size (w5.alloc (.cells #[.bool st2.ins, .slice ra2 rl2 rc2, .int .i64 st2.bad] 43))).alloc (Nat.le_refl _) (.cells (pkC dk dc dn dv pa ql pc) 24)
      have hsB : (w5.alloc (.cells #[.bool st2.ins, .slice ra2 rl2 rc2, .int .i64 st2.bad] 43)).heap.size = w5.heap.size + 1 := by show (w5.heap.push _).size = _; rw [Array.size_push]
      have kBC := kB.trans (kC.mono kB.size)
      have P7 := P5.keep kBC
      have X7 := X5.keep kBC
      have M7 := M5.keep kBC
      have HQ7 := HQ5.below kBC
      have HP7 := In.below hpi kBC
      have HR7 := In.below hri2 kBC
      have k7 := k5.trans (kBC.mono k5.size)
      obtain ⟨sb, hsb⟩ : ∃ t, w5.heap.size = t := ⟨_, rfl⟩
      have R7 := pk5_new (w5.alloc (.cells #[.bool st2.ins, .slice ra2 rl2 rc2, .int .i64 st2.bad] 43)) dk dc dn dv pa ql pc (sb + 1) (by rw [hsB, hsb])
      have s0 : (w5.alloc (.cells #[.bool st2.ins, .slice ra2 rl2 rc2, .int .i64 st2.bad] 43)).cell? ⟨sb, 0, none⟩ = some (.bool st2.ins) := by rw [← hsb]; exact World.cell?_alloc_mark w5 #[.bool st2.ins, .slice ra2 rl2 rc2, .int .i64 st2.bad] 43 (0, 0) 0
      have s1 : (w5.alloc (.cells #[.bool st2.ins, .slice ra2 rl2 rc2, .int .i64 st2.bad] 43)).cell? ⟨sb, 1, none⟩ = some (.slice ra2 rl2 rc2) := by rw [← hsb]; exact World.cell?_alloc_mark w5 #[.bool st2.ins, .slice ra2 rl2 rc2, .int .i64 st2.bad] 43 (0, 0) 1
      have s2 : (w5.alloc (.cells #[.bool st2.ins, .slice ra2 rl2 rc2, .int .i64 st2.bad] 43)).cell? ⟨sb, 2, none⟩ = some (.int .i64 st2.bad) := by rw [← hsb]; exact World.cell?_alloc_mark w5 #[.bool st2.ins, .slice ra2 rl2 rc2, .int .i64 st2.bad] 43 (0, 0) 2
      replace s0 := keepc kC s0
      replace s1 := keepc kC s1
      replace s2 := keepc kC s2
      have hbq : qb ≠ mb := by omega
      have hbr : sb + 1 ≠ mb := by omega
      have hX7 := X7.lt
      have hX7h := X7.lth
      clear P5 X5 M5 HQ5 hpi hri2 k5 kB kC kBC hsB hs5 hm3 hX3 hX3h hmr
      have M7B := box M7
      have X7B := box X7
      have P7B := box P7
      have R7B := box R7
      have HQB := box HQ7
      have HPB := box HP7
      have HRB := box HR7
      clear X7 P7 R7 HQ7 HP7 HR7
      have SB := box (And.intro s0 (And.intro s1 s2))
      clear s0 s1 s2
      clear M7
      go_upto_region 12 with fail
      generalize ((w5.alloc (.cells #[.bool st2.ins, .slice ra2 rl2 rc2, .int .i64 st2.bad] 43)).alloc (.cells (pkC dk dc dn dv pa ql pc) 24)) = w7 at M7B X7B P7B R7B HQB HPB HRB SB k7 hX7 hX7h ⊢
      clear hsb
      obtain ⟨s0, s1, s2⟩ := SB.out
      obtain ⟨c0, c1, c2, fr, _, _, _, _⟩ := M7B.out
      go_upto_region 13 with fail
      clear s0 s1 s2 SB c0 c1 c2 fr
      have MP := box (M7B.out.put (s' := st2) HRL.out HRB.out HRN.out HNE.out)
      have XP := box (X7B.out.same (put3_heap hmg.symm (.bool st2.ins) (.slice ra2 rl2 rc2) (.int .i64 st2.bad)) (put3_heap hmh.symm (.bool st2.ins) (.slice ra2 rl2 rc2) (.int .i64 st2.bad)))
      have PP := box (P7B.out.put3 hbq.symm (.bool st2.ins) (.slice ra2 rl2 rc2) (.int .i64 st2.bad))
      have RP := box (R7B.out.put3 hbr.symm (.bool st2.ins) (.slice ra2 rl2 rc2) (.int .i64 st2.bad))
      have HQP := box (in_put3 HQB.out mb (.bool st2.ins) (.slice ra2 rl2 rc2) (.int .i64 st2.bad) HQF.out)
      have HPP := box (in_put3 HPB.out mb (.bool st2.ins) (.slice ra2 rl2 rc2) (.int .i64 st2.bad) HPF.out)
      have kP : Below w.heap.size w (put3 w7 mb (.bool st2.ins) (.slice ra2 rl2 rc2) (.int .i64 st2.bad)) := ((k7.setCell (p := ⟨mb, 0, none⟩) hmw _).setCell (p := ⟨mb, 1, none⟩) hmw _).setCell (p := ⟨mb, 2, none⟩) hmw _
      clear M7B X7B P7B R7B HQB HPB HRB HRL HRN HNE HQF HPF k7 hX7 hX7h hbq hbr
      unfold put3 at MP XP PP RP HQP HPP kP
      generalize (((w7.setCell ⟨mb, 0, none⟩ (.bool st2.ins)).setCell ⟨mb, 1, none⟩ (.slice ra2 rl2 rc2)).setCell ⟨mb, 2, none⟩ (.int .i64 st2.bad)) = W0 at MP XP PP RP HQP HPP kP ⊢
      have bd : Below W0.heap.size W0 W0.drew := (Below.refl _ _).drew
      have KW := box kP
      have PS := fun w' (h : Below W0.heap.size W0 w') => box (psame_any dk dc dn dv qa pa ql qc pc dp HPL.out w' (HQP.out.below h) (HPP.out.below h))
      have BD := fun w' (h : Below W0.heap.size W0 w') => box (bad_any g _ st2 w' (XP.out.keep h))
      have g0 : ∀ w' : World, Below W0.heap.size W0 w' → w'.cell? ⟨qb, 0, none⟩ = some (nU8 dk) ∧ w'.cell? ⟨qb, 1, none⟩ = some (.int .i64 dc) ∧ w'.cell? ⟨qb, 2, none⟩ = some (.int .i64 dn) ∧ w'.cell? ⟨qb, 3, none⟩ = some (.int .i64 dv) ∧ w'.cell? ⟨qb, 4, none⟩ = some (.slice qa ql qc) := fun w' h => ⟨keepc h PP.out.q0, keepc h PP.out.q1, keepc h PP.out.q2, keepc h PP.out.q3, keepc h PP.out.q4⟩
      have g1 : ∀ w' : World, Below W0.heap.size W0 w' → w'.cell? ⟨sb + 1, 0, none⟩ = some (nU8 dk) ∧ w'.cell? ⟨sb + 1, 1, none⟩ = some (.int .i64 dc) ∧ w'.cell? ⟨sb + 1, 2, none⟩ = some (.int .i64 dn) ∧ w'.cell? ⟨sb + 1, 3, none⟩ = some (.int .i64 dv) ∧ w'.cell? ⟨sb + 1, 4, none⟩ = some (.slice pa ql pc) := fun w' h => ⟨keepc h RP.out.q0, keepc h RP.out.q1, keepc h RP.out.q2, keepc h RP.out.q3, keepc h RP.out.q4⟩
      have g2 : ∀ w' : World, Below W0.heap.size W0 w' → w'.cell? ⟨mb, 2, none⟩ = some (.int .i64 st2.bad) := fun w' h => keepc h MP.out.c2
      have hff : (fl == fl) = true := by simp
      clear PP RP HQP HPP kP HPL
      skip
      refine wp_region_held_drew (S := fun w' => Below W0.heap.size W0 w') (by kernel_rfl) (by exact bd) (fun hHeld => ?_)
      refine wpAnyH_take (i := 0) (oi := { dst := some 38, op := Go.Op.move (Go.Operand.tmp 8), type := 4, pos := "law.go:117", after := #[], guard := none }) (v := ?_) rfl (by kernel_rfl) (by kernel_rfl) (by kernel_rfl) (fun _ _ _ h => h) (Or.inl ⟨by rfl, ?_⟩) (by assumption) ?_
      rotate_left
      · (intro w hSw; (try dsimp only at hSw); go_simp; (try with_reducible rfl))
      simp only [Act.put, List.setIfInBounds_toArray, List.set_cons_zero, List.set_cons_succ]
      refine wpAnyH_take (i := 1) (oi := { dst := some 39, op := Go.Op.move (Go.Operand.tmp 11), type := 4, pos := "law.go:117", after := #[], guard := none }) (v := ?_) rfl (by kernel_rfl) (by kernel_rfl) (by kernel_rfl) (fun _ _ _ h => h) (Or.inl ⟨by rfl, ?_⟩) (by assumption) ?_
      rotate_left
      · (intro w hSw; (try dsimp only at hSw); go_simp; (try with_reducible rfl))
      simp only [Act.put, List.setIfInBounds_toArray, List.set_cons_zero, List.set_cons_succ]
      refine wpAnyH_take (i := 2) (oi := { dst := some 40, op := Go.Op.binOp Go.BinOp.neq 4 (Go.Operand.tmp 38) (Go.Operand.tmp 39) 4, type := 4, pos := "law.go:117", after := #[{ on := 0, ground := Go.Ground.data }, { on := 1, ground := Go.Ground.data }], guard := none }) (v := ?_) rfl (by kernel_rfl) (by kernel_rfl) (by kernel_rfl) (fun _ _ _ h => h) (Or.inl ⟨by rfl, ?_⟩) (by assumption) ?_
      rotate_left
      · (intro w hSw; (try dsimp only at hSw); go_simp; (try with_reducible rfl))
      simp only [Act.put, List.setIfInBounds_toArray, List.set_cons_zero, List.set_cons_succ]
      refine wpAnyH_take (i := 3) (oi := { dst := some 41, op := Go.Op.move (Go.Operand.tmp 40), type := 4, pos := "law.go:117", after := #[{ on := 2, ground := Go.Ground.data }], guard := none }) (v := ?_) rfl (by kernel_rfl) (by kernel_rfl) (by kernel_rfl) (fun _ _ _ h => h) (Or.inl ⟨by rfl, ?_⟩) (by assumption) ?_
      rotate_left
      · (intro w hSw; (try dsimp only at hSw); go_simp; (try with_reducible rfl))
      simp only [Act.put, List.setIfInBounds_toArray, List.set_cons_zero, List.set_cons_succ]
      refine wpAnyH_take (i := 4) (oi := { dst := some 42, op := Go.Op.load 24 (Go.Operand.tmp 7), type := 24, pos := "law.go:117", after := #[{ on := 3, ground := Go.Ground.guard }], guard := some (3, false) }) (v := ?_) rfl (by kernel_rfl) (by kernel_rfl) (by kernel_rfl) (fun _ _ _ h => h) (Or.inl ⟨by rfl, ?_⟩) (by assumption) ?_
      rotate_left
      · (intro w hSw; (try dsimp only at hSw); obtain ⟨f0, f1, f2, f3, f4⟩ := g0 w hSw; go_simp; (try with_reducible rfl))
      simp only [Act.put, List.setIfInBounds_toArray, List.set_cons_zero, List.set_cons_succ]
      refine wpAnyH_take (i := 5) (oi := { dst := some 43, op := Go.Op.load 24 (Go.Operand.tmp 10), type := 24, pos := "law.go:117", after := #[{ on := 3, ground := Go.Ground.guard }], guard := some (3, false) }) (v := ?_) rfl (by kernel_rfl) (by kernel_rfl) (by kernel_rfl) (fun _ _ _ h => h) (Or.inl ⟨by rfl, ?_⟩) (by assumption) ?_
      rotate_left
      · (intro w hSw; (try dsimp only at hSw); obtain ⟨f0, f1, f2, f3, f4⟩ := g1 w hSw; go_simp; (try with_reducible rfl))
      simp only [Act.put, List.setIfInBounds_toArray, List.set_cons_zero, List.set_cons_succ]
      refine wpAnyH_ready (rs := [6]) (by kernel_rfl) (by simp) ?_
      refine (AllReadyH.cons (o := { dst := some 44, op := Go.Op.call { callee := Go.Callee.value (Go.Operand.func 24), args := #[Go.Operand.tmp 42, Go.Operand.tmp 43], argTypes := #[24, 24] }, type := 4, pos := "law.go:117", after := #[{ on := 4, ground := Go.Ground.data }, { on := 5, ground := Go.Ground.data }, { on := 3, ground := Go.Ground.chain }, { on := 3, ground := Go.Ground.guard }], guard := some (3, false) }) rfl (fun K hK => ?_) AllReadyH.nil)
      go_simp
      refine (PS _ hHeld).out.mono ?_
      rintro e wz ⟨rfl, hbz⟩
      have kz : Below W0.heap.size W0 wz := hHeld.trans (hbz.mono hHeld.size)
      refine hK.out _ _ (by exact kz) (fun hHeld1 => ?_)
      clear hK K
      refine wpAnyH_take (i := 7) (oi := { dst := some 45, op := Go.Op.unOp Go.UnOp.not 4 (Go.Operand.tmp 44), type := 4, pos := "law.go:117", after := #[{ on := 6, ground := Go.Ground.data }, { on := 3, ground := Go.Ground.guard }], guard := some (3, false) }) (v := ?_) rfl (by kernel_rfl) (by kernel_rfl) (by kernel_rfl) (fun _ _ _ h => h) (Or.inl ⟨by rfl, ?_⟩) (by assumption) ?_
      rotate_left
      · (intro w hSw; (try dsimp only at hSw); go_simp; (try with_reducible rfl))
      simp only [Act.put, List.setIfInBounds_toArray, List.set_cons_zero, List.set_cons_succ]
      refine wpAnyH_take (i := 8) (oi := { dst := some 46, op := Go.Op.pick (Go.Operand.tmp 41) (Go.Operand.const (Go.Value.bool true)) (Go.Operand.tmp 45), type := 4, pos := "law.go:117", after := #[{ on := 3, ground := Go.Ground.data }, { on := 7, ground := Go.Ground.data }], guard := none }) (v := ?_) rfl (by kernel_rfl) (by kernel_rfl) (by kernel_rfl) (fun _ _ _ h => h) (Or.inl ⟨by rfl, ?_⟩) (by assumption) ?_
      rotate_left
      · (intro w hSw; (try dsimp only at hSw); go_simp; (try with_reducible rfl))
      simp only [Act.put, List.setIfInBounds_toArray, List.set_cons_zero, List.set_cons_succ]
      refine wpAnyH_take (i := 9) (oi := { dst := some 47, op := Go.Op.move (Go.Operand.tmp 46), type := 4, pos := "law.go:117", after := #[{ on := 8, ground := Go.Ground.data }, { on := 6, ground := Go.Ground.chain }], guard := none }) (v := ?_) rfl (by kernel_rfl) (by kernel_rfl) (by kernel_rfl) (fun _ _ _ h => h) (Or.inl ⟨by rfl, ?_⟩) (by assumption) ?_
      rotate_left
      · (intro w hSw; (try dsimp only at hSw); go_simp; (try with_reducible rfl))
      simp only [Act.put, List.setIfInBounds_toArray, List.set_cons_zero, List.set_cons_succ]
      refine wpAnyH_take (i := 10) (oi := { dst := some 48, op := Go.Op.move (Go.Operand.tmp 3), type := 40, pos := "law.go:117", after := #[{ on := 9, ground := Go.Ground.guard }], guard := some (9, false) }) (v := ?_) rfl (by kernel_rfl) (by kernel_rfl) (by kernel_rfl) (fun _ _ _ h => h) (Or.inl ⟨by rfl, ?_⟩) (by assumption) ?_
      rotate_left
      · (intro w hSw; (try dsimp only at hSw); go_simp; (try with_reducible rfl))
      simp only [Act.put, List.setIfInBounds_toArray, List.set_cons_zero, List.set_cons_succ]
      refine wpAnyH_take (i := 12) (oi := { dst := some 50, op := Go.Op.fieldAddr 43 (Go.Operand.tmp 4) 2, type := 0, pos := "law.go:117", after := #[{ on := 9, ground := Go.Ground.guard }], guard := some (9, false) }) (v := ?_) rfl (by kernel_rfl) (by kernel_rfl) (by kernel_rfl) (fun _ _ _ h => h) (Or.inl ⟨by rfl, ?_⟩) (by assumption) ?_
      rotate_left
      · (intro w hSw; (try dsimp only at hSw); go_simp; (try with_reducible rfl))
      simp only [Act.put, List.setIfInBounds_toArray, List.set_cons_zero, List.set_cons_succ]
      refine wpAnyH_take (i := 13) (oi := { dst := some 51, op := Go.Op.load 3 (Go.Operand.tmp 50), type := 3, pos := "law.go:117", after := #[{ on := 12, ground := Go.Ground.data }, { on := 9, ground := Go.Ground.guard }], guard := some (9, false) }) (v := ?_) rfl (by kernel_rfl) (by kernel_rfl) (by kernel_rfl) (fun _ _ _ h => h) (Or.inl ⟨by rfl, ?_⟩) (by assumption) ?_
      rotate_left
      · (intro w hSw; (try dsimp only at hSw); have f0 := g2 w hSw; go_simp; (try with_reducible rfl))
      simp only [Act.put, List.setIfInBounds_toArray, List.set_cons_zero, List.set_cons_succ]
      refine wpAnyH_ready (rs := [11]) (by kernel_rfl) (by simp) ?_
      refine (AllReadyH.cons (o := { dst := some 49, op := Go.Op.call { callee := Go.Callee.value (Go.Operand.func 28), args := #[Go.Operand.tmp 48], argTypes := #[40] }, type := 3, pos := "law.go:117", after := #[{ on := 10, ground := Go.Ground.data }, { on := 9, ground := Go.Ground.chain }, { on := 9, ground := Go.Ground.guard }], guard := some (9, false) }) rfl (fun K hK => ?_) AllReadyH.nil)
      go_simp
      refine (BD _ hHeld1).out.mono ?_
      rintro e wy ⟨rfl, rfl⟩
      refine hK.out _ _ (by exact hHeld1) (fun hHeld2 => ?_)
      clear hK K
      refine wpAnyH_take (i := 14) (oi := { dst := some 52, op := Go.Op.binOp Go.BinOp.neq 3 (Go.Operand.tmp 49) (Go.Operand.tmp 51) 3, type := 4, pos := "law.go:117", after := #[{ on := 11, ground := Go.Ground.data }, { on := 13, ground := Go.Ground.data }, { on := 9, ground := Go.Ground.guard }], guard := some (9, false) }) (v := ?_) rfl (by kernel_rfl) (by kernel_rfl) (by kernel_rfl) (fun _ _ _ h => h) (Or.inl ⟨by rfl, ?_⟩) (by assumption) ?_
      rotate_left
      · (intro w hSw; (try dsimp only at hSw); go_simp; (try with_reducible rfl))
      simp only [Act.put, List.setIfInBounds_toArray, List.set_cons_zero, List.set_cons_succ]
      refine wpAnyH_take (i := 15) (oi := { dst := some 53, op := Go.Op.pick (Go.Operand.tmp 47) (Go.Operand.const (Go.Value.bool true)) (Go.Operand.tmp 52), type := 4, pos := "law.go:117", after := #[{ on := 9, ground := Go.Ground.data }, { on := 14, ground := Go.Ground.data }], guard := none }) (v := ?_) rfl (by kernel_rfl) (by kernel_rfl) (by kernel_rfl) (fun _ _ _ h => h) (Or.inl ⟨by rfl, ?_⟩) (by assumption) ?_
      rotate_left
      · (intro w hSw; (try dsimp only at hSw); go_simp; (try with_reducible rfl))
      simp only [Act.put, List.setIfInBounds_toArray, List.set_cons_zero, List.set_cons_succ]
      refine wpAnyH_done (by kernel_rfl) ?_ _
      clear g0 g1 g2 PS BD
      go_wp2_with fail
      go_roundw
      case rel => exact ⟨i + 1, ra2, rl2, rc2, by omega, by go_num, box (by rw [HS.out]; exact XP.out.keep hHeld2), box (by rw [HS.out]; exact MP.out.keep hHeld2), KW.out.trans (hHeld2.mono KW.out.size)⟩
      case measure => simp [intOf]; omega
    · have hz : ¬ ((i : Int) < (n : Int)) := by omega
      go_wp2_with fail
      go_ret
      exact ⟨rfl, kr⟩
end Go.Proofs.YthfoakomapmkeaaDoor
