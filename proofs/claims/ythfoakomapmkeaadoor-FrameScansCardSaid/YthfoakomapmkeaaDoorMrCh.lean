/- The reference's Push at a stop symbol, and whole: its contracts. -/
import Derived.Test.YthfoakomapmkeaaDoorMrR
import Derived.Test.YthfoakomapmkeaaDoorMrS
import Derived.Test.YthfoakomapmkeaaDoorMrCg
import Derived.Test.YthfoakomapmkeaaDoorMrE
import Derived.Test.YthfoakomapmkeaaDoorMrA
namespace Go.Proofs.YthfoakomapmkeaaDoor
open Go.RowKit

/-- What the reference's scanner answers at the end of a packet. -/
def RStop (xs : List Nat) (bad : Nat) (w : World) (e : Ending) (w' : World) : Prop :=
  Below w.heap.size w w' ∧
  ((goodS xs = false ∧ e = .returned (.tuple #[scV false none 0 0 (bad + 1), pk0, .bool false])) ∨
   (goodS xs = true ∧ ∃ (a : Option Addr) (l c : Nat), e = .returned (.tuple #[scV false none 0 0 bad, pkV (pktB (bytesS xs)).k (pktB (bytesS xs)).c (pktB (bytesS xs)).n (pktB (bytesS xs)).v a l c, .bool true]) ∧ (pktB (bytesS xs)).pay.length = l ∧ In w' a (pktB (bytesS xs)).pay ∧ ∀ g, a = some g → w.heap.size ≤ g.block))

theorem rdec_ok2 (a : Option Addr) (n c : Nat) (xs : List Nat) (hn : xs.length = n) (hx : ∀ x ∈ xs, x < 256) (hcap : n ≤ c) (hr : decE xs = 0) (w : World) (hc : In w a xs) :
    Calls Tryd.prog 23 #[.slice a n c] w fun e w' => ∃ (a' : Option Addr) (c' : Nat), e = .returned (.tuple #[pkV (xs.getD 0 0) (xs.getD 1 0 : Nat) (numAt xs 2 : Nat) (numAt xs 7 : Nat) a' (n - 17) c', .int .i64 0]) ∧ Box (In w' a' ((xs.drop 13).take (n - 17))) ∧ (∀ g, a' = some g → w.heap.size ≤ g.block) ∧ Below w.heap.size w w' := by
  refine (rdec_any a n c xs hn hx hcap w hc).mono ?_
  rintro e w' ⟨hb, h | ⟨_, a', c', h1, h2, h3, h4, h5⟩⟩
  · exact absurd hr h.1
  · rw [hn] at h1 h2
    exact ⟨a', c', h1, box h2, h5, hb⟩

set_option maxRecDepth 100000 in
set_option maxHeartbeats 8000000 in
theorem rpush_stop (a : Option Addr) (l cap bad : Nat) (xs : List Nat) (hl : xs.length = l) (hbad : bad < 100000) (hroom : l ≤ 162) (hx : ∀ x ∈ xs, idx x < 16 ∧ x < 256) (w : World) (hin : In w a xs) :
    Calls Tryd.prog 27 #[scV true a l cap bad, nU8 50] w (RStop xs bad w) := by
  have HI := fun w => box (index_any 50 (by omega) w)
  have hk : idxI 50 = (17 : Nat) := idxI_lt idx50 (by omega)
  rw [hk] at HI
  have HXL := box (fun y hy => (hx y hy).2 : ∀ y ∈ xs, y < 256)
  have HOK := box (show okTo xs xs.length from fun j hj => (hx _ (by rw [List.getD_eq_getElem?_getD, List.getElem?_eq_getElem hj]; exact List.getElem_mem hj)).1)
  have HIN := box hin
  clear hk hx hin
  go_enter Tryd.func27, Tryd.ntmps27
  go_wp2_with fail
  have PA := pat_start w true a l cap bad
  refine (HI _).out.mono ?_
  rintro e w2 ⟨rfl, hb2⟩
  have PB := box (PA.keep hb2)
  clear PA hb2 HI
  obtain ⟨s0, s1, s2, r0, r1, r2, q0, q1, q2, q3, q4, kb, zs, zr, zq, kz⟩ := PB.out
  go_wp2_with fail
  refine (rdecode_any a l cap xs hl HXL.out (by omega) w2 (HIN.out.below kb)).mono ?_
  rintro e w3 ⟨hb3, hcase⟩
  replace PB := box (PB.out.keep hb3)
  clear s0 s1 s2 r0 r1 r2 q0 q1 q2 q3 q4 kb zs zr zq kz hb3
  rcases hcase with ⟨i, hi, _, h16, _⟩ | ⟨_, hodd, rfl⟩ | ⟨_, heven, v, rfl, hown⟩
  · exact absurd (HOK.out i (by omega)) (by omega)
  · have hg : goodS xs = false := decide_eq_false (fun h => by omega)
    have HF := fun w' (h : Below w.heap.size w w') => box (show RStop xs bad w (.returned (.tuple #[scV false none 0 0 (bad + 1), pk0, .bool false])) w' from ⟨h, .inl ⟨hg, rfl⟩⟩)
    clear hg hodd
    go_wp2_with fail
    refine (rdec_short none 0 0 [] rfl (by omega) w3).mono ?_
    rintro e w4 ⟨hb4, hres⟩
    obtain rfl : e = .returned (.tuple #[pk0, .int .i64 4]) := by
      rcases hres with h | h
      · exact h.2
      · exact absurd h.1 (by decide)
    replace PB := box (PB.out.keep hb4)
    clear hb4 hres
    have kA := (Below.refl w4.heap.size w4).alloc (Nat.le_refl _) (.cells #[.int .u8 0, .int .i64 0, .int .i64 0, .int .i64 0, .slice none 0 0] 24)
    have PC := PB.out.keep kA
    clear kA
    obtain ⟨s0, s1, s2, r0, r1, r2, q0, q1, q2, q3, q4, kb, zs, zr, zq, kz⟩ := PC
    go_wp2_with fail
    have E := put8_res (w := w) (w2 := w4.alloc (.cells #[.int .u8 0, .int .i64 0, .int .i64 0, .int .i64 0, .slice none 0 0] 24)) (r := w.heap.size + 1) (q := w.heap.size + 1 + 1) (by omega) (by omega) (by omega) (.bool false) (.slice none 0 0) (.int .i64 ((bad : Int) + 1)) (nU8 0) (.int .i64 0) (.int .i64 0) (.int .i64 0) (.slice none 0 0) r0 r1 r2 q0 q1 q2 q3 q4 kb
    clear r0 r1 r2 q0 q1 q2 q3 q4 kb s0 s1 s2 zs zr zq kz
    change bodyPost _ _ _ _ _ (put8 (w4.alloc (.cells #[.int .u8 0, .int .i64 0, .int .i64 0, .int .i64 0, .slice none 0 0] 24)) (w.heap.size + 1) (w.heap.size + 1 + 1) (.bool false) (.slice none 0 0) (.int .i64 ((bad : Int) + 1)) (nU8 0) (.int .i64 0) (.int .i64 0) (.int .i64 0) (.slice none 0 0))
    generalize put8 (w4.alloc (.cells #[.int .u8 0, .int .i64 0, .int .i64 0, .int .i64 0, .slice none 0 0] 24)) (w.heap.size + 1) (w.heap.size + 1 + 1) (.bool false) (.slice none 0 0) (.int .i64 ((bad : Int) + 1)) (nU8 0) (.int .i64 0) (.int .i64 0) (.int .i64 0) (.slice none 0 0) = w9 at E ⊢
    obtain ⟨r0, r1, r2, q0, q1, q2, q3, q4, kb⟩ := E
    exact bodyPost_ret (v := .tuple #[scV false none 0 0 (bad + 1), pk0, .bool false]) (by simp [results, Tryd.results27, go_sem, r0, r1, r2, q0, q1, q2, q3, q4]) rfl (HF _ kb).out
  · obtain ⟨bs, hbs⟩ : ∃ bs, decTo xs (l / 2) = bs := ⟨_, rfl⟩
    have hbl : bs.length = l / 2 := by rw [← hbs, decTo_length]
    have HBL := box (show ∀ x ∈ bs, x < 256 from by rw [← hbs]; exact decTo_lt (fun j hj => HOK.out j (by omega)))
    have hgd : goodS xs = decide (decE bs = 0) := by unfold goodS bytesS; rw [hl, hbs]; simp [heven]
    have hps : bytesS xs = bs := by unfold bytesS; rw [hl, hbs]
    have HG := box hgd
    have HPS := box hps
    rw [hbs] at hown
    obtain ⟨ba, bc, rfl, hbi, _, hbc⟩ := own_form hbl hown
    have HBI := box hbi
    clear hbs hown hgd hps hbi heven
    obtain ⟨m, hm⟩ : ∃ m, l / 2 = m := ⟨_, rfl⟩
    rw [hm] at hbl hbc ⊢
    clear hm
    go_wp2_with fail
    obtain ⟨r, hr⟩ : ∃ r, decE bs = r := ⟨_, rfl⟩
    by_cases h0 : r = 0
    · subst h0
      have hg : goodS xs = true := by rw [HG.out]; exact decide_eq_true hr
      have h17 := (bytes_dec HBL.out hr).2.1
      have LW3 := PB.out.size
      refine (rdec_ok2 ba m bc bs hbl HBL.out hbc hr w3 HBI.out).mono ?_
      rintro e w4 ⟨a9, c9, rfl, hi9, hf9, hb4⟩
      have HF9 := box (fun g hg => Nat.le_trans LW3 (hf9 g hg))
      clear hf9 LW3
      replace PB := box (PB.out.keep hb4)
      clear hb4
      rw [hbl] at h17
      have HPK := box (show pktB (bytesS xs) = ⟨bs.getD 0 0, (bs.getD 1 0 : Nat), (numAt bs 2 : Nat), (numAt bs 7 : Nat), (bs.drop 13).take (m - 17)⟩ from by rw [HPS.out]; unfold pktB; rw [hbl])
      have hpl : ((bs.drop 13).take (m - 17)).length = m - 17 := by simp; omega
      generalize bs.getD 0 0 = p0 at HPK ⊢
      generalize bs.getD 1 0 = p1 at HPK ⊢
      generalize numAt bs 2 = p2 at HPK ⊢
      generalize numAt bs 7 = p3 at HPK ⊢
      generalize (bs.drop 13).take (m - 17) = py at HPK hi9 hpl
      generalize m - 17 = t at hpl ⊢
      have HF := fun w' (h : Below w.heap.size w w') (hi : In w' a9 py) => box (show RStop xs bad w (.returned (.tuple #[scV false none 0 0 bad, pkV p0 p1 p2 p3 a9 t c9, .bool true])) w' from ⟨h, .inr ⟨hg, by rw [HPK.out]; exact ⟨a9, t, c9, rfl, hpl, hi, fun g hg => by have := HF9.out g hg; omega⟩⟩⟩)
      clear hg
      have kA := (Below.refl w4.heap.size w4).alloc (Nat.le_refl _) (.cells (pkC p0 (p1 : Nat) (p2 : Nat) (p3 : Nat) a9 t c9) 24)
      have T := pk5_new w4 p0 (p1 : Nat) (p2 : Nat) (p3 : Nat) a9 t c9 w4.heap.size rfl
      have PC := PB.out.keep kA
      have HI9 := box (hi9.out.below kA)
      have kz0 := PB.out.size
      have n1 : w.heap.size + 1 ≠ w4.heap.size := by omega
      have n2 : w.heap.size + 1 + 1 ≠ w4.heap.size := by omega
      have n3 : w.heap.size ≠ w4.heap.size := by omega
      clear kA hi9
      go_wp2_with fail
      generalize w4.alloc (.cells (pkC p0 (p1 : Nat) (p2 : Nat) (p3 : Nat) a9 t c9) 24) = wA at T PC HI9 ⊢
      obtain ⟨s0, s1, s2, r0, r1, r2, q0, q1, q2, q3, q4, kb, zs, zr, zq, kz⟩ := PC
      obtain ⟨t0, t1, t2, t3, t4, tz⟩ := T
      go_region
      all_goals
        have E := put8_res (w := w) (w2 := wA) (r := w.heap.size + 1) (q := w.heap.size + 1 + 1) (by omega) (by omega) (by omega) (.bool false) (.slice none 0 0) (.int .i64 bad) (nU8 p0) (.int .i64 p1) (.int .i64 p2) (.int .i64 p3) (.slice a9 t c9) r0 r1 r2 q0 q1 q2 q3 q4 kb
        have I9 := put8_in HI9.out (w.heap.size + 1) (w.heap.size + 1 + 1) (.bool false) (.slice none 0 0) (.int .i64 bad) (nU8 p0) (.int .i64 p1) (.int .i64 p2) (.int .i64 p3) (.slice a9 t c9) (fun g hg => by have := HF9.out g hg; omega) (fun g hg => by have := HF9.out g hg; omega)
        clear r0 r1 r2 q0 q1 q2 q3 q4 kb s0 s1 s2 zs zr zq kz t0 t1 t2 t3 t4 tz
        go_wp2_with fail
        change bodyPost _ _ _ _ _ (put8 wA (w.heap.size + 1) (w.heap.size + 1 + 1) (.bool false) (.slice none 0 0) (.int .i64 bad) (nU8 p0) (.int .i64 p1) (.int .i64 p2) (.int .i64 p3) (.slice a9 t c9)).drew
        generalize put8 wA (w.heap.size + 1) (w.heap.size + 1 + 1) (.bool false) (.slice none 0 0) (.int .i64 bad) (nU8 p0) (.int .i64 p1) (.int .i64 p2) (.int .i64 p3) (.slice a9 t c9) = w9 at E I9 ⊢
        obtain ⟨r0, r1, r2, q0, q1, q2, q3, q4, kb⟩ := E
        exact bodyPost_ret (v := .tuple #[scV false none 0 0 bad, pkV p0 p1 p2 p3 a9 t c9, .bool true]) (by simp [results, Tryd.results27, go_sem, r0, r1, r2, q0, q1, q2, q3, q4]) rfl (HF _ kb.drew (I9.below ((Below.refl _ _).drew))).out
    · have hg : goodS xs = false := by rw [HG.out]; exact decide_eq_false (by omega)
      have HF := fun w' (h : Below w.heap.size w w') => box (show RStop xs bad w (.returned (.tuple #[scV false none 0 0 (bad + 1), pk0, .bool false])) w' from ⟨h, .inl ⟨hg, rfl⟩⟩)
      clear hg
      refine (rdec_err ba m bc bs hbl HBL.out hbc r hr h0 w3 HBI.out).mono ?_
      rintro e w4 ⟨rfl, hb4⟩
      replace PB := box (PB.out.keep hb4)
      have rn : ((r : Int) == 0) = false := by simp; omega
      clear hb4
      have kA := (Below.refl w4.heap.size w4).alloc (Nat.le_refl _) (.cells #[.int .u8 0, .int .i64 0, .int .i64 0, .int .i64 0, .slice none 0 0] 24)
      have PC := PB.out.keep kA
      clear kA
      obtain ⟨s0, s1, s2, r0, r1, r2, q0, q1, q2, q3, q4, kb, zs, zr, zq, kz⟩ := PC
      go_wp2_with fail
      have E := put8_res (w := w) (w2 := w4.alloc (.cells #[.int .u8 0, .int .i64 0, .int .i64 0, .int .i64 0, .slice none 0 0] 24)) (r := w.heap.size + 1) (q := w.heap.size + 1 + 1) (by omega) (by omega) (by omega) (.bool false) (.slice none 0 0) (.int .i64 ((bad : Int) + 1)) (nU8 0) (.int .i64 0) (.int .i64 0) (.int .i64 0) (.slice none 0 0) r0 r1 r2 q0 q1 q2 q3 q4 kb
      clear r0 r1 r2 q0 q1 q2 q3 q4 kb s0 s1 s2 zs zr zq kz
      change bodyPost _ _ _ _ _ (put8 (w4.alloc (.cells #[.int .u8 0, .int .i64 0, .int .i64 0, .int .i64 0, .slice none 0 0] 24)) (w.heap.size + 1) (w.heap.size + 1 + 1) (.bool false) (.slice none 0 0) (.int .i64 ((bad : Int) + 1)) (nU8 0) (.int .i64 0) (.int .i64 0) (.int .i64 0) (.slice none 0 0))
      generalize put8 (w4.alloc (.cells #[.int .u8 0, .int .i64 0, .int .i64 0, .int .i64 0, .slice none 0 0] 24)) (w.heap.size + 1) (w.heap.size + 1 + 1) (.bool false) (.slice none 0 0) (.int .i64 ((bad : Int) + 1)) (nU8 0) (.int .i64 0) (.int .i64 0) (.int .i64 0) (.slice none 0 0) = w9 at E ⊢
      obtain ⟨r0, r1, r2, q0, q1, q2, q3, q4, kb⟩ := E
      exact bodyPost_ret (v := .tuple #[scV false none 0 0 (bad + 1), pk0, .bool false]) (by simp [results, Tryd.results27, go_sem, r0, r1, r2, q0, q1, q2, q3, q4]) rfl (HF _ kb).out

theorem rpush_any (s : Sc) (hs : s.Ok) (hb : s.bad < 100000) (y : Nat) (hy : y < 256) (a : Option Addr) (l cap : Nat) (hl : s.syms.length = l) (w : World) (hin : In w a s.syms) (hnil : a = none → cap = 0) :
    Calls Tryd.prog 27 #[scV s.ins a l cap s.bad, nU8 y] w fun e w' => Below w.heap.size w w' ∧ ∃ (a' : Option Addr) (l' cap' : Nat), (stepS s y).syms.length = l' ∧ In w' a' (stepS s y).syms ∧ (a' = none → cap' = 0) ∧ ((a' = a ∧ stepS s y = s) ∨ ∀ g, a' = some g → w.heap.size ≤ g.block) ∧
      ((foundS s y = none ∧ e = .returned (.tuple #[scV (stepS s y).ins a' l' cap' (stepS s y).bad, pk0, .bool false])) ∨
       (∃ p, foundS s y = some p ∧ ∃ (pa : Option Addr) (pl pc : Nat), e = .returned (.tuple #[scV (stepS s y).ins a' l' cap' (stepS s y).bad, pkV p.k p.c p.n p.v pa pl pc, .bool true]) ∧ p.pay.length = pl ∧ In w' pa p.pay ∧ ∀ g, pa = some g → w.heap.size ≤ g.block)) := by
  obtain ⟨i, xs, b⟩ := s
  have hb : b < 100000 := hb
  have hl : xs.length = l := hl
  by_cases h49 : y = 49
  · subst h49
    have hf : foundS ⟨i, xs, b⟩ 49 = none := by unfold foundS; rw [if_neg (fun h => by omega)]
    have hst : stepS ⟨i, xs, b⟩ 49 = ⟨true, [], if i then b + 1 else b⟩ := by unfold stepS; rw [if_pos rfl]
    refine (rpush_start i a l cap b hb w).mono ?_
    rintro e w' ⟨h1, h2⟩
    rw [hst, hf]
    exact ⟨h2, none, 0, 0, rfl, .inl rfl, fun _ => rfl, .inr (fun g h => by cases h), .inl ⟨rfl, h1⟩⟩
  have n16 : idx y ≠ 16 := fun h => h49 (idx_49 y hy h)
  cases i
  · have hf : foundS ⟨false, xs, b⟩ y = none := by unfold foundS; rw [if_neg (fun h => by cases h.2.1)]
    have hst : stepS ⟨false, xs, b⟩ y = ⟨false, xs, b⟩ := by unfold stepS; rw [if_neg h49, if_pos rfl]
    refine (rpush_out a l cap b y hy h49 w).mono ?_
    rintro e w' ⟨h1, h2⟩
    rw [hst, hf]
    exact ⟨h2, a, l, cap, hl, hin.below h2, hnil, .inl ⟨rfl, rfl⟩, .inl ⟨rfl, h1⟩⟩
  by_cases h50 : y = 50
  · subst h50
    have hst : stepS ⟨true, xs, b⟩ 50 = ⟨false, [], if goodS xs then b else b + 1⟩ := by unfold stepS; rw [if_neg h49, if_neg (by simp), if_pos rfl]
    refine (rpush_stop a l cap b xs hl hb (by have := hs.room; omega) hs.data w hin).mono ?_
    rintro e w' ⟨h2, h3⟩
    rw [hst]
    refine ⟨h2, none, 0, 0, rfl, .inl rfl, fun _ => rfl, .inr (fun g h => by cases h), ?_⟩
    rcases h3 with ⟨hg, h3⟩ | ⟨hg, pa, pl, pc, h3, h4, h5, h6⟩
    · refine .inl ⟨by unfold foundS; rw [if_neg (fun h => by rw [hg] at h; cases h.2.2)], ?_⟩
      rw [h3, hg]; rfl
    · refine .inr ⟨pktB (bytesS xs), by unfold foundS; rw [if_pos ⟨rfl, rfl, hg⟩], pa, pl, pc, ?_, h4, h5, h6⟩
      rw [h3, hg]; rfl
  have n17 : idx y ≠ 17 := fun h => h50 (idx_50 y hy h)
  have hf : foundS ⟨true, xs, b⟩ y = none := by unfold foundS; rw [if_neg (fun h => h50 h.1)]
  have room := hs.room
  have room : xs.length ≤ 162 := room
  by_cases c16 : idx y < 16
  · by_cases c162 : xs.length < 162
    · have hst : stepS ⟨true, xs, b⟩ y = ⟨true, xs ++ [y], b⟩ := by unfold stepS; rw [if_neg h49, if_neg (by simp), if_neg h50, if_pos c16, if_pos c162]
      refine (rpush_data a l cap b y xs hl hy c16 h49 (by omega) w hin hnil).mono ?_
      rintro e w' ⟨v, c, h1, h2, h3, h4, h5⟩
      rw [hst, hf]
      exact ⟨h5, v, l + 1, c, by simp [hl], h2, h3, .inr (fun g hg => Nat.le_trans (Nat.le_add_right _ 3) (h4 g hg)), .inl ⟨rfl, h1⟩⟩
    · have hst : stepS ⟨true, xs, b⟩ y = ⟨false, [], b + 1⟩ := by unfold stepS; rw [if_neg h49, if_neg (by simp), if_neg h50, if_pos c16, if_neg c162]
      refine (rpush_full a l cap b y hb hy h49 h50 c16 (by omega) w).mono ?_
      rintro e w' ⟨h1, h2⟩
      rw [hst, hf]
      exact ⟨h2, none, 0, 0, rfl, .inl rfl, fun _ => rfl, .inr (fun g h => by cases h), .inl ⟨rfl, h1⟩⟩
  have hst : stepS ⟨true, xs, b⟩ y = ⟨false, [], b + 1⟩ := by unfold stepS; rw [if_neg h49, if_neg (by simp), if_neg h50, if_neg c16]
  by_cases c20 : idx y < 20
  · refine (rpush_ctl a l cap b y hb hy h49 h50 c20 (by omega) w).mono ?_
    rintro e w' ⟨h1, h2⟩
    rw [hst, hf]
    exact ⟨h2, none, 0, 0, rfl, .inl rfl, fun _ => rfl, .inr (fun g h => by cases h), .inl ⟨rfl, h1⟩⟩
  · refine (rpush_bad a l cap b y hb hy h49 h50 c20 w).mono ?_
    rintro e w' ⟨h1, h2⟩
    rw [hst, hf]
    exact ⟨h2, none, 0, 0, rfl, .inl rfl, fun _ => rfl, .inr (fun g h => by cases h), .inl ⟨rfl, h1⟩⟩
end Go.Proofs.YthfoakomapmkeaaDoor
