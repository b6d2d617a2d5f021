/- What LinkupMeets holds in memory. -/
import Derived.Test.YtflaclocakbkgaaLkPl
import Derived.Test.YtflaclocakbkgaaLkMe
namespace Go.Proofs.Ytflaclocakbkgaa
open Go.RowKit

/-- A side as the mathematics tells it. -/
def Sv.abs (s : Sv) : Meet.Sd := ⟨s.mine, s.peer, s.seen, s.state, s.silent⟩
theorem abs_tick (s : Sv) : s.tickS.abs = Meet.tick s.dead s.abs := by
  unfold Sv.tickS Meet.tick
  by_cases h : s.peer = 0
  · rw [if_pos h, if_pos (show s.abs.peer = 0 from h)]
  · rw [if_neg h, if_neg (show ¬ s.abs.peer = 0 from h)]
    by_cases h2 : s.dead ≤ s.silent + 1
    · rw [if_pos h2, if_pos (show s.dead ≤ s.abs.silent + 1 from h2)]; rfl
    · rw [if_neg h2, if_neg (show ¬ s.dead ≤ s.abs.silent + 1 from h2)]; rfl
theorem abs_recv (s : Sv) (m y : Nat) (h1 : 1 ≤ m) (h2 : m < MAXN) : (s.recvS (m : Int) (y : Int)).abs = Meet.recv s.abs (m, y) := by
  unfold MAXN at h2
  unfold Sv.recvS Meet.recv
  by_cases h : m < s.seen
  · rw [if_pos (by omega), if_pos (show m < s.abs.seen from h)]
  · rw [if_neg (by omega), if_neg (show ¬ m < s.abs.seen from h)]
    show Meet.Sd.mk s.mine (m : Int).toNat (m : Int).toNat (if (y : Int) = (s.mine : Int) then 2 else 1) 0 = ⟨s.mine, m, m, if y = s.mine then 2 else 1, 0⟩
    rw [Int.toNat_natCast]
    by_cases hy : y = s.mine
    · rw [if_pos hy, if_pos (by omega)]
    · rw [if_neg hy, if_neg (by omega)]
theorem recv_dead (s : Sv) (m y : Int) : (s.recvS m y).dead = s.dead := by
  unfold Sv.recvS
  split <;> rfl
theorem tick_dead (s : Sv) : s.tickS.dead = s.dead := by
  unfold Sv.tickS
  split
  · rfl
  · split <;> rfl
/-- What a side in the conversation always is. -/
structure Good (n c : Nat) (s : Sv) : Prop where
  ok : s.Ok
  dead : s.dead = n
  ch : s.changes ≤ c
theorem Good.tick {n c : Nat} {s : Sv} (h : Good n c s) : Good n (c + 1) s.tickS := ⟨h.ok.tick, (tick_dead s).trans h.dead, by have := tick_changes s; have := h.ch; omega⟩
theorem Good.recv {n c : Nat} {s : Sv} (h : Good n c s) (m y : Int) : Good n (c + 1) (s.recvS m y) := ⟨h.ok.recv m y, (recv_dead s m y).trans h.dead, by have := recv_changes s m y; have := h.ch; omega⟩
theorem Good.le {n c c' : Nat} {s : Sv} (h : Good n c s) (hc : c ≤ c') : Good n c' s := ⟨h.ok, h.dead, Nat.le_trans h.ch hc⟩

/-- Blocks that are not one another. -/
structure Far (g bm bs bw m0 m1 : Nat) : Prop where
  bm : g ≠ bm
  bs : g ≠ bs
  bw : g ≠ bw
  m0 : g ≠ m0
  m1 : g ≠ m1
structure Dist (bm bs bw m0 m1 : Nat) : Prop where
  bm_bs : bm ≠ bs
  bm_bw : bm ≠ bw
  bm_m0 : bm ≠ m0
  bm_m1 : bm ≠ m1
  bs_bw : bs ≠ bw
  bs_m0 : bs ≠ m0
  bs_m1 : bs ≠ m1
  bw_m0 : bw ≠ m0
  bw_m1 : bw ≠ m1
  m0_m1 : m0 ≠ m1
structure ME (B : Nat) (w0 w : World) (bm bs bw m0 m1 g0 g1 ma mb : Nat) (sa sb : Sv) (e0 e1 : List (Int × Int × Int)) : Prop where
  rm : R2 w bm (.int .i64 (ma : Int)) (.int .i64 (mb : Int))
  rs : R2 w bs (.pointer (some ⟨g0, 0, none⟩)) (.pointer (some ⟨g1, 0, none⟩))
  rw : R2 w bw (.map (some m0)) (.map (some m1))
  x0 : SdAt w g0 sa
  x1 : SdAt w g1 sb
  y0 : MapIs w m0 e0
  y1 : MapIs w m1 e1
  bel : Below B w0 w
  sz : B ≤ w.heap.size
  lo : B ≤ bm ∧ B ≤ bs ∧ B ≤ m0 ∧ B ≤ m1 ∧ B ≤ g0 ∧ B ≤ g1
  ds : Dist bm bs bw m0 m1
  f0 : Far g0 bm bs bw m0 m1
  f1 : Far g1 bm bs bw m0 m1
  gg : g0 ≠ g1
section
variable {B : Nat} {w0 w w' : World} {bm bs bw m0 m1 g0 g1 ma mb : Nat} {sa sb : Sv} {e0 e1 : List (Int × Int × Int)}
theorem ME.keep (x : ME B w0 w bm bs bw m0 m1 g0 g1 ma mb sa sb e0 e1) (k : Below w.heap.size w w') : ME B w0 w' bm bs bw m0 m1 g0 g1 ma mb sa sb e0 e1 :=
  ⟨x.rm.keep k, x.rs.keep k, x.rw.keep k, x.x0.keep k, x.x1.keep k, x.y0.keep k, x.y1.keep k, x.bel.trans (k.mono x.sz), Nat.le_trans x.sz k.size, x.lo, x.ds, x.f0, x.f1, x.gg⟩
theorem ME.at0 {s' : Sv} (x : ME B w0 w bm bs bw m0 m1 g0 g1 ma mb sa sb e0 e1) (a : Apart g0 none w w') (z : SdAt w' g0 s') : ME B w0 w' bm bs bw m0 m1 g0 g1 ma mb s' sb e0 e1 :=
  ⟨x.rm.same (a.block bm x.rm.lt (Ne.symm x.f0.bm) (by simp)), x.rs.same (a.block bs x.rs.lt (Ne.symm x.f0.bs) (by simp)), x.rw.same (a.block bw x.rw.lt (Ne.symm x.f0.bw) (by simp)), z, x.x1.same (a.block g1 x.x1.lt (Ne.symm x.gg) (by simp)), x.y0.same (a.block m0 x.y0.lt (Ne.symm x.f0.m0) (by simp)), x.y1.same (a.block m1 x.y1.lt (Ne.symm x.f0.m1) (by simp)), a.below x.bel x.sz x.lo.2.2.2.2.1 (fun k hk => by cases hk), Nat.le_trans x.sz a.size, x.lo, x.ds, x.f0, x.f1, x.gg⟩
theorem ME.at1 {s' : Sv} (x : ME B w0 w bm bs bw m0 m1 g0 g1 ma mb sa sb e0 e1) (a : Apart g1 none w w') (z : SdAt w' g1 s') : ME B w0 w' bm bs bw m0 m1 g0 g1 ma mb sa s' e0 e1 :=
  ⟨x.rm.same (a.block bm x.rm.lt (Ne.symm x.f1.bm) (by simp)), x.rs.same (a.block bs x.rs.lt (Ne.symm x.f1.bs) (by simp)), x.rw.same (a.block bw x.rw.lt (Ne.symm x.f1.bw) (by simp)), x.x0.same (a.block g0 x.x0.lt x.gg (by simp)), z, x.y0.same (a.block m0 x.y0.lt (Ne.symm x.f1.m0) (by simp)), x.y1.same (a.block m1 x.y1.lt (Ne.symm x.f1.m1) (by simp)), a.below x.bel x.sz x.lo.2.2.2.2.2 (fun k hk => by cases hk), Nat.le_trans x.sz a.size, x.lo, x.ds, x.f0, x.f1, x.gg⟩
theorem ME.map0 {e' : List (Int × Int × Int)} (x : ME B w0 w bm bs bw m0 m1 g0 g1 ma mb sa sb e0 e1) (a : Apart m0 none w w') (z : MapIs w' m0 e') : ME B w0 w' bm bs bw m0 m1 g0 g1 ma mb sa sb e' e1 :=
  ⟨x.rm.same (a.block bm x.rm.lt x.ds.bm_m0 (by simp)), x.rs.same (a.block bs x.rs.lt x.ds.bs_m0 (by simp)), x.rw.same (a.block bw x.rw.lt x.ds.bw_m0 (by simp)), x.x0.same (a.block g0 x.x0.lt x.f0.m0 (by simp)), x.x1.same (a.block g1 x.x1.lt x.f1.m0 (by simp)), z, x.y1.same (a.block m1 x.y1.lt (Ne.symm x.ds.m0_m1) (by simp)), a.below x.bel x.sz x.lo.2.2.1 (fun k hk => by cases hk), Nat.le_trans x.sz a.size, x.lo, x.ds, x.f0, x.f1, x.gg⟩
theorem ME.map1 {e' : List (Int × Int × Int)} (x : ME B w0 w bm bs bw m0 m1 g0 g1 ma mb sa sb e0 e1) (a : Apart m1 none w w') (z : MapIs w' m1 e') : ME B w0 w' bm bs bw m0 m1 g0 g1 ma mb sa sb e0 e' :=
  ⟨x.rm.same (a.block bm x.rm.lt x.ds.bm_m1 (by simp)), x.rs.same (a.block bs x.rs.lt x.ds.bs_m1 (by simp)), x.rw.same (a.block bw x.rw.lt x.ds.bw_m1 (by simp)), x.x0.same (a.block g0 x.x0.lt x.f0.m1 (by simp)), x.x1.same (a.block g1 x.x1.lt x.f1.m1 (by simp)), x.y0.same (a.block m0 x.y0.lt x.ds.m0_m1 (by simp)), z, a.below x.bel x.sz x.lo.2.2.2.1 (fun k hk => by cases hk), Nat.le_trans x.sz a.size, x.lo, x.ds, x.f0, x.f1, x.gg⟩
theorem ME.mine {ma' mb' : Nat} (x : ME B w0 w bm bs bw m0 m1 g0 g1 ma mb sa sb e0 e1) (a : Apart bm none w w') (z : R2 w' bm (.int .i64 (ma' : Int)) (.int .i64 (mb' : Int))) : ME B w0 w' bm bs bw m0 m1 g0 g1 ma' mb' sa sb e0 e1 :=
  ⟨z, x.rs.same (a.block bs x.rs.lt (Ne.symm x.ds.bm_bs) (by simp)), x.rw.same (a.block bw x.rw.lt (Ne.symm x.ds.bm_bw) (by simp)), x.x0.same (a.block g0 x.x0.lt x.f0.bm (by simp)), x.x1.same (a.block g1 x.x1.lt x.f1.bm (by simp)), x.y0.same (a.block m0 x.y0.lt (Ne.symm x.ds.bm_m0) (by simp)), x.y1.same (a.block m1 x.y1.lt (Ne.symm x.ds.bm_m1) (by simp)), a.below x.bel x.sz x.lo.1 (fun k hk => by cases hk), Nat.le_trans x.sz a.size, x.lo, x.ds, x.f0, x.f1, x.gg⟩
/-- Another side 0. -/
theorem ME.swap0 {h : Nat} {s' : Sv} (x : ME B w0 w bm bs bw m0 m1 g0 g1 ma mb sa sb e0 e1) (k : Below w.heap.size w w') (z : SdAt w' h s') (hh : w.heap.size = h) : ME B w0 (w'.setCell ⟨bs, 0, none⟩ (.pointer (some ⟨h, 0, none⟩))) bm bs bw m0 m1 h g1 ma mb s' sb e0 e1 := by
  have y := x.keep k
  have a := (Apart.refl bs none w').setCell 0 (.pointer (some ⟨h, 0, none⟩))
  have hF : Far h bm bs bw m0 m1 := ⟨by have := x.rm.lt; omega, by have := x.rs.lt; omega, by have := x.rw.lt; omega, by have := x.y0.lt; omega, by have := x.y1.lt; omega⟩
  have hO : h ≠ g1 := by have := x.x1.lt; omega
  have hB : B ≤ h := by have := x.sz; omega
  refine ⟨y.rm.same (a.block bm y.rm.lt x.ds.bm_bs (by simp)), y.rs.set0 _, y.rw.same (a.block bw y.rw.lt (Ne.symm x.ds.bs_bw) (by simp)), z.same (a.block h z.lt hF.bs (by simp)), y.x1.same (a.block g1 y.x1.lt x.f1.bs (by simp)), y.y0.same (a.block m0 y.y0.lt (Ne.symm x.ds.bs_m0) (by simp)), y.y1.same (a.block m1 y.y1.lt (Ne.symm x.ds.bs_m1) (by simp)), a.below y.bel y.sz x.lo.2.1 (fun k hk => by cases hk), Nat.le_trans y.sz a.size, ⟨x.lo.1, x.lo.2.1, x.lo.2.2.1, x.lo.2.2.2.1, hB, x.lo.2.2.2.2.2⟩, x.ds, hF, x.f1, hO⟩
/-- Another side 1. -/
theorem ME.swap1 {h : Nat} {s' : Sv} (x : ME B w0 w bm bs bw m0 m1 g0 g1 ma mb sa sb e0 e1) (k : Below w.heap.size w w') (z : SdAt w' h s') (hh : w.heap.size = h) : ME B w0 (w'.setCell ⟨bs, 1, none⟩ (.pointer (some ⟨h, 0, none⟩))) bm bs bw m0 m1 g0 h ma mb sa s' e0 e1 := by
  have y := x.keep k
  have a := (Apart.refl bs none w').setCell 1 (.pointer (some ⟨h, 0, none⟩))
  have hF : Far h bm bs bw m0 m1 := ⟨by have := x.rm.lt; omega, by have := x.rs.lt; omega, by have := x.rw.lt; omega, by have := x.y0.lt; omega, by have := x.y1.lt; omega⟩
  have hO : h ≠ g0 := by have := x.x0.lt; omega
  have hB : B ≤ h := by have := x.sz; omega
  refine ⟨y.rm.same (a.block bm y.rm.lt x.ds.bm_bs (by simp)), y.rs.set1 _, y.rw.same (a.block bw y.rw.lt (Ne.symm x.ds.bs_bw) (by simp)), y.x0.same (a.block g0 y.x0.lt x.f0.bs (by simp)), z.same (a.block h z.lt hF.bs (by simp)), y.y0.same (a.block m0 y.y0.lt (Ne.symm x.ds.bs_m0) (by simp)), y.y1.same (a.block m1 y.y1.lt (Ne.symm x.ds.bs_m1) (by simp)), a.below y.bel y.sz x.lo.2.1 (fun k hk => by cases hk), Nat.le_trans y.sz a.size, ⟨x.lo.1, x.lo.2.1, x.lo.2.2.1, x.lo.2.2.2.1, x.lo.2.2.2.2.1, hB⟩, x.ds, x.f0, hF, hO.symm⟩
theorem ME.drew (x : ME B w0 w bm bs bw m0 m1 g0 g1 ma mb sa sb e0 e1) : ME B w0 w.drew bm bs bw m0 m1 g0 g1 ma mb sa sb e0 e1 :=
  ⟨x.rm.same rfl, x.rs.same rfl, x.rw.same rfl, x.x0.same rfl, x.x1.same rfl, x.y0.same rfl, x.y1.same rfl, ⟨x.bel.os, x.bel.tape, x.bel.output, x.bel.size, x.bel.block⟩, x.sz, x.lo, x.ds, x.f0, x.f1, x.gg⟩
theorem ME.drewN (x : ME B w0 w bm bs bw m0 m1 g0 g1 ma mb sa sb e0 e1) (n : Nat) : ME B w0 (w.drewN n) bm bs bw m0 m1 g0 g1 ma mb sa sb e0 e1 :=
  ⟨x.rm.same rfl, x.rs.same rfl, x.rw.same rfl, x.x0.same rfl, x.x1.same rfl, x.y0.same rfl, x.y1.same rfl, ⟨x.bel.os, x.bel.tape, x.bel.output, x.bel.size, x.bel.block⟩, x.sz, x.lo, x.ds, x.f0, x.f1, x.gg⟩
end
/-- What the two sides are, as the mathematics tells it. -/
structure Hf (n c : Nat) (A B : Meet.Sd) (ma mb : Nat) (sa sb : Sv) : Prop where
  ea : sa.abs = A
  eb : sb.abs = B
  ma : sa.mine = ma
  mb : sb.mine = mb
  ga : Good n c sa
  gb : Good n c sb
namespace Meet
theorem mine_le (p : Par) : ∀ t, (run p t).a.mine ≤ p.ma + t ∧ (run p t).b.mine ≤ p.mb + t
  | 0 => ⟨Nat.le_refl _, Nat.le_refl _⟩
  | t + 1 => by
    have ih := mine_le p t
    have e1 : (run p (t + 1)).a.mine = (rst (p.ra t) (run p t).a).mine := (take_mine _ _).trans (tick_mine _ _).1
    have e2 : (run p (t + 1)).b.mine = (rst (p.rb t) (run p t).b).mine := (take_mine _ _).trans (tick_mine _ _).1
    have r1 : (rst (p.ra t) (run p t).a).mine ≤ (run p t).a.mine + 1 := by
      unfold rst
      split
      · exact Nat.le_refl _
      · exact Nat.le_succ _
    have r2 : (rst (p.rb t) (run p t).b).mine ≤ (run p t).b.mine + 1 := by
      unfold rst
      split
      · exact Nat.le_refl _
      · exact Nat.le_succ _
    omega
theorem mid_le (p : Par) (t : Nat) : (midA p t (run p t)).mine = (run p (t + 1)).a.mine ∧ (midB p t (run p t)).mine = (run p (t + 1)).b.mine := ⟨(take_mine _ _).symm, (take_mine _ _).symm⟩
theorem pos_hist (p : Par) (h1 : 1 ≤ p.ma) (h2 : 1 ≤ p.mb) : ∀ t, (∀ g, some g ∈ (run p t).ha → 1 ≤ g.1) ∧ (∀ g, some g ∈ (run p t).hb → 1 ≤ g.1)
  | 0 => ⟨(fun g h => by cases h), (fun g h => by cases h)⟩
  | t + 1 => by
    have ih := pos_hist p h1 h2 t
    have m := ma_pos p h1 h2 (t + 1)
    have q := mid_le p t
    constructor
    · intro g hg
      have hg : some g ∈ (run p t).ha ++ [sent (p.ka t) (midA p t (run p t))] := hg
      rcases List.mem_append.1 hg with hg | hg
      · exact ih.1 g hg
      · simp at hg
        unfold sent at hg
        split at hg
        · cases hg; show 1 ≤ (midA p t (run p t)).mine; omega
        · cases hg
    · intro g hg
      have hg : some g ∈ (run p t).hb ++ [sent (p.kb t) (midB p t (run p t))] := hg
      rcases List.mem_append.1 hg with hg | hg
      · exact ih.2 g hg
      · simp at hg
        unfold sent at hg
        split at hg
        · cases hg; show 1 ≤ (midB p t (run p t)).mine; omega
        · cases hg
/-- What arrives is a greeting that was sent. -/
theorem arr_ok (p : Par) (h1 : 1 ≤ p.ma) (h2 : 1 ≤ p.mb) (t : Nat) (g : Nat × Nat) : (arr p.d (run p (t + 1)).ha = some g → 1 ≤ g.1 ∧ g.1 ≤ p.ma + t + 1) ∧ (arr p.d (run p (t + 1)).hb = some g → 1 ≤ g.1 ∧ g.1 ≤ p.mb + t + 1) := by
  have P := pos_hist p h1 h2 (t + 1)
  have O := ok p (t + 1)
  have M := mine_le p (t + 1)
  constructor
  · intro e
    have := P.1 g (arr_mem e)
    have := O.ha g (arr_mem e)
    omega
  · intro e
    have := P.2 g (arr_mem e)
    have := O.hb g (arr_mem e)
    omega
/-- The state behind i halves of the first part of a turn. -/
def fA (p : Par) (t i : Nat) : Sd := if 1 ≤ i then midA p t (run p t) else (run p t).a
def fB (p : Par) (t i : Nat) : Sd := if 2 ≤ i then midB p t (run p t) else (run p t).b
def fHA (p : Par) (t i : Nat) : List (Option (Nat × Nat)) := if 1 ≤ i then (run p (t + 1)).ha else (run p t).ha
def fHB (p : Par) (t i : Nat) : List (Option (Nat × Nat)) := if 2 ≤ i then (run p (t + 1)).hb else (run p t).hb
/-- .. of the second part. -/
def uA (p : Par) (t i : Nat) : Sd := if 1 ≤ i then (run p (t + 1)).a else midA p t (run p t)
def uB (p : Par) (t i : Nat) : Sd := if 2 ≤ i then (run p (t + 1)).b else midB p t (run p t)
end Meet
end Go.Proofs.Ytflaclocakbkgaa
