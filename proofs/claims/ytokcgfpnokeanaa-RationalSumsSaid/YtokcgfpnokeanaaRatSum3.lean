/- The law of sums: its walk. -/
import Derived.Test.YtokcgfpnokeanaaRatSum2
namespace Go.Proofs.Ytokcgfpnokeanaa
open Go.RowKit Go.Shelf

set_option maxRecDepth 100000 in
set_option maxHeartbeats 4000000 in
theorem sums_nil (a : Option Addr) (c : Nat) (w : World) :
    Calls Try.prog 9 #[.slice a 0 c] w fun e w' => e = .returned (.bool true) ∧ Below w.heap.size w w' := by
  have hka := @World.cell?_alloc_some
  go_enter Try.func9, Try.ntmps9
  go_wp2_with fail
  refine (awake_any _).mono ?_
  rintro e w1 ⟨rfl, hb1⟩
  have kb1 : Below w.heap.size w w1 := hb1
  clear hb1
  go_wp2_with fail
  refine (sum_nil a c _).mono ?_
  rintro e w2 ⟨rfl, hb2⟩
  replace kb1 : Below w.heap.size w w2 := kb1.trans (hb2.mono kb1.size)
  clear hb2
  go_wp2_with fail
  go_loopw [26] (fun t26 wr => t26 = .int .i64 0 ∧ wr.cell? ⟨w2.heap.size + 1, 0, none⟩ = some (.int .i64 0) ∧ wr.cell? ⟨w2.heap.size + 1, 1, none⟩ = some (.int .i64 1) ∧ wr.cell? ⟨w2.heap.size, 0, none⟩ = some (.int .i64 0) ∧ wr.cell? ⟨w2.heap.size, 1, none⟩ = some (.int .i64 1) ∧ Below w.heap.size w wr) (fun t26 _ => 0)
  case atStart =>
    refine ⟨rfl, ?_, ?_, ?_, ?_, ?_⟩
    rotate_left 4
    · exact (kb1.alloc kb1.size _).alloc (Nat.le_trans kb1.size (by simp)) _
    all_goals simp [go_sem]
  case round =>
    obtain ⟨rfl, k0, k1, k4, k5, kb⟩ := hrel
    go_wp2_with fail
    go_ret
    exact ⟨rfl, kb⟩

set_option maxRecDepth 100000 in
set_option maxHeartbeats 4000000 in
theorem sums_law (l : List (Int × Int)) (p off c : Nat) (w : World) (hc : ∀ i (h : i < l.length), w.cell? ⟨p, off + i * 2, none⟩ = some (.int .i64 l[i].1) ∧ w.cell? ⟨p, off + i * 2 + 1, none⟩ = some (.int .i64 l[i].2))
    (hr : ∀ x ∈ l, I64 x.1 ∧ I64 x.2) (hl : l.length ≤ 50) :
    Calls Try.prog 9 #[.slice (some ⟨p, off, none⟩) l.length c] w fun e w' => e = .returned (.bool true) ∧ Below w.heap.size w w' := by
  have hd : decide ((50 : Int) < (l.length : Int)) = false := decide_eq_false (by omega)
  have HC := Lib.hid hc
  have HRR := Lib.hid hr
  have HSUM : Hid (∀ w1 : World, Below w.heap.size w w1 → Calls Try.prog 30 #[.slice (some ⟨p, off, none⟩) l.length c] w1 fun e w' =>
      e = .returned (.tuple #[.agg #[.int .i64 (sumS l 0 1).1, .int .i64 (sumS l 0 1).2.1], .int .i64 (sumS l 0 1).2.2]) ∧ Below w1.heap.size w1 w') :=
    Lib.hid fun w1 hb => sum_any l p off c w1 (fun i h => ⟨(hb.cell (World.block_lt_of_cell? w _ (hc i h).1)).trans (hc i h).1, (hb.cell (World.block_lt_of_cell? w _ (hc i h).2)).trans (hc i h).2⟩) hr (by omega)
  clear hc hr
  obtain ⟨s1, s2, s3, hs⟩ : ∃ a b c, sumS l 0 1 = (a, b, c) := ⟨_, _, _, rfl⟩
  have HS := Lib.hid hs
  rw [hs] at HSUM
  clear hs
  have hka := @World.cell?_alloc_some
  go_enter Try.func9, Try.ntmps9
  go_wp2_with fail
  refine (awake_any _).mono ?_
  rintro e w1 ⟨rfl, hb1⟩
  have kb1 : Below w.heap.size w w1 := hb1
  clear hb1
  go_wp2_with fail
  refine (HSUM.out _ kb1).mono ?_
  rintro e w2 ⟨rfl, hb2⟩
  replace kb1 : Below w.heap.size w w2 := kb1.trans (hb2.mono kb1.size)
  clear hb2
  go_wp2_with fail
  have z2 : w.heap.size ≤ w2.heap.size := kb1.size
  go_loopw [26] (fun t26 wr => ∃ (k : Nat) (a b : Int), k ≤ l.length ∧ t26 = .int .i64 k ∧ wr.cell? ⟨w2.heap.size + 1, 0, none⟩ = some (.int .i64 a) ∧ wr.cell? ⟨w2.heap.size + 1, 1, none⟩ = some (.int .i64 b) ∧ wr.frozen? ⟨w2.heap.size + 1, 0, none⟩ = false ∧ wr.frozen? ⟨w2.heap.size + 1, 1, none⟩ = false ∧ wr.cell? ⟨w2.heap.size, 0, none⟩ = some (.int .i64 s1) ∧ wr.cell? ⟨w2.heap.size, 1, none⟩ = some (.int .i64 s2) ∧ Below w.heap.size w wr ∧ I64 a ∧ I64 b ∧ Hid (sumS l 0 1 = sumS (l.drop k) a b)) (fun t26 _ => l.length - (intOf t26).toNat)
  case atStart =>
    refine ⟨0, 0, 1, Nat.zero_le _, rfl, ?_, ?_, ?_, ?_, ?_, ?_, ?_, ⟨by decide, by decide⟩, ⟨by decide, by decide⟩, rfl⟩
    rotate_left 6
    · exact (kb1.alloc kb1.size _).alloc (Nat.le_trans kb1.size (by simp)) _
    all_goals simp [go_sem]
  case round =>
    obtain ⟨k, a, b, hk, rfl, k0, k1, k2, k3, k4, k5, kb, ia, ib, hsum⟩ := hrel
    by_cases hlt : k < l.length
    · obtain ⟨h0, h1⟩ := HC.out k hlt
      obtain ⟨hx1, hx2⟩ := HRR.out _ (List.getElem_mem hlt)
      have HD : Hid (l.drop k = l[k] :: l.drop (k + 1)) := Lib.hid (List.drop_eq_getElem_cons hlt)
      obtain ⟨x, hx⟩ : ∃ x, l[k] = x := ⟨_, rfl⟩
      rw [hx] at h0 h1 hx1 hx2 HD
      obtain ⟨n, d⟩ := x
      replace h0 := (kb.cell (World.block_lt_of_cell? w _ h0)).trans h0
      replace h1 := (kb.cell (World.block_lt_of_cell? w _ h1)).trans h1
      obtain ⟨y1, y2, y3, hy⟩ : ∃ u v z, addS a b n d = (u, v, z) := ⟨_, _, _, rfl⟩
      have AD := addTo ia ib hx1 hx2 hy
      have ry := addS_range hy
      have HN : Hid (sumS (l.drop k) a b = if y3 = 0 then sumS (l.drop (k + 1)) y1 y2 else (0, 0, y3)) := Lib.hid (by rw [HD.out, sumS, hy])
      clear hx hy hx1 hx2
      have f0 : w2.heap.size < wr.heap.size := World.block_lt_of_cell? wr _ k4
      have f1 : w2.heap.size + 1 < wr.heap.size := World.block_lt_of_cell? wr _ k0
      go_wp2_with fail
      refine (AD _).mono ?_
      rintro e w3 ⟨rfl, hb2⟩
      obtain ⟨hc2, hf2⟩ := bcell hb2
      have sz2 : wr.heap.size + 1 ≤ w3.heap.size := by have := hb2.size; simp at this; omega
      have g0 : w2.heap.size < wr.heap.size + 1 := by omega
      have g2 : w2.heap.size < w3.heap.size := by omega
      have g3 : w2.heap.size + 1 < w3.heap.size := by omega
      have kb2 : Below w.heap.size w w3 := (kb.alloc (by omega) _).trans (hb2.mono (by simp; omega))
      by_cases hy3 : y3 = 0
      · subst hy3
        have HT : Hid (sumS l 0 1 = sumS (l.drop (k + 1)) y1 y2) := Lib.hid (by rw [hsum.out, HN.out, if_pos rfl])
        clear HN hsum
        go_wp2_with fail
        go_roundw
        case rel =>
          refine ⟨k + 1, y1, y2, by omega, by go_num, ?_, ?_, ?_, ?_, ?_, ?_, ?_, ry.1, ry.2, HT⟩
          rotate_left 6
          · clear hc2 hf2
            repeat (first | exact Below.refl _ _ | assumption | (refine Below.alloc ?_ (by (try simp) <;> omega) _) | (refine Below.setCell ?_ (by (try simp) <;> omega) _) | (refine Below.drew ?_) | (refine below_drewN _ ?_))
          all_goals simp [go_sem, *]
        case measure => simp [intOf]; omega
      · have hb3 : (y3 != 0) = true := by simp [hy3]
        have HT : Hid ((s1, s2, s3) = (0, 0, y3)) := Lib.hid (by rw [← HS.out, hsum.out, HN.out, if_neg hy3])
        clear HN hsum hy3 HSUM HS
        have HT' := HT.out
        cases HT'
        clear HT
        go_wp2_with fail
        clear hc2 hf2
        go_ret
        exact ⟨rfl, by repeat (first | exact Below.refl _ _ | assumption | (refine Below.alloc ?_ (by (try simp) <;> omega) _) | (refine Below.setCell ?_ (by (try simp) <;> omega) _) | (refine Below.drew ?_) | (refine below_drewN _ ?_))⟩
    · have hk' : k = l.length := by omega
      have HT : Hid ((s1, s2, s3) = (a, b, 0)) := Lib.hid (by rw [← HS.out, hsum.out, hk', List.drop_length]; rfl)
      clear hsum HSUM HS
      have HT' := HT.out
      cases HT'
      clear HT
      go_wp2_with fail
      go_ret
      exact ⟨rfl, kb⟩
end Go.Proofs.Ytokcgfpnokeanaa
