/- The contract of Sum. -/
import Derived.Test.YtokcgfpnokeanaaRatI
namespace Go.Proofs.Ytokcgfpnokeanaa
open Go.RowKit Go.Shelf

/-- The sum from left to right, from a / b on. -/
def sumS : List (Int × Int) → Int → Int → Int × Int × Int
  | [], a, b => (a, b, 0)
  | x :: t, a, b => if (addS a b x.1 x.2).2.2 = 0 then sumS t (addS a b x.1 x.2).1 (addS a b x.1 x.2).2.1 else (0, 0, (addS a b x.1 x.2).2.2)

set_option maxHeartbeats 4000000 in
theorem sum_any (l : List (Int × Int)) (p off c : Nat) (w : World) (hc : ∀ i (h : i < l.length), w.cell? ⟨p, off + i * 2, none⟩ = some (.int .i64 l[i].1) ∧ w.cell? ⟨p, off + i * 2 + 1, none⟩ = some (.int .i64 l[i].2))
    (hr : ∀ x ∈ l, I64 x.1 ∧ I64 x.2) (hl : l.length ≤ 1000) :
    Calls Try.prog 30 #[.slice (some ⟨p, off, none⟩) l.length c] w fun e w' =>
      e = .returned (.tuple #[.agg #[.int .i64 (sumS l 0 1).1, .int .i64 (sumS l 0 1).2.1], .int .i64 (sumS l 0 1).2.2]) ∧ Below w.heap.size w w' := by
  have HC := Lib.hid hc
  have HRR := Lib.hid hr
  clear hc hr
  obtain ⟨s1, s2, s3, hs⟩ : ∃ a b c, sumS l 0 1 = (a, b, c) := ⟨_, _, _, rfl⟩
  have HS := Lib.hid hs
  rw [hs]
  clear hs
  have hka := @World.cell?_alloc_some
  go_enter Try.func30, Try.ntmps30
  go_wp2_with fail
  go_loopw [12] (fun t12 wr => ∃ (k : Nat) (a b : Int), k ≤ l.length ∧ t12 = .int .i64 k ∧ wr.cell? ⟨w.heap.size + 1, 0, none⟩ = some (.int .i64 a) ∧ wr.cell? ⟨w.heap.size + 1, 1, none⟩ = some (.int .i64 b) ∧ wr.frozen? ⟨w.heap.size + 1, 0, none⟩ = false ∧ wr.frozen? ⟨w.heap.size + 1, 1, none⟩ = false ∧
    wr.cell? ⟨w.heap.size, 0, none⟩ = some (.int .i64 0) ∧ wr.cell? ⟨w.heap.size, 1, none⟩ = some (.int .i64 0) ∧ wr.frozen? ⟨w.heap.size, 0, none⟩ = false ∧ wr.frozen? ⟨w.heap.size, 1, none⟩ = false ∧ Below w.heap.size w wr ∧ I64 a ∧ I64 b ∧ Hid (sumS l 0 1 = sumS (l.drop k) a b)) (fun t12 _ => l.length - (intOf t12).toNat)
  case atStart =>
    refine ⟨0, 0, 1, Nat.zero_le _, rfl, ?_, ?_, ?_, ?_, ?_, ?_, ?_, ?_, ?_, ⟨by decide, by decide⟩, ⟨by decide, by decide⟩, rfl⟩
    rotate_left 8
    · repeat (first | exact Below.refl _ _ | assumption | (refine Below.alloc ?_ (by (try simp) <;> omega) _) | (refine Below.setCell ?_ (by (try simp) <;> omega) _) | (refine Below.drew ?_) | (refine below_drewN _ ?_))
    all_goals simp [go_sem]
  case round =>
    obtain ⟨k, a, b, hk, rfl, k0, k1, k2, k3, k4, k5, k6, k7, kb, ia, ib, hsum⟩ := hrel
    by_cases hlt : k < l.length
    · obtain ⟨h0, h1⟩ := HC.out k hlt
      obtain ⟨hx1, hx2⟩ := HRR.out _ (List.getElem_mem hlt)
      have HD : Hid (l.drop k = l[k] :: l.drop (k + 1)) := Lib.hid (List.drop_eq_getElem_cons hlt)
      obtain ⟨x, hx⟩ : ∃ x, l[k] = x := ⟨_, rfl⟩
      rw [hx] at h0 h1 hx1 hx2 HD
      obtain ⟨n, d⟩ := x
      replace h0 := (kb.cell (World.block_lt_of_cell? w _ h0)).trans h0
      replace h1 := (kb.cell (World.block_lt_of_cell? w _ h1)).trans h1
      obtain ⟨y1, y2, y3, hy⟩ : ∃ u v z, addS a b n d = (u, v, z) := ⟨_, _, _, rfl⟩
      have AD := addTo ia ib hx1 hx2 hy
      have ry := addS_range hy
      have HN : Hid (sumS (l.drop k) a b = if y3 = 0 then sumS (l.drop (k + 1)) y1 y2 else (0, 0, y3)) := Lib.hid (by rw [HD.out, sumS, hy])
      clear hx hy hx1 hx2
      have f0 : w.heap.size < wr.heap.size := World.block_lt_of_cell? wr _ k4
      have f1 : w.heap.size + 1 < wr.heap.size := World.block_lt_of_cell? wr _ k0
      go_wp2_with fail
      refine (AD _).mono ?_
      rintro e w2 ⟨rfl, hb2⟩
      obtain ⟨hc2, hf2⟩ := bcell hb2
      have sz2 : wr.heap.size + 1 ≤ w2.heap.size := by have := hb2.size; simp at this; omega
      have g0 : w.heap.size < wr.heap.size + 1 := by omega
      have g2 : w.heap.size < w2.heap.size := by omega
      have g3 : w.heap.size + 1 < w2.heap.size := by omega
      have kb2 : Below w.heap.size w w2 := (kb.alloc (by omega) _).trans (hb2.mono (by simp; omega))
      by_cases hy3 : y3 = 0
      · subst hy3
        have HT : Hid (sumS l 0 1 = sumS (l.drop (k + 1)) y1 y2) := Lib.hid (by rw [hsum.out, HN.out, if_pos rfl])
        clear HN hsum
        go_wp2_with fail
        go_roundw
        case rel =>
          refine ⟨k + 1, y1, y2, by omega, by go_num, ?_, ?_, ?_, ?_, ?_, ?_, ?_, ?_, ?_, ry.1, ry.2, HT⟩
          rotate_left 8
          · clear hc2 hf2
            repeat (first | exact Below.refl _ _ | assumption | (refine Below.alloc ?_ (by (try simp) <;> omega) _) | (refine Below.setCell ?_ (by (try simp) <;> omega) _) | (refine Below.drew ?_) | (refine below_drewN _ ?_))
          all_goals simp [go_sem, *]
        case measure => simp [intOf]; omega
      · have hb3 : (y3 != 0) = true := by simp [hy3]
        have HT : Hid ((s1, s2, s3) = (0, 0, y3)) := Lib.hid (by rw [← HS.out, hsum.out, HN.out, if_neg hy3])
        clear HN hsum hy3
        go_wp2_with fail
        have HT' := HT.out
        cases HT'
        refine bodyPost_ret (v := .tuple #[.agg #[.int .i64 0, .int .i64 0], .int .i64 s3]) (by simp [results, Try.results30, go_sem, *]) rfl ⟨rfl, ?_⟩
        clear hc2 hf2
        repeat (first | exact Below.refl _ _ | assumption | (refine Below.alloc ?_ (by (try simp) <;> omega) _) | (refine Below.setCell ?_ (by (try simp) <;> omega) _) | (refine Below.drew ?_) | (refine below_drewN _ ?_))
    · have hk' : k = l.length := by omega
      have HT : Hid ((s1, s2, s3) = (a, b, 0)) := Lib.hid (by rw [← HS.out, hsum.out, hk', List.drop_length]; rfl)
      clear hsum
      go_wp2_with fail
      have HT' := HT.out
      cases HT'
      refine bodyPost_ret (v := .tuple #[.agg #[.int .i64 s1, .int .i64 s2], .int .i64 0]) (by simp [results, Try.results30, go_sem, *]) rfl ⟨rfl, ?_⟩
      repeat (first | exact Below.refl _ _ | assumption | (refine Below.alloc ?_ (by (try simp) <;> omega) _) | (refine Below.setCell ?_ (by (try simp) <;> omega) _) | (refine Below.drew ?_) | (refine below_drewN _ ?_))
end Go.Proofs.Ytokcgfpnokeanaa
