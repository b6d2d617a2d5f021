/- awake; what the laws' operations are. -/
import Derived.Test.YtfpicobjnpjhlaaRetPo
import Derived.Test.YtfpicobjnpjhlaaRetRo
import Derived.Test.YtfpicobjnpjhlaaRetZ
import Derived.Lib.SlBytesConst
namespace Go.Proofs.Ytfpicobjnpjhlaa
open Go.RowKit

theorem offer_lit (fr : Nat × Nat) (n : Nat) (xs : List Nat) (hn : xs.length = n) (B : Nat) (E : Nat → Prop) (g : Nat) (v : Value) (s : Rs) (w : World) (hE : ∀ k, E k → k < w.heap.size) (x : PsAt B E w g v s) (hL : s.ks.length < 1000) :
    Calls Try.prog 14 #[.pointer (some ⟨g, 0, none⟩), .slice (some ⟨w.heap.size, 0, none⟩) n n] (w.alloc (.cells (xs.map nU8).toArray 5 fr)) fun e w' => ∃ v' a' c', e = .returned (.int .i64 (offC s xs)) ∧ PsAt B E w' g v' (offS s ⟨a', xs, c'⟩) ∧ Steps g v v' w w' := by
  have kA := (Below.refl w.heap.size w).alloc (Nat.le_refl _) (.cells (xs.map nU8).toArray 5 fr)
  refine (offer_any _ n n xs hn (fun h => by cases h) B E g v s _ (fun k h => Nat.lt_of_lt_of_le (hE k h) kA.size) (x.keep kA) hL (in_mark w xs _ fr _ rfl)).mono ?_
  rintro e w' ⟨v', a', c', he, hx, hst⟩
  exact ⟨v', a', c', he, hx, (Steps.ofBelow kA).trans hst⟩

theorem offC_ok {s : Rs} {xs : List Nat} (h1 : xs.length ≤ 64) (h2 : s.ks.length < s.W) : offC s xs = 0 := by unfold offC; rw [if_neg (by omega), if_neg (by omega)]
theorem offS_ok {s : Rs} {k : Kp} (h1 : k.xs.length ≤ 64) (h2 : s.ks.length < s.W) : offS s k = ⟨s.W, s.τ, s.ks ++ [k], s.ta + 1, s.ac, s.nx, s.hi, s.si⟩ := by unfold offS; rw [if_pos (offC_ok h1 h2)]

/-- The sender of the chapter's example behind its j-th tick. -/
def awS (k1 k2 : Kp) (j : Nat) : Rs :=
  ⟨2, 3, [k1, k2], 2, 0, (match j with | 0 => 0 | 1 => 1 | 2 => 2 | 3 => 2 | 4 => 2 | _ => 1), (match j with | 0 => 0 | 1 => 1 | _ => 2), (match j with | 3 => 1 | 4 => 2 | _ => 0)⟩
theorem aw_step (k1 k2 : Kp) : ∀ j, j < 5 → tickS (awS k1 k2 j) = awS k1 k2 (j + 1) := by
  intro j hj
  match j, hj with
  | 0, _ => rfl
  | 1, _ => rfl
  | 2, _ => rfl
  | 3, _ => rfl
  | 4, _ => rfl
theorem aw_want (k1 k2 : Kp) : ∀ j, j < 5 → ∀ x : Int, (#[(0 : Int), 1, -1, -1, 0])[j]? = some x → (tickI (awS k1 k2 j)).isSome = true ∧ x = tickN (awS k1 k2 j) ∨ (tickI (awS k1 k2 j)).isSome = false ∧ x < 0 := by
  intro j hj x hx
  match j, hj with
  | 0, _ => left; cases hx; exact ⟨rfl, rfl⟩
  | 1, _ => left; cases hx; exact ⟨rfl, rfl⟩
  | 2, _ => right; cases hx; exact ⟨rfl, by decide⟩
  | 3, _ => right; cases hx; exact ⟨rfl, by decide⟩
  | 4, _ => left; cases hx; exact ⟨rfl, rfl⟩
theorem aw_ok (k1 k2 : Kp) (h1 : k1.xs.length ≤ 64) (h2 : k2.xs.length ≤ 64) : ∀ j, j < 6 → (awS k1 k2 j).Ok := by
  intro j hj
  have hx : ∀ k ∈ [k1, k2], k.xs.length ≤ 64 := by
    intro k hk
    simp at hk
    rcases hk with rfl | rfl <;> assumption
  match j, hj with
  | 0, _ => exact ⟨Nat.le_of_ble_eq_true rfl, Nat.le_of_ble_eq_true rfl, Nat.le_of_ble_eq_true rfl, Nat.le_of_ble_eq_true rfl, Nat.le_of_ble_eq_true rfl, Nat.le_of_ble_eq_true rfl, Nat.le_of_ble_eq_true rfl, Nat.le_of_ble_eq_true rfl, hx⟩
  | 1, _ => exact ⟨Nat.le_of_ble_eq_true rfl, Nat.le_of_ble_eq_true rfl, Nat.le_of_ble_eq_true rfl, Nat.le_of_ble_eq_true rfl, Nat.le_of_ble_eq_true rfl, Nat.le_of_ble_eq_true rfl, Nat.le_of_ble_eq_true rfl, Nat.le_of_ble_eq_true rfl, hx⟩
  | 2, _ => exact ⟨Nat.le_of_ble_eq_true rfl, Nat.le_of_ble_eq_true rfl, Nat.le_of_ble_eq_true rfl, Nat.le_of_ble_eq_true rfl, Nat.le_of_ble_eq_true rfl, Nat.le_of_ble_eq_true rfl, Nat.le_of_ble_eq_true rfl, Nat.le_of_ble_eq_true rfl, hx⟩
  | 3, _ => exact ⟨Nat.le_of_ble_eq_true rfl, Nat.le_of_ble_eq_true rfl, Nat.le_of_ble_eq_true rfl, Nat.le_of_ble_eq_true rfl, Nat.le_of_ble_eq_true rfl, Nat.le_of_ble_eq_true rfl, Nat.le_of_ble_eq_true rfl, Nat.le_of_ble_eq_true rfl, hx⟩
  | 4, _ => exact ⟨Nat.le_of_ble_eq_true rfl, Nat.le_of_ble_eq_true rfl, Nat.le_of_ble_eq_true rfl, Nat.le_of_ble_eq_true rfl, Nat.le_of_ble_eq_true rfl, Nat.le_of_ble_eq_true rfl, Nat.le_of_ble_eq_true rfl, Nat.le_of_ble_eq_true rfl, hx⟩
  | 5, _ => exact ⟨Nat.le_of_ble_eq_true rfl, Nat.le_of_ble_eq_true rfl, Nat.le_of_ble_eq_true rfl, Nat.le_of_ble_eq_true rfl, Nat.le_of_ble_eq_true rfl, Nat.le_of_ble_eq_true rfl, Nat.le_of_ble_eq_true rfl, Nat.le_of_ble_eq_true rfl, hx⟩
/-- .. and behind the Nak. -/
theorem aw_nak (k1 k2 : Kp) : ackK (awS k1 k2 5) 1 = 1 ∧ nakS (awS k1 k2 5) 1 = ⟨2, 3, [k2], 2, 1, 0, 1, 0⟩ := ⟨rfl, rfl⟩

set_option maxRecDepth 100000 in
set_option maxHeartbeats 8000000 in
theorem awake_any (w : World) :
    Calls Try.prog 11 #[] w fun e w' => e = .returned (.bool true) ∧ Below w.heap.size w w' := by
  have kc := fun (w : World) (C : Array Value) (n c : Nat) => Lib.run_convert_bytes_const (P := Try.prog) w 32 5 C n c Try.underlying32 Try.underlying5
  have NW := box (new_any 2 3 (by decide) (by decide) (by decide) (by decide) w)
  go_enter Try.func11, Try.ntmps11
  go_wp2_with fail
  refine NW.out.mono ?_
  rintro e w1 ⟨g, rfl, hg, x1, hb1⟩
  have X1 := box x1
  have K1 := box hb1
  have OF1 := box (offer_lit (1, 2) 1 [97] rfl w.heap.size (fun k => k < w.heap.size) g _ _ w1 (fun k h => Nat.lt_of_lt_of_le h hb1.size) x1 (by decide))
  clear NW x1 hb1
  go_wp2_with fail
  refine OF1.out.mono ?_
  rintro e w2 ⟨v2, a2, c2, rfl, x2, st2⟩
  rw [offC_ok (by decide) (by decide)]
  rw [offS_ok (by show 1 ≤ 64; decide) (by decide)] at x2
  have K2 := box (X1.out.steps st2 K1.out)
  have X2 := box x2
  have OF2 := box (offer_lit (1, 2) 1 [98] rfl w.heap.size (fun k => k < w.heap.size) g _ _ w2 (fun k h => Nat.lt_of_lt_of_le h K2.out.size) x2 (by simp))
  clear OF1 x2 st2
  go_wp2_with fail
  refine OF2.out.mono ?_
  rintro e w3 ⟨v3, a3, c3, rfl, x3, st3⟩
  rw [offC_ok (by decide) (by simp)]
  rw [offS_ok (by show 1 ≤ 64; decide) (by simp)] at x3
  have K3 := box (X2.out.steps st3 K2.out)
  have X3 := box (show PsAt w.heap.size (fun k => k < w.heap.size) w3 g v3 (awS ⟨a2, [97], c2⟩ ⟨a3, [98], c3⟩ 0) from x3)
  clear OF2 x3 st3
  have AS := box (fun j hj => aw_step ⟨a2, [97], c2⟩ ⟨a3, [98], c3⟩ j hj)
  have AW := box (fun j hj => aw_want ⟨a2, [97], c2⟩ ⟨a3, [98], c3⟩ j hj)
  have AO := box (fun j hj => aw_ok ⟨a2, [97], c2⟩ ⟨a3, [98], c3⟩ (by show 1 ≤ 64; decide) (by show 1 ≤ 64; decide) j hj)
  have AN := box (aw_nak ⟨a2, [97], c2⟩ ⟨a3, [98], c3⟩)
  have AC := box (show ∀ j, (awS ⟨a2, [97], c2⟩ ⟨a3, [98], c3⟩ j).ac = 0 from fun j => rfl)
  generalize hst : awS ⟨a2, [97], c2⟩ ⟨a3, [98], c3⟩ = st at X3 AS AW AO AN AC
  clear hst
  have HZ := box (show w.heap.size ≤ w3.heap.size from K3.out.size)
  have W0 := box (show ∀ (i : Nat) (x : Int), (#[(0 : Int), 1, -1, -1, 0])[i]? = some x → (w3.alloc (.cells #[.int .i64 0, .int .i64 1, .int .i64 (-1), .int .i64 (-1), .int .i64 0] 3)).cell? ⟨w3.heap.size, i, none⟩ = some (.int .i64 x) from fun i x hx => by
    refine (World.cell?_alloc_mark w3 #[.int .i64 0, .int .i64 1, .int .i64 (-1), .int .i64 (-1), .int .i64 0] 3 (0, 0) i).trans ?_
    match i, hx with
    | 0, hx => cases hx; rfl
    | 1, hx => cases hx; rfl
    | 2, hx => cases hx; rfl
    | 3, hx => cases hx; rfl
    | 4, hx => cases hx; rfl)
  have kA : Below w3.heap.size w3 (w3.alloc (.cells #[.int .i64 0, .int .i64 1, .int .i64 (-1), .int .i64 (-1), .int .i64 0] 3)) := (Below.refl _ _).alloc (Nat.le_refl _) _
  have X4 := box (X3.out.keep kA)
  have K4 := box (K3.out.trans (kA.mono HZ.out))
  have HF := box (show w3.heap.size ≠ g ∧ some w3.heap.size ≠ v3.ownBlock from ⟨fun e => by have := X3.out.m.lt; omega, fun e => by have := X3.out.row.blk _ e.symm; omega⟩)
  have HL4 := box (show w3.heap.size < (w3.alloc (.cells #[.int .i64 0, .int .i64 1, .int .i64 (-1), .int .i64 (-1), .int .i64 0] 3)).heap.size from by rw [size_alloc']; omega)
  clear kA
  go_wp2_with fail
  generalize w3.alloc (.cells #[.int .i64 0, .int .i64 1, .int .i64 (-1), .int .i64 (-1), .int .i64 0] 3) = w4 at W0 X4 K4 HL4 ⊢
  go_loopw [40] (fun t40 wr => ∃ j : Nat, j ≤ 5 ∧ t40 = .int .i64 j ∧ Box (PsAt w.heap.size (fun k => k < w.heap.size) wr g v3 (st j)) ∧ Box (Below w.heap.size w wr) ∧ Box (w3.heap.size < wr.heap.size) ∧ Box (∀ (i : Nat) (x : Int), (#[(0 : Int), 1, -1, -1, 0])[i]? = some x → wr.cell? ⟨w3.heap.size, i, none⟩ = some (.int .i64 x))) (fun t40 _ => 5 - (intOf t40).toNat)
  case atStart => exact ⟨0, by omega, rfl, X4, K4, HL4, W0⟩
  case round =>
    obtain ⟨j, hj, rfl, hX, hbel, hsz, hW⟩ := hrel
    by_cases hlt : j < 5
    · obtain ⟨x, hx⟩ : ∃ x, (#[(0 : Int), 1, -1, -1, 0])[j]? = some x := ⟨_, Array.getElem?_eq_getElem (by exact hlt)⟩
      have y0 := hW.out j x hx
      have ha := AW.out j hlt x hx
      have TK := ptick_any _ _ g v3 (st j) wr hX.out (AO.out j (by omega)) (by rw [AC.out]; decide)
      rw [AS.out j hlt] at TK
      have CONT := box (show ∀ w', PsAt w.heap.size (fun k => k < w.heap.size) w' g v3 (st (j + 1)) → Steps g v3 v3 wr w' → Box (Below w.heap.size w w') ∧ Box (w3.heap.size < w'.heap.size) ∧ Box (∀ (i : Nat) (x : Int), (#[(0 : Int), 1, -1, -1, 0])[i]? = some x → w'.cell? ⟨w3.heap.size, i, none⟩ = some (.int .i64 x)) from fun w' x' st' =>
        ⟨box (hX.out.steps st' hbel.out), box (Nat.lt_of_lt_of_le hsz.out st'.apart.size), box (fun i x hx => by
          rw [World.cell?_of_block (a := ⟨w3.heap.size, i, none⟩) (st'.apart.block _ hsz.out HF.out.1 HF.out.2)]
          exact hW.out i x hx)⟩)
      clear hx
      rcases ha with ⟨h1, rfl⟩ | ⟨h1, h2⟩
      · rw [h1] at TK
        have TK2 := box TK
        clear TK h1
        generalize tickN (st j) = N at y0 TK2
        generalize tickX (st j) = X at TK2
        go_wp2_with fail
        refine TK2.out.mono ?_
        rintro e w5 ⟨a5, c5, rfl, -, x5, st5⟩
        have FF := box (CONT.out w5 x5 st5)
        have X5 := box x5
        clear x5 st5
        go_wp2_with fail
        go_roundw
        case rel => exact ⟨j + 1, by omega, by go_num, X5, FF.out⟩
        case measure => simp [intOf]; omega
      · rw [h1] at TK
        have TK2 := box TK
        clear TK h1
        generalize tickN (st j) = N at TK2
        generalize tickX (st j) = X at TK2
        go_wp2_with fail
        refine TK2.out.mono ?_
        rintro e w5 ⟨a5, c5, rfl, -, x5, st5⟩
        have FF := box (CONT.out w5 x5 st5)
        have X5 := box x5
        clear x5 st5
        go_wp2_with fail
        go_roundw
        case rel => exact ⟨j + 1, by omega, by go_num, X5, FF.out⟩
        case measure => simp [intOf]; omega
    · obtain rfl : j = 5 := by omega
      have NK := pnak_any 1 _ _ g v3 (st 5) wr hX.out (AO.out 5 (by decide)).hi (by rw [AC.out]; decide) (by have h1 := (AO.out 5 (by decide)).nx; have h2 := (AO.out 5 (by decide)).hi; have h3 := (AO.out 5 (by decide)).W; have h4 := (AO.out 5 (by decide)).w2; omega) (by have h2 := (AO.out 5 (by decide)).hi; have h3 := (AO.out 5 (by decide)).W; have h4 := (AO.out 5 (by decide)).w2; omega)
      rw [AN.out.1, AN.out.2] at NK
      have NK2 := box NK
      clear NK
      go_wp2_with fail
      refine NK2.out.mono ?_
      rintro e w5 ⟨v5, rfl, x5, st5⟩
      have B5 := box (hX.out.steps st5 hbel.out)
      have X5 := box x5
      have TK := box (ptick_any _ _ g v5 _ w5 x5 ⟨Nat.le_of_ble_eq_true rfl, Nat.le_of_ble_eq_true rfl, Nat.le_of_ble_eq_true rfl, Nat.le_of_ble_eq_true rfl, Nat.le_of_ble_eq_true rfl, Nat.le_of_ble_eq_true rfl, Nat.le_of_ble_eq_true rfl, Nat.le_of_ble_eq_true rfl, fun k hk => by simp at hk; subst hk; show 1 ≤ 64; decide⟩ (by simp))
      have e1 : tickN ⟨2, 3, [⟨a3, [98], c3⟩], 2, 1, 0, 1, 0⟩ = 1 := rfl
      have e2 : tickX ⟨2, 3, [⟨a3, [98], c3⟩], 2, 1, 0, 1, 0⟩ = [98] := rfl
      have e3 : (tickI ⟨2, 3, [⟨a3, [98], c3⟩], 2, 1, 0, 1, 0⟩).isSome = true := rfl
      rw [e1, e2, e3] at TK
      clear NK2 x5 st5 e1 e2 e3
      go_wp2_with fail
      refine TK.out.mono ?_
      rintro e w6 ⟨a6, c6, rfl, o6, x6, st6⟩
      have B6 := box (X5.out.steps st6 B5.out)
      obtain ⟨a6', c6', he, hin, -, -, -⟩ := own_any o6
      cases he
      have cv := conv_any (c := c6) (n := 1) rfl hin
      have ST : ((strOf [98]).toList == [98]) = true := by rw [ByteArray.toList_eq]; decide
      have NR := box (newrcv_any w6)
      clear o6 x6 st6 hin TK
      go_wp2_with fail
      refine NR.out.mono ?_
      rintro e w7 ⟨gr, rfl, -, -, b7⟩
      have B7 := box (B6.out.trans (b7.mono B6.out.size))
      clear b7
      go_wp2_with fail
      go_ret
      exact ⟨by simp, B7.out⟩
end Go.Proofs.Ytfpicobjnpjhlaa
