/- RetryWraps: its walk. -/
import Derived.Test.YtfpicobjnpjhlaaRetMb
namespace Go.Proofs.Ytfpicobjnpjhlaa
open Go.RowKit

theorem mod_succ (i W : Nat) : (i % W + 1 = W → (i + 1) % W = 0) ∧ (i % W + 1 ≠ W → 1 ≤ W → (i + 1) % W = i % W + 1) := by
  have h := Nat.div_add_mod i W
  constructor
  · intro e
    have h2 : i + 1 = W * (i / W + 1) := by rw [Nat.mul_add, Nat.mul_one]; omega
    rw [h2]; exact Nat.mul_mod_right _ _
  · intro e h1
    have h2 : i + 1 = W * (i / W) + (i % W + 1) := by omega
    have h3 := Nat.mod_lt i h1
    rw [h2, Nat.mul_add_mod]
    exact Nat.mod_eq_of_lt (by omega)
/-- The sender ahead of the i-th packet. -/
structure WrS (W i : Nat) (s : Rs) : Prop where
  eW : s.W = W
  τ : s.τ = 5
  len : s.ks.length = i % W
  ac : s.ac = i - i % W
  nx : s.nx = i % W
  hi : s.hi = i % W
  si : s.si = 0
  xs : ∀ k ∈ s.ks, k.xs.length ≤ 64
/-- .. behind its offer, .. behind its tick. -/
theorem WrS.off {W i : Nat} {s : Rs} (h : WrS W i s) (hW : 1 ≤ W) (k : Kp) (hk : k.xs.length ≤ 64) : offC s k.xs = 0 ∧ offS s k = ⟨s.W, s.τ, s.ks ++ [k], s.ta + 1, s.ac, s.nx, s.hi, s.si⟩ := by
  have h1 := Nat.mod_lt i hW
  have h2 : s.ks.length < s.W := by rw [h.len, h.eW]; exact h1
  exact ⟨offC_ok hk h2, offS_ok hk h2⟩
theorem WrS.ok1 {W i : Nat} {s : Rs} (h : WrS W i s) (hW : 1 ≤ W) (hW2 : W ≤ 128) (k : Kp) (hk : k.xs.length ≤ 64) : (⟨s.W, s.τ, s.ks ++ [k], s.ta + 1, s.ac, s.nx, s.hi, s.si⟩ : Rs).Ok := by
  have h1 := Nat.mod_lt i hW
  obtain ⟨e1, e2, e3, e4, e5, e6, e7, e8⟩ := h
  refine ⟨by show s.nx ≤ s.hi; omega, by show s.hi ≤ (s.ks ++ [k]).length; simp; omega, by show (s.ks ++ [k]).length ≤ s.W; simp; omega, by show 1 ≤ s.W; omega, by show s.W ≤ 128; omega, by show 1 ≤ s.τ; omega, by show s.τ ≤ 1000; omega, by show s.si < s.τ; omega, fun y hy => ?_⟩
  rcases List.mem_append.1 hy with hy | hy
  · exact e8 y hy
  · rw [List.mem_singleton.1 hy]; exact hk
theorem WrS.tick {W i : Nat} {s : Rs} (h : WrS W i s) (k : Kp) : tickI (⟨s.W, s.τ, s.ks ++ [k], s.ta + 1, s.ac, s.nx, s.hi, s.si⟩ : Rs) = some (i % W) ∧ tickN (⟨s.W, s.τ, s.ks ++ [k], s.ta + 1, s.ac, s.nx, s.hi, s.si⟩ : Rs) = i % 256 ∧ tickX (⟨s.W, s.τ, s.ks ++ [k], s.ta + 1, s.ac, s.nx, s.hi, s.si⟩ : Rs) = k.xs ∧
    tickS (⟨s.W, s.τ, s.ks ++ [k], s.ta + 1, s.ac, s.nx, s.hi, s.si⟩ : Rs) = ⟨s.W, s.τ, s.ks ++ [k], s.ta + 1, i - i % W, i % W + 1, i % W + 1, 0⟩ := by
  obtain ⟨e1, e2, e3, e4, e5, e6, e7, e8⟩ := h
  have hI : tickI (⟨s.W, s.τ, s.ks ++ [k], s.ta + 1, s.ac, s.nx, s.hi, s.si⟩ : Rs) = some (i % W) := by
    unfold tickI
    rw [if_pos (by show s.nx < (s.ks ++ [k]).length; simp; omega)]
    show some s.nx = _
    rw [e5]
  have hle := Nat.mod_le i W
  refine ⟨hI, ?_, ?_, ?_⟩
  · unfold tickN
    rw [hI]
    show (s.ac + i % W) % 256 = i % 256
    rw [e4, Nat.sub_add_cancel hle]
  · unfold tickX
    rw [hI]
    show (((s.ks ++ [k])[i % W]?).map Kp.xs).getD [] = k.xs
    rw [← e3, List.getElem?_append_right (Nat.le_refl _)]
    simp
  · unfold tickS
    rw [hI]
    show (⟨s.W, s.τ, s.ks ++ [k], s.ta + 1, s.ac, i % W + 1, max s.hi (i % W + 1), 0⟩ : Rs) = _
    rw [e4, e6, Nat.max_eq_right (by omega)]
theorem WrS.next {W i : Nat} {s : Rs} (h : WrS W i s) (hW : 1 ≤ W) (k : Kp) (hk : k.xs.length ≤ 64) (hn : i % W + 1 ≠ W) : WrS W (i + 1) ⟨s.W, s.τ, s.ks ++ [k], s.ta + 1, i - i % W, i % W + 1, i % W + 1, 0⟩ := by
  have h1 := Nat.mod_lt i hW
  have h2 := (mod_succ i W).2 hn hW
  have hle := Nat.mod_le i W
  obtain ⟨e1, e2, e3, e4, e5, e6, e7, e8⟩ := h
  refine ⟨e1, e2, by show (s.ks ++ [k]).length = _; rw [h2]; simp; omega, by show i - i % W = _; rw [h2]; omega, h2.symm, h2.symm, rfl, fun y hy => ?_⟩
  rcases List.mem_append.1 hy with hy | hy
  · exact e8 y hy
  · rw [List.mem_singleton.1 hy]; exact hk
theorem WrS.full {W i : Nat} {s : Rs} (h : WrS W i s) (hW : 1 ≤ W) (hW2 : W ≤ 128) (k : Kp) (hn : i % W + 1 = W) :
    ackK ⟨s.W, s.τ, s.ks ++ [k], s.ta + 1, i - i % W, i % W + 1, i % W + 1, 0⟩ (((i + 1 : Nat) : Int) % 256) = W ∧ WrS W (i + 1) (ackS ⟨s.W, s.τ, s.ks ++ [k], s.ta + 1, i - i % W, i % W + 1, i % W + 1, 0⟩ (((i + 1 : Nat) : Int) % 256)) := by
  have h2 := (mod_succ i W).1 hn
  have hle := Nat.mod_le i W
  obtain ⟨e1, e2, e3, e4, e5, e6, e7, e8⟩ := h
  have hc : cntR (i - i % W) (i % W + 1) (((i + 1 : Nat) : Int) % 256) = (W : Int) := by
    generalize i % W = r at hn hle e3 e4 e5 e6 ⊢
    unfold cntR
    rw [if_neg (by omega), if_neg (by omega)]
    omega
  have hK : ackK (⟨s.W, s.τ, s.ks ++ [k], s.ta + 1, i - i % W, i % W + 1, i % W + 1, 0⟩ : Rs) (((i + 1 : Nat) : Int) % 256) = W := by unfold ackK; simp only []; rw [hc]; rfl
  refine ⟨hK, ?_⟩
  unfold ackS
  rw [hK]
  simp only []
  rw [hc, if_neg (by omega)]
  have hd : (s.ks ++ [k]).drop W = [] := List.drop_eq_nil_of_le (by simp; omega)
  refine ⟨e1, e2, ?_, ?_, ?_, ?_, rfl, fun y hy => ?_⟩
  · show ((s.ks ++ [k]).drop W).length = _; rw [hd, h2]; rfl
  · show i - i % W + W = _; rw [h2]; omega
  · show i % W + 1 - W = _; rw [h2]; omega
  · show i % W + 1 - W = _; rw [h2]; omega
  · have hy' : y ∈ (s.ks ++ [k]).drop W := hy
    rw [hd] at hy'; cases hy'

theorem PsAt.apartE {B : Nat} {E : Nat → Prop} {w w' : World} {g gr : Nat} {v : Value} {s : Rs} (x : PsAt B E w g v s) (hE : ∀ k, k = gr → E k) (ap : Apart gr none w w') : PsAt B E w' g v s :=
  ⟨x.m.same (ap.block g x.m.lt (fun e => x.out.1 (hE g e)) (fun e => by cases e)), x.row.same ap.size (fun k h => ap.block k (x.row.blk k h).2 (fun e => x.out.2 k h (hE k e)) (fun e => by cases e)), x.far, x.bg, x.out, fun y hy => (x.syms y hy).keep (fun k hk h => ap.block k hk (fun e => h (.inl (hE k e))) (fun e => by cases e))⟩

set_option maxRecDepth 100000 in
set_option maxHeartbeats 4000000 in
theorem wraps_any (y0 y1 : Nat) (h0 : y0 < 65536) (h1 : y1 < 256) (w : World) :
    Calls Try.prog 9 #[.int .u16 (y0 : Int), nU8 y1] w fun e w' => e = .returned (.bool true) ∧ Below w.heap.size w w' := by
  obtain ⟨W, hW⟩ : ∃ W, y1 % 128 + 1 = W := ⟨_, rfl⟩
  have hW2 : (y1 : Int) % 128 + 1 = (W : Int) := by omega
  have hW3 : 1 ≤ W ∧ W ≤ 128 := by omega
  obtain ⟨N, hN⟩ : ∃ N, y0 % 1001 = N := ⟨_, rfl⟩
  have hN2 : (y0 : Int) % 1001 = (N : Int) := by omega
  have hN3 : N ≤ 1000 := by omega
  clear hW hN
  go_enter Try.func9, Try.ntmps9
  go_wp2_with fail
  refine (awake_any w).mono ?_
  rintro e w1 ⟨rfl, hb⟩
  have HB1 := box hb
  have NW := box (new_any W 5 hW3.1 hW3.2 (by decide) (by decide) w1)
  clear hb
  go_wp2_with fail
  refine NW.out.mono ?_
  rintro e w2 ⟨g, rfl, hg, x2, hb2⟩
  have X2 := box x2
  have K2 := box hb2
  have NR := box (newrcv_any w2)
  clear NW x2 hb2
  go_wp2_with fail
  refine NR.out.mono ?_
  rintro e w3 ⟨gr, rfl, hgr, y3, b3⟩
  have Y3 := box y3
  have X3 := box (X2.out.keep b3)
  have K3 := box (K2.out.trans (b3.mono K2.out.size))
  have HNE := box (show gr ≠ g ∧ w1.heap.size ≤ gr from ⟨fun e => by have := X2.out.m.lt; omega, by rw [hgr]; exact K2.out.size⟩)
  have HVE := box (show some gr ≠ (Value.slice none 0 0).ownBlock from fun e => by cases e)
  have HZ := box (show ∀ w', Below w1.heap.size w1 w' → ∀ k, k < w1.heap.size → k < w'.heap.size from fun w' h k hk => Nat.lt_of_lt_of_le hk h.size)
  have R3 := box (show WrS W 0 (s0 W 5) from ⟨rfl, rfl, by simp, by simp, by simp, by simp, rfl, fun k h => by cases h⟩)
  clear NR y3 b3 hgr X2 K2
  go_wp2_with fail
  (try simp only [hN2])
  clear hN2 hW2
  go_loopw [44] (fun t44 wr => ∃ (i : Nat) (v : Value) (s : Rs), i ≤ N ∧ t44 = .int .i64 i ∧ Box (WrS W i s) ∧ Box (PsAt w1.heap.size (fun k => k < w1.heap.size ∨ k = gr) wr g v s) ∧ Box (RcvAt wr gr i) ∧ Box (Below w1.heap.size w1 wr)) (fun t44 _ => N - (intOf t44).toNat)
  case atStart => exact ⟨0, _, _, by omega, rfl, R3, box ⟨X3.out.m, X3.out.row, X3.out.far, X3.out.bg, ⟨fun h => h.elim X3.out.out.1 (fun e => HNE.out.1 e.symm), fun k hk => by cases hk⟩, fun x hx => by cases hx⟩, Y3, K3⟩
  case round =>
    obtain ⟨i, v, s, hi, rfl, hR, hX, hY, hbel⟩ := hrel
    by_cases hlt : i < N
    · have hi1000 : i < 1000 := by omega
      have HZ2 := box (show ∀ k, (k < w1.heap.size ∨ k = gr) → k < wr.heap.size from fun k h => h.elim (HZ.out wr hbel.out k) (fun e => by rw [e]; exact World.block_lt_of_cell? wr ⟨gr, 0, none⟩ hY.out.q))
      have HL := box (show s.ks.length < 1000 from by have := Nat.mod_lt i hW3.1; rw [hR.out.len]; omega)
      obtain ⟨xl, hxl⟩ : ∃ x, i % 256 = x := ⟨_, rfl⟩
      obtain ⟨xh, hxh⟩ : ∃ x, i / 256 = x := ⟨_, rfl⟩
      have c1 : (i : Int) % 256 = (xl : Int) := by omega
      have c2 : (i : Int) / 256 = (xh : Int) := by omega
      have c3 : (xh : Int) % 256 = (xh : Int) := by omega
      have l1 : xl < 256 := by omega
      have l2 : xh < 256 := by omega
      have OF := offer_lit (0, 0) 2 [xl, xh] rfl _ _ g v s wr HZ2.out hX.out HL.out
      have hof := fun (k : Kp) (h : k.xs = [xl, xh]) => hR.out.off hW3.1 k (by rw [h]; show 2 ≤ 64; decide)
      rw [(hof ⟨none, [xl, xh], 0⟩ rfl).1] at OF
      have HOF := box (fun a c => (hof ⟨a, [xl, xh], c⟩ rfl).2)
      have OF2 := box OF
      clear OF hof
      go_wp2_with fail
      refine OF2.out.mono ?_
      rintro e w4 ⟨v4, a4, c4, rfl, x4, st4⟩
      rw [HOF.out a4 c4] at x4
      have hok := hR.out.ok1 hW3.1 hW3.2 ⟨a4, [xl, xh], c4⟩ (by show 2 ≤ 64; decide)
      obtain ⟨i1, i2, i3, i4⟩ := hR.out.tick ⟨a4, [xl, xh], c4⟩
      have HAC := box (show s.ac < 1000000 from by rw [hR.out.ac]; omega)
      have TK := ptick_any _ _ g v4 _ w4 x4 hok HAC.out
      rw [i1, i2, i3, i4, hxl] at TK
      have TK2 := box TK
      have Y4 := box (rcv_apart hY.out st4.apart HNE.out.1 (fun e => hX.out.out.2 _ e.symm (.inr rfl)))
      have B4 := box (hX.out.steps st4 hbel.out)
      have X4 := box x4
      clear OF2 HOF TK x4 st4 i1 i2 i3 i4 hok
      go_wp2_with fail
      refine TK2.out.mono ?_
      rintro e w5 ⟨a5, c5, rfl, o5, x5, st5⟩
      have X5 := box x5
      have B5 := box (X4.out.steps st5 B4.out)
      have Y5 := box (rcv_apart Y4.out st5.apart HNE.out.1 (fun e => X4.out.out.2 _ e.symm (.inr rfl)))
      obtain ⟨a', c', he, hin, hnil, -, hblk⟩ := own_any o5
      cases he
      have HIN := box hin
      have HBK := box (show [xl, xh] ≠ [] → ∀ q, a5 = some q → q.block ≠ gr from fun _ q hq e => by
        have h1 := (hblk q hq).1
        have h2 : gr < w4.heap.size := World.block_lt_of_cell? w4 ⟨gr, 0, none⟩ Y4.out.q
        omega)
      have HBS := box (show ∀ q, a5 = some q → w4.heap.size ≤ q.block ∧ q.block < w5.heap.size from fun q hq => ⟨(hblk q hq).1, by rw [hq] at hin; exact in_lt hin (by simp)⟩)
      have RC := receive_any (xl : Int) a5 2 c5 [xl, xh] rfl (by decide) hnil gr i w5 hin HBK.out Y5.out (by omega)
      have hx : (xl : Int) = (i : Int) % 256 := by omega
      have hX1 : rcvX i (xl : Int) [xl, xh] = [xl, xh] := by unfold rcvX; rw [if_pos hx]
      have hX2 : rcvR i (xl : Int) = i + 1 := by unfold rcvR; rw [if_pos hx]
      rw [hX1, hX2, decide_eq_true hx] at RC
      have RC2 := box RC
      have HNI := box hnil
      clear RC hx hX1 hX2 o5 x5 st5 hin hnil hblk TK2
      go_wp2_with fail
      refine RC2.out.mono ?_
      rintro e w6 ⟨a6, c6, rfl, o6, y6, ap6⟩
      have Y6 := box y6
      have B6 := box (ap6.below B5.out B5.out.size HNE.out.2 (fun k h => by cases h))
      have X6 := box (show PsAt w1.heap.size (fun k => k < w1.heap.size ∨ k = gr) w6 g v4 _ from (X5.out.apartE (fun k h => .inr h) ap6))
      have IN6 := box (show In w6 a5 [xl, xh] from in_same HIN.out (fun hx q hq => ap6.block _ (HBS.out q hq).2 (HBK.out hx q hq) (fun e => by cases e)))
      obtain ⟨a', c', he, hin6, -, -, -⟩ := own_any o6
      cases he
      have cv6 := conv_any (c := c6) (n := 2) (xs := [xl, xh]) rfl hin6
      have kA : Below w6.heap.size w6 (w6.alloc (.cells #[nU8 xl, nU8 xh] 5)) := (Below.refl _ _).alloc (Nat.le_refl _) _
      have cv6a := conv_any (w := w6.alloc (.cells #[nU8 xl, nU8 xh] 5)) (c := c6) (n := 2) (xs := [xl, xh]) rfl (hin6.below kA)
      have cv7 := conv_any (w := w6.alloc (.cells #[nU8 xl, nU8 xh] 5)) (a := some ⟨w6.heap.size, 0, none⟩) (c := 2) (n := 2) (xs := [xl, xh]) rfl (in_mark w6 [xl, xh] _ (0, 0) _ rfl)
      have hbe : ((strOf [xl, xh]).toList != (strOf [xl, xh]).toList) = false := by simp
      have X7 := box (X6.out.keep kA)
      have Y7 := box (Y6.out.rcvB kA)
      have B7 := box (B6.out.trans (kA.mono B6.out.size))
      have IN7 := box (IN6.out.below kA)
      clear o6 y6 ap6 hin6 kA RC2
      go_wp2_with fail
      clear cv6 cv6a cv7
      generalize w6.alloc (.cells #[nU8 xl, nU8 xh] 5) = w7 at X7 Y7 B7 IN7 ⊢
      have RC := receive_any (xl : Int) a5 2 c5 [xl, xh] rfl (by decide) HNI.out gr (i + 1) w7 IN7.out HBK.out Y7.out (by omega)
      have hx : ¬ (xl : Int) = ((i + 1 : Nat) : Int) % 256 := by omega
      have hX1 : rcvX (i + 1) (xl : Int) [xl, xh] = [] := by unfold rcvX; rw [if_neg hx]
      have hX2 : rcvR (i + 1) (xl : Int) = i + 1 := by unfold rcvR; rw [if_neg hx]
      rw [hX1, hX2, decide_eq_false hx] at RC
      have RC2 := box RC
      clear RC hx hX1 hX2
      go_wp2_with fail
      refine RC2.out.mono ?_
      rintro e w8 ⟨a8, c8, rfl, -, y8, ap8⟩
      have Y8 := box y8
      have B8 := box (ap8.below B7.out B7.out.size HNE.out.2 (fun k h => by cases h))
      have X8 := box (X7.out.apartE (fun k h => .inr h) ap8)
      clear y8 ap8 RC2
      have HM := box (mod_succ i W)
      by_cases hf : i % W + 1 = W
      · have hz : ((i : Int) + 1) % (W : Int) = 0 := by have h := HM.out.1 hf; have h2 : (((i + 1) % W : Nat) : Int) = 0 := by rw [h]; rfl
                                                        rw [Int.natCast_emod] at h2; simpa using h2
        have hWn : (W : Int) ≠ 0 := by omega
        have EX := box (expected_any gr (i + 1) w8 Y8.out (by omega))
        obtain ⟨f1, f2⟩ := hR.out.full hW3.1 hW3.2 ⟨a4, [xl, xh], c4⟩ hf
        have hle := Nat.mod_lt i hW3.1
        have AK := pack_any (((i + 1 : Nat) : Int) % 256) _ _ g v4 _ w8 X8.out (by show i % W + 1 ≤ (s.ks ++ [_]).length; rw [List.length_append, hR.out.len]; exact Nat.le_refl _) (by show i - i % W < 1000000; omega) (by show i % W + 1 < 1000000; omega) (by show i % W + 1 < 1000000; omega)
        rw [f1] at AK
        have F2 := box f2
        generalize ackS _ _ = s9 at AK F2
        have AK2 := box AK
        have bw : ((W : Int) != (W : Int)) = false := by simp
        clear AK f1 f2 hf hle
        go_wp2_with fail
        refine EX.out.mono ?_
        rintro e w9 ⟨rfl, rfl⟩
        go_wp2_with fail
        refine AK2.out.mono ?_
        rintro e w9 ⟨v9, rfl, x9, st9⟩
        have X9 := box x9
        have B9 := box (X8.out.steps st9 B8.out)
        have Y9 := box (rcv_apart Y8.out st9.apart HNE.out.1 (fun e => X8.out.out.2 _ e.symm (.inr rfl)))
        clear x9 st9 AK2 hz c1 c2 c3
        go_wp2_with fail
        go_roundw
        case rel => exact ⟨i + 1, v9, s9, by omega, by go_num, F2, X9, Y9, B9⟩
        case measure => simp [intOf]; omega
      · have hz : ((i : Int) + 1) % (W : Int) = ((i % W + 1 : Nat) : Int) := by have h := HM.out.2 hf hW3.1; rw [← h, Int.natCast_emod]; rfl
        obtain ⟨zz, hzz⟩ : ∃ zz, i % W + 1 = zz := ⟨_, rfl⟩
        have hz2 : ((i : Int) + 1) % (W : Int) = (zz : Int) := by rw [hz, hzz]
        have hzp : 0 < zz := by omega
        have bz : ((zz : Int) == 0) = false := by simp; omega
        have hWn : (W : Int) ≠ 0 := by omega
        have F2 := box (hR.out.next hW3.1 ⟨a4, [xl, xh], c4⟩ (by show 2 ≤ 64; decide) hf)
        generalize (⟨s.W, s.τ, s.ks ++ [⟨a4, [xl, xh], c4⟩], s.ta + 1, i - i % W, i % W + 1, i % W + 1, 0⟩ : Rs) = s9 at F2 X8
        clear hz hzz hf
        go_wp2_with fail
        clear c1 c2 c3 hz2
        go_roundw
        case rel => exact ⟨i + 1, v4, s9, by omega, by go_num, F2, X8, Y8, B8⟩
        case measure => simp [intOf]; omega
    · obtain rfl : i = N := by omega
      obtain ⟨Z, hZ⟩ : ∃ Z, i % W = Z := ⟨_, rfl⟩
      have kD : Below wr.heap.size wr wr.drew := (Below.refl _ _).drew
      have TOq := box (rtotal_any gr i wr.drew (hY.out.rcvB kD))
      have KP := pkept_any _ _ g v s wr.drew (hX.out.keep kD)
      rw [hR.out.len, hZ] at KP
      have KPq := box KP
      have ht : (i : Int).tmod (W : Int) = (Z : Int) := by rw [Int.tmod_eq_emod_of_nonneg (by omega), ← hZ, Int.natCast_emod]
      have hw : IntKind.i64.wrap (Z : Int) = (Z : Int) := by rw [IntKind.wrap_i64]; have := Nat.mod_le i W; omega
      have hWn : (W : Int) ≠ 0 := by omega
      have hWz : ¬ W = 0 := by omega
      have be : ((i : Int) == (i : Int)) = true := by simp
      have bz : ((Z : Int) == (Z : Int)) = true := by simp
      clear KP hZ
      go_wp2_with fail
      refine wp_region_held_drew (S := (fun w' => w' = wr.drew)) (by kernel_rfl) (rfl) (fun hHeld => ?_)
      refine wpAnyH_take (i := 0) (oi := { dst := some 120, op := Go.Op.move (Go.Operand.tmp 8), type := 44, pos := "law.go:329", after := #[], guard := none }) (v := ?_) rfl (by kernel_rfl) (by kernel_rfl) (by kernel_rfl) (fun _ _ _ h => h) (Or.inl ⟨by rfl, ?_⟩) (by assumption) ?_
      rotate_left
      · (intro w hSw; (try dsimp only at hSw); subst hSw; go_simp; (try with_reducible rfl))
      simp only [Act.put, List.setIfInBounds_toArray, List.set_cons_zero, List.set_cons_succ]
      refine wpAnyH_take (i := 2) (oi := { dst := some 122, op := Go.Op.move (Go.Operand.tmp 9), type := 3, pos := "law.go:329", after := #[], guard := none }) (v := ?_) rfl (by kernel_rfl) (by kernel_rfl) (by kernel_rfl) (fun _ _ _ h => h) (Or.inl ⟨by rfl, ?_⟩) (by assumption) ?_
      rotate_left
      · (intro w hSw; (try dsimp only at hSw); subst hSw; go_simp; (try with_reducible rfl))
      simp only [Act.put, List.setIfInBounds_toArray, List.set_cons_zero, List.set_cons_succ]
      refine wpAnyH_ready (rs := [1]) (by kernel_rfl) (by simp) ?_
      refine (AllReadyH.cons (o := { dst := some 121, op := Go.Op.call { callee := Go.Callee.value (Go.Operand.func 28), args := #[Go.Operand.tmp 120], argTypes := #[44] }, type := 3, pos := "law.go:329", after := #[{ on := 0, ground := Go.Ground.data }], guard := none }) rfl (fun K hK => ?_) AllReadyH.nil)
      go_simp
      refine TOq.out.mono ?_
      rintro e w8 ⟨rfl, hw8⟩
      subst hw8
      refine hK.out _ _ (rfl) (fun hHeldx => ?_)
      clear hK K
      refine wpAnyH_take (i := 3) (oi := { dst := some 123, op := Go.Op.binOp Go.BinOp.eql 3 (Go.Operand.tmp 121) (Go.Operand.tmp 122) 3, type := 4, pos := "law.go:329", after := #[{ on := 1, ground := Go.Ground.data }, { on := 2, ground := Go.Ground.data }], guard := none }) (v := ?_) rfl (by kernel_rfl) (by kernel_rfl) (by kernel_rfl) (fun _ _ _ h => h) (Or.inl ⟨by rfl, ?_⟩) (by assumption) ?_
      rotate_left
      · (intro w hSw; (try dsimp only at hSw); subst hSw; go_simp; (try with_reducible rfl))
      simp only [Act.put, List.setIfInBounds_toArray, List.set_cons_zero, List.set_cons_succ]
      refine wpAnyH_take (i := 4) (oi := { dst := some 124, op := Go.Op.move (Go.Operand.tmp 123), type := 4, pos := "law.go:329", after := #[{ on := 3, ground := Go.Ground.data }, { on := 1, ground := Go.Ground.chain }], guard := none }) (v := ?_) rfl (by kernel_rfl) (by kernel_rfl) (by kernel_rfl) (fun _ _ _ h => h) (Or.inl ⟨by rfl, ?_⟩) (by assumption) ?_
      rotate_left
      · (intro w hSw; (try dsimp only at hSw); subst hSw; go_simp; (try with_reducible rfl))
      simp only [Act.put, List.setIfInBounds_toArray, List.set_cons_zero, List.set_cons_succ]
      refine wpAnyH_take (i := 5) (oi := { dst := some 125, op := Go.Op.move (Go.Operand.tmp 6), type := 25, pos := "law.go:329", after := #[{ on := 4, ground := Go.Ground.guard }], guard := some (4, true) }) (v := ?_) rfl (by kernel_rfl) (by kernel_rfl) (by kernel_rfl) (fun _ _ _ h => h) (Or.inl ⟨by rfl, ?_⟩) (by assumption) ?_
      rotate_left
      · (intro w hSw; (try dsimp only at hSw); subst hSw; go_simp; (try with_reducible rfl))
      simp only [Act.put, List.setIfInBounds_toArray, List.set_cons_zero, List.set_cons_succ]
      refine wpAnyH_take (i := 7) (oi := { dst := some 127, op := Go.Op.move (Go.Operand.tmp 9), type := 3, pos := "law.go:329", after := #[{ on := 4, ground := Go.Ground.guard }], guard := some (4, true) }) (v := ?_) rfl (by kernel_rfl) (by kernel_rfl) (by kernel_rfl) (fun _ _ _ h => h) (Or.inl ⟨by rfl, ?_⟩) (by assumption) ?_
      rotate_left
      · (intro w hSw; (try dsimp only at hSw); subst hSw; go_simp; (try with_reducible rfl))
      simp only [Act.put, List.setIfInBounds_toArray, List.set_cons_zero, List.set_cons_succ]
      refine wpAnyH_take (i := 8) (oi := { dst := some 128, op := Go.Op.move (Go.Operand.tmp 5), type := 3, pos := "law.go:329", after := #[{ on := 4, ground := Go.Ground.guard }], guard := some (4, true) }) (v := ?_) rfl (by kernel_rfl) (by kernel_rfl) (by kernel_rfl) (fun _ _ _ h => h) (Or.inl ⟨by rfl, ?_⟩) (by assumption) ?_
      rotate_left
      · (intro w hSw; (try dsimp only at hSw); subst hSw; go_simp; (try with_reducible rfl))
      simp only [Act.put, List.setIfInBounds_toArray, List.set_cons_zero, List.set_cons_succ]
      refine wpAnyH_take (i := 9) (oi := { dst := some 129, op := Go.Op.binOp Go.BinOp.rem 3 (Go.Operand.tmp 127) (Go.Operand.tmp 128) 3, type := 3, pos := "law.go:329", after := #[{ on := 7, ground := Go.Ground.data }, { on := 8, ground := Go.Ground.data }, { on := 4, ground := Go.Ground.guard }], guard := some (4, true) }) (v := ?_) rfl (by kernel_rfl) (by kernel_rfl) (by kernel_rfl) (fun _ _ _ h => h) (Or.inl ⟨by rfl, ?_⟩) (by assumption) ?_
      rotate_left
      · (intro w hSw; (try dsimp only at hSw); subst hSw; go_simp; (try with_reducible rfl))
      simp only [Act.put, List.setIfInBounds_toArray, List.set_cons_zero, List.set_cons_succ]
      refine wpAnyH_ready (rs := [6]) (by kernel_rfl) (by simp) ?_
      refine (AllReadyH.cons (o := { dst := some 126, op := Go.Op.call { callee := Go.Callee.value (Go.Operand.func 23), args := #[Go.Operand.tmp 125], argTypes := #[25] }, type := 3, pos := "law.go:329", after := #[{ on := 5, ground := Go.Ground.data }, { on := 4, ground := Go.Ground.chain }, { on := 4, ground := Go.Ground.guard }], guard := some (4, true) }) rfl (fun K hK => ?_) AllReadyH.nil)
      go_simp
      refine KPq.out.mono ?_
      rintro e w8 ⟨rfl, hw8⟩
      subst hw8
      refine hK.out _ _ (rfl) (fun hHeldx => ?_)
      clear hK K
      refine wpAnyH_take (i := 10) (oi := { dst := some 130, op := Go.Op.binOp Go.BinOp.eql 3 (Go.Operand.tmp 126) (Go.Operand.tmp 129) 3, type := 4, pos := "law.go:329", after := #[{ on := 6, ground := Go.Ground.data }, { on := 9, ground := Go.Ground.data }, { on := 4, ground := Go.Ground.guard }], guard := some (4, true) }) (v := ?_) rfl (by kernel_rfl) (by kernel_rfl) (by kernel_rfl) (fun _ _ _ h => h) (Or.inl ⟨by rfl, ?_⟩) (by assumption) ?_
      rotate_left
      · (intro w hSw; (try dsimp only at hSw); subst hSw; go_simp; (try with_reducible rfl))
      simp only [Act.put, List.setIfInBounds_toArray, List.set_cons_zero, List.set_cons_succ]
      refine wpAnyH_take (i := 11) (oi := { dst := some 131, op := Go.Op.pick (Go.Operand.tmp 124) (Go.Operand.tmp 130) (Go.Operand.const (Go.Value.bool false)), type := 4, pos := "law.go:329", after := #[{ on := 4, ground := Go.Ground.data }, { on := 10, ground := Go.Ground.data }], guard := none }) (v := ?_) rfl (by kernel_rfl) (by kernel_rfl) (by kernel_rfl) (fun _ _ _ h => h) (Or.inl ⟨by rfl, ?_⟩) (by assumption) ?_
      rotate_left
      · (intro w hSw; (try dsimp only at hSw); subst hSw; go_simp; (try with_reducible rfl))
      simp only [Act.put, List.setIfInBounds_toArray, List.set_cons_zero, List.set_cons_succ]
      refine wpAnyH_take (i := 12) (oi := { dst := some 4, op := Go.Op.assign (Go.Operand.tmp 131), type := 4, pos := "law.go:329", after := #[{ on := 11, ground := Go.Ground.data }, { on := 6, ground := Go.Ground.chain }, { on := 0, ground := Go.Ground.phase }, { on := 1, ground := Go.Ground.phase }, { on := 2, ground := Go.Ground.phase }, { on := 3, ground := Go.Ground.phase }, { on := 4, ground := Go.Ground.phase }, { on := 5, ground := Go.Ground.phase }, { on := 6, ground := Go.Ground.phase }, { on := 7, ground := Go.Ground.phase }, { on := 8, ground := Go.Ground.phase }, { on := 9, ground := Go.Ground.phase }, { on := 10, ground := Go.Ground.phase }, { on := 11, ground := Go.Ground.phase }], guard := none }) (v := ?_) rfl (by kernel_rfl) (by kernel_rfl) (by kernel_rfl) (fun _ _ _ h => h) (Or.inl ⟨by rfl, ?_⟩) (by assumption) ?_
      rotate_left
      · (intro w hSw; (try dsimp only at hSw); subst hSw; go_simp; (try with_reducible rfl))
      simp only [Act.put, List.setIfInBounds_toArray, List.set_cons_zero, List.set_cons_succ]
      refine wpAnyH_done (by kernel_rfl) ?_ _
      go_wp2_with fail
      go_ret
      exact ⟨rfl, HB1.out.trans ((hbel.out.trans (kD.mono hbel.out.size)).mono HB1.out.size)⟩
end Go.Proofs.Ytfpicobjnpjhlaa
