/- The reference's Errors: its contract. -/
import Derived.Test.YtilacnfcohlbnaaDoorCrcE
import Derived.Test.YtilacnfcohlbnaaDoorCrcFb
namespace Go.Proofs.YtilacnfcohlbnaaDoor
open Go.RowKit

/-- A fact that no tactic looks into. -/
structure Box (p : Prop) : Prop where
  out : p
theorem box {p : Prop} (h : p) : Box p := ⟨h⟩

/-- The reference's state inside a byte: m holds the bits that have been looked at. -/
def rF (k c f m : Nat) : Int := if c + Lib.onesCount m = 0 then -1 else if c = 0 then (8 * k + Lib.trailingZeros8 m : Nat) else f
def rL (k l m : Nat) : Int := if m = 0 then (l : Int) - 1 else ((8 * k + Lib.bitLen m : Nat) : Int) - 1

theorem ones_zero : ∀ m < 256, (Lib.onesCount m = 0 ↔ m = 0) := by decide +kernel

theorem step1 {d j : Nat} (hd : d < 256) (hj : j < 8) (hb : d / 2 ^ j % 2 = 1) (k c f l : Nat) :
    rL k l (d % 2 ^ (j + 1)) = ((8 * k + j : Nat) : Int) ∧ rF k c f (d % 2 ^ (j + 1)) = (if rF k c f (d % 2 ^ j) < 0 then ((8 * k + j : Nat) : Int) else rF k c f (d % 2 ^ j)) := by
  have h1 := bit1a d hd j hj hb
  have h2 := bit1b d hd j hj hb
  have h3 := bit1c d hd j hj hb
  have h4 := bit1d d hd j hj hb
  have h5 := bit1e d hd j hj hb
  have hm : d % 2 ^ j < 256 := Nat.lt_of_le_of_lt (Nat.mod_le _ _) hd
  have hz := ones_zero _ hm
  constructor
  · unfold rL
    rw [if_neg h3, h2]
    omega
  · unfold rF
    rw [h1, if_neg (show ¬ c + (Lib.onesCount (d % 2 ^ j) + 1) = 0 by omega)]
    by_cases hc : c = 0
    · subst hc
      by_cases hm0 : d % 2 ^ j = 0
      · rw [if_pos rfl, h4 hm0, if_pos (show 0 + Lib.onesCount (d % 2 ^ j) = 0 by rw [hz.2 hm0]), if_pos (by omega)]
      · rw [if_pos rfl, h5 hm0, if_neg (show ¬ 0 + Lib.onesCount (d % 2 ^ j) = 0 by rw [Nat.zero_add, hz]; exact hm0), if_pos rfl, if_neg (by omega)]
    · rw [if_neg hc, if_neg (show ¬ c + Lib.onesCount (d % 2 ^ j) = 0 by omega), if_neg hc, if_neg (by omega)]

/-- The bit of a difference. -/
theorem xor_bit (x y j : Nat) : (x ^^^ y) / 2 ^ j % 2 = if x / 2 ^ j % 2 = y / 2 ^ j % 2 then 0 else 1 := by
  rw [Nat.xor_div_two_pow]
  have h := @Nat.xor_mod_two_eq_one (x / 2 ^ j) (y / 2 ^ j)
  split
  · have : ¬ ((x / 2 ^ j ^^^ y / 2 ^ j) % 2 = 1) := by rw [h]; omega
    omega
  · rw [h]; omega

set_option maxHeartbeats 8000000 in
theorem rerrors_at (a b : Addr) (n ca cb : Nat) (xs ys : List Nat) (hn : xs.length = n) (hm : ys.length = n) (hx : ∀ x ∈ xs, x < 256) (hy : ∀ x ∈ ys, x < 256) (hbig : n ≤ 1000) (w : World) (hc : At w a xs) (hd : At w b ys) :
    Calls Tryd.prog 21 #[.slice (some a) n ca, .slice (some b) n cb] w fun e w' =>
      e = .returned (.tuple #[.int .i64 ((errs (List.zipWith (· ^^^ ·) xs ys)).1 : Int), .int .i64 ((errs (List.zipWith (· ^^^ ·) xs ys)).2.2 - (errs (List.zipWith (· ^^^ ·) xs ys)).2.1 : Int)]) ∧ Below w.heap.size w w' := by
  have HX := box hx
  have HY := box hy
  have HC := box hc
  have HD := box hd
  clear hx hy hc hd
  obtain ⟨ds, hds⟩ : ∃ ds, List.zipWith (· ^^^ ·) xs ys = ds := ⟨_, rfl⟩
  have HDS := box hds
  rw [hds]
  clear hds
  have hdl : ds.length = n := by rw [← HDS.out]; simp [hn, hm]
  obtain ⟨rc, rf, rl, hres⟩ : ∃ rc rf rl, errs ds = (rc, rf, rl) := ⟨_, _, _, rfl⟩
  have HR := box hres
  rw [hres]
  clear hres
  go_enter Tryd.func21, Tryd.ntmps21
  go_wp2_with fail
  go_loopw [6, 7, 8, 9] (fun t6 t7 t8 t9 wr => ∃ (k c f l : Nat) (F L : Int), k ≤ n ∧ t9 = .int .i64 k ∧ t6 = .int .i64 c ∧ t7 = .int .i64 F ∧ t8 = .int .i64 L ∧ c ≤ 8 * k ∧ f ≤ 8 * k ∧ l ≤ 8 * k ∧ Box (F = if c = 0 then -1 else (f : Int)) ∧ Box (L = (l : Int) - 1) ∧ Box (c = 0 → f = 0 ∧ l = 0) ∧ Box (errs ds = es k (ds.drop k) c f l) ∧ Below w.heap.size w wr) (fun _ _ _ t9 _ => n - (intOf t9).toNat)
  case atStart => exact ⟨0, 0, 0, 0, -1, -1, Nat.zero_le _, rfl, rfl, rfl, rfl, by omega, by omega, by omega, box rfl, box rfl, box (fun _ => ⟨rfl, rfl⟩), box rfl, Below.refl _ _⟩
  case round =>
    obtain ⟨k, c, f, l, F, L, hk, rfl, rfl, rfl, rfl, lc, lf, ll, hF, hL, hcz, hes, kb⟩ := hrel
    by_cases hlt : k < n
    · have h1 := HC.out k (by omega)
      have h2 := HD.out k (by omega)
      have hltz : (k : Int) < (n : Int) := by omega
      have hge : (0 : Int) ≤ (k : Int) := by omega
      have lx : xs.getD k 0 < 256 := getD_lt HX.out (by omega)
      have ly : ys.getD k 0 < 256 := getD_lt HY.out (by omega)
      have ld : xs.getD k 0 ^^^ ys.getD k 0 < 256 := Nat.xor_lt_two_pow (n := 8) lx ly
      have HDr : Box (es k (ds.drop k) c f l = es k ((xs.getD k 0 ^^^ ys.getD k 0) :: ds.drop (k + 1)) c f l) := box (by
        rw [← zip_getD (by omega) (by omega), HDS.out, ← drop_getD (by omega)])
      have HXB := fun j => box (xor_bit (xs.getD k 0) (ys.getD k 0) j)
      generalize xs.getD k 0 ^^^ ys.getD k 0 = d at ld HDr HXB
      generalize xs.getD k 0 = x at lx h1 HXB
      generalize ys.getD k 0 = y at ly h2 HXB
      go_wp2_with fail
      go_loopw [6, 7, 8, 10] (fun t6 t7 t8 t10 ws => ∃ (j q : Nat) (G M : Int), j ≤ 8 ∧ t10 = .int .i64 j ∧ t6 = .int .i64 (q : Int) ∧ t7 = .int .i64 G ∧ t8 = .int .i64 M ∧ q ≤ c + j ∧ Box (q = c + Lib.onesCount (d % 2 ^ j)) ∧ Box (G = rF k c f (d % 2 ^ j)) ∧ Box (M = rL k l (d % 2 ^ j)) ∧ Below w.heap.size w ws) (fun _ _ _ t10 _ => 8 - (intOf t10).toNat)
      case atStart =>
        refine ⟨0, c, F, L, Nat.zero_le _, rfl, rfl, rfl, rfl, by omega, box ?_, box ?_, box ?_, kb⟩
        · rw [Nat.pow_zero, Nat.mod_one]; rfl
        · rw [hF.out, Nat.pow_zero, Nat.mod_one]
          unfold rF
          rw [show Lib.onesCount 0 = 0 by decide, Nat.add_zero]
          by_cases h0 : c = 0
          · rw [if_pos h0, if_pos h0]
          · rw [if_neg h0, if_neg h0, if_neg h0]
        · rw [hL.out, Nat.pow_zero, Nat.mod_one]; rfl
      case round =>
        obtain ⟨j, q, G, M, hj, rfl, rfl, rfl, rfl, lq, hq, hG, hM, kb2⟩ := hrel
        by_cases hj8 : j < 8
        · have g1 := keepc kb2 h1
          have g2 := keepc kb2 h2
          obtain ⟨xb, hxb⟩ : ∃ xb, x / 2 ^ j % 2 = xb := ⟨_, rfl⟩
          obtain ⟨yb, hyb⟩ : ∃ yb, y / 2 ^ j % 2 = yb := ⟨_, rfl⟩
          obtain ⟨x1, hx1⟩ : ∃ x1, x / 2 ^ j = x1 := ⟨_, rfl⟩
          obtain ⟨y1, hy1⟩ : ∃ y1, y / 2 ^ j = y1 := ⟨_, rfl⟩
          have lx1 : x1 < 256 := by rw [← hx1]; exact Nat.lt_of_le_of_lt (Nat.div_le_self _ _) lx
          have ly1 : y1 < 256 := by rw [← hy1]; exact Nat.lt_of_le_of_lt (Nat.div_le_self _ _) ly
          have ex : (x : Int) / 2 ^ j = (x1 : Int) := by rw [← hx1]; push_cast; rfl
          have ey : (y : Int) / 2 ^ j = (y1 : Int) := by rw [← hy1]; push_cast; rfl
          have bx1 : bits .and .u8 (x1 : Int) 1 = (xb : Int) := by
            have h := u8_and_nat x1 1 lx1 (by decide)
            rw [show x1 &&& 1 = x1 % 2 from Nat.and_two_pow_sub_one_eq_mod x1 1, ← hx1, hxb] at h
            rw [← hx1]; exact h
          have by1 : bits .and .u8 (y1 : Int) 1 = (yb : Int) := by
            have h := u8_and_nat y1 1 ly1 (by decide)
            rw [show y1 &&& 1 = y1 % 2 from Nat.and_two_pow_sub_one_eq_mod y1 1, ← hy1, hyb] at h
            rw [← hy1]; exact h
          have hdb := (HXB j).out
          rw [hxb, hyb] at hdb
          clear hxb hyb hx1 hy1
          by_cases hb : xb = yb
          · subst hb
            rw [if_pos rfl] at hdb
            have hm' := bit0 d ld j hj8 hdb
            have hq' : Box (q = c + Lib.onesCount (d % 2 ^ (j + 1))) := box (by rw [hm']; exact hq.out)
            have hG' : Box (G = rF k c f (d % 2 ^ (j + 1))) := box (by rw [hm']; exact hG.out)
            have hM' : Box (M = rL k l (d % 2 ^ (j + 1))) := box (by rw [hm']; exact hM.out)
            clear hm' hdb hq hG hM HXB
            go_wp2_with fail
            go_quiet (fail)
            go_wp2_with fail
            go_roundw
            case rel => exact ⟨j + 1, q, G, M, by omega, by go_num, rfl, rfl, rfl, by omega, hq', hG', hM', below_drewN _ kb2⟩
            case measure => simp [intOf]; omega
          · rw [if_neg hb] at hdb
            have hne : ((xb : Int) == (yb : Int)) = false := by simp; omega
            have hs := step1 ld hj8 hdb k c f l
            have hq' : Box (q + 1 = c + Lib.onesCount (d % 2 ^ (j + 1))) := box (by rw [bit1a d ld j hj8 hdb, hq.out]; omega)
            have hM' : Box (((8 * k + j : Nat) : Int) = rL k l (d % 2 ^ (j + 1))) := box hs.1.symm
            have hG' : Box ((if G < 0 then ((8 * k + j : Nat) : Int) else G) = rF k c f (d % 2 ^ (j + 1))) := box (by rw [hs.2, hG.out])
            clear hs hdb hb hq hG hM HXB
            by_cases hG0 : G < 0
            · rw [if_pos hG0] at hG'
              have hd0 : decide (G < 0) = true := decide_eq_true hG0
              go_wp2_with fail
              go_quiet (fail)
              go_wp2_with fail
              go_roundw
              case rel => exact ⟨j + 1, q + 1, _, _, by omega, by go_num, by go_num, by go_num, by go_num, by omega, hq', hG', hM', below_drewN _ kb2⟩
              case measure => simp [intOf]; omega
            · rw [if_neg hG0] at hG'
              have hd0 : decide (G < 0) = false := decide_eq_false hG0
              go_wp2_with fail
              go_quiet (fail)
              go_wp2_with fail
              go_roundw
              case rel => exact ⟨j + 1, q + 1, _, _, by omega, by go_num, by go_num, by go_num, by go_num, by omega, hq', hG', hM', below_drewN _ kb2⟩
              case measure => simp [intOf]; omega
        · have hj' : j = 8 := by omega
          subst hj'
          have hd8 : d % 2 ^ 8 = d := Nat.mod_eq_of_lt ld
          rw [hd8] at hq hG hM
          have hz := ones_zero d ld
          have p2 := blen_le d ld
          have p3 := tz_le d ld
          have hes' : Box (errs ds = if d = 0 then es (k + 1) (ds.drop (k + 1)) c f l else es (k + 1) (ds.drop (k + 1)) (c + Lib.onesCount d) (if c = 0 then 8 * k + Lib.trailingZeros8 d else f) (8 * k + Lib.bitLen d)) := box (by rw [hes.out, HDr.out, es])
          have hgoal : ∃ f' l' : Nat, f' ≤ 8 * (k + 1) ∧ l' ≤ 8 * (k + 1) ∧ Box (G = if q = 0 then -1 else (f' : Int)) ∧ Box (M = (l' : Int) - 1) ∧ Box (q = 0 → f' = 0 ∧ l' = 0) ∧ Box (errs ds = es (k + 1) (ds.drop (k + 1)) q f' l') := by
            have q0 := hq.out
            have G0 := hG.out
            have M0 := hM.out
            have z0 := hcz.out
            have e0 := hes'.out
            unfold rF at G0
            unfold rL at M0
            rw [← q0] at G0
            by_cases hd0 : d = 0
            · rw [if_pos hd0] at M0 e0
              have hcq : q = c := by rw [q0, hz.2 hd0]; rfl
              subst hcq
              refine ⟨f, l, by omega, by omega, box ?_, box M0, box z0, box e0⟩
              rw [G0]
              by_cases h : q = 0
              · rw [if_pos h, if_pos h]
              · rw [if_neg h, if_neg h, if_neg h]
            · rw [if_neg hd0] at M0 e0
              have hqz : q ≠ 0 := by rw [q0]; have := fun h => hd0 (hz.1 h); omega
              rw [if_neg hqz] at G0
              refine ⟨if c = 0 then 8 * k + Lib.trailingZeros8 d else f, 8 * k + Lib.bitLen d, by split <;> omega, by omega, box ?_, box M0, box (fun h => absurd h hqz), box (by rw [e0, q0])⟩
              rw [if_neg hqz, G0]
              split <;> rfl
          obtain ⟨f', l', lf', ll', hF', hL', hcz', hes''⟩ := hgoal
          have lq' : q ≤ 8 * (k + 1) := by omega
          clear hq hG hM hes' hes HDr hF hL hcz hz HXB hd8 p2 p3
          go_wp2_with fail
          go_roundw
          case rel => exact ⟨k + 1, q, f', l', G, M, by omega, by go_num, rfl, rfl, rfl, lq', lf', ll', hF', hL', hcz', hes'', kb2⟩
          case measure => simp [intOf]; omega
    · have hkn : k = ds.length := by omega
      have HE : (rc, rf, rl) = (c, f, l) := by rw [← HR.out, hes.out, hkn, List.drop_length]; rfl
      cases HE
      clear hes
      by_cases h0 : rc = 0
      · obtain ⟨rfl, rfl⟩ := hcz.out h0
        subst h0
        clear hF hL hcz HR
        go_wp2_with fail
        refine bodyPost_ret (v := .tuple #[.int .i64 0, .int .i64 0]) (by simp [results, Tryd.results21, go_sem]) rfl ⟨rfl, kb⟩
      · have hz : ((rc : Int) == 0) = false := by simp; omega
        have hF' := hF.out
        have hL' := hL.out
        rw [if_neg h0] at hF'
        subst hF' hL'
        clear hF hL hcz
        go_wp2_with fail
        refine bodyPost_ret (v := .tuple #[.int .i64 (rc : Int), .int .i64 ((rl : Int) - rf)]) (by simp [results, Tryd.results21, go_sem]; omega) rfl ⟨rfl, kb⟩
end Go.Proofs.YtilacnfcohlbnaaDoor
