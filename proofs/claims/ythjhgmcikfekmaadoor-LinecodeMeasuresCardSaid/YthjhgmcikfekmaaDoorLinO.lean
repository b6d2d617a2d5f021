/- The walk of LinecodeJoins. -/
import Derived.Test.YthjhgmcikfekmaaDoorLinN
namespace Go.Proofs.YthjhgmcikfekmaaDoor
open Go.RowKit

set_option maxHeartbeats 8000000 in
theorem joins_walk (a b : Option Addr) (n m ca cb : Nat) (xs ys : List Nat) (hn : xs.length = n) (hm : ys.length = m) (hx : ∀ x ∈ xs, x < 256) (hy : ∀ x ∈ ys, x < 256)
    (na : a = none → ca = 0) (nb : b = none → cb = 0) (w : World) (ha : In w a xs) (hb : In w b ys) (hT : HasTab w) :
    Calls Tryd.prog 11 #[.slice a n ca, .slice b m cb] w fun e w' => e = .returned (.bool true) ∧ Below w.heap.size w w' := by
  have HT := box hT
  have HX := box hx
  have HY := box hy
  have HA := box ha
  have HB := box hb
  have NA := box na
  have NB := box nb
  clear hT hx hy ha hb na nb
  by_cases hl1 : 100 < n
  · have hd1 : decide ((100 : Int) < (n : Int)) = true := decide_eq_true (by omega)
    go_enter Tryd.func11, Tryd.ntmps11
    go_wp2_with fail
    refine (awake_any _ HT.out).mono ?_
    rintro e w1 ⟨rfl, hb1⟩
    go_wp2_with fail
    go_ret
    exact ⟨rfl, hb1⟩
  have hd1 : decide ((100 : Int) < (n : Int)) = false := decide_eq_false (by omega)
  by_cases hl2 : 100 < m
  · have hd2 : decide ((100 : Int) < (m : Int)) = true := decide_eq_true (by omega)
    go_enter Tryd.func11, Tryd.ntmps11
    go_wp2_with fail
    refine (awake_any _ HT.out).mono ?_
    rintro e w1 ⟨rfl, hb1⟩
    go_wp2_with fail
    go_ret
    exact ⟨rfl, hb1⟩
  have hd2 : decide ((100 : Int) < (m : Int)) = false := decide_eq_false (by omega)
  obtain ⟨i0, hi, hz0, hz1, hz2⟩ := info_parts Tryd.infoU8
  go_enter Tryd.func11, Tryd.ntmps11
  go_wp2_with fail
  refine (awake_any _ HT.out).mono ?_
  rintro e w1 ⟨rfl, kb⟩
  have hs1 := size_alloc (w := w1) w1.heap.size (.cells #[] 5) (Nat.le_refl _)
  go_wp2_with (first | (at_builtin; refine wpList_append_in (o := ⟨some 22, _, _, _, _, _⟩) rfl (.tmp 20) (.tmp 21) rfl w1.heap.size i0 hi hz0 hz1 hz2 (.slice (some ⟨w1.heap.size, 0, none⟩) 0 0) 0 [] rfl (World.ownsRow_made w1 #[] 0 (Nat.le_refl _) (Nat.zero_le _) rfl) a n ca xs rfl hn (HA.out.below (kb.alloc kb.size _)) NA.out (by omega) w.heap.size w kb.size (kb.alloc kb.size _) hs1 ?_; intro v2 w2 ho2 hb2 hs2) | (at_builtin; refine wpList_append_in (o := ⟨some 24, _, _, _, _, _⟩) rfl (.tmp 22) (.tmp 23) rfl w1.heap.size i0 hi hz0 hz1 hz2 v2 (0 + n) ([] ++ xs.map nU8) rfl ho2.out b m cb ys rfl hm (HB.out.below hb2) NB.out (by omega) w.heap.size w kb.size hb2 hs2 ?_; intro v3 w3 ho3 hb3 hs3; obtain ⟨a3, c3, rfl, hi3, hn3, hc3⟩ := own_form (n := n + m) (xs := xs ++ ys) (by simp [hn, hm]) (by have h := ho3.out; simpa [Own] using h); have HI3 := box hi3; clear ho2 ho3 hi3 hn3) | fail)
  have ks3 : w3.heap.size ≤ (w3.alloc (.cells #[] 5)).heap.size := size_alloc _ _ (Nat.le_refl _)
  have HO4 := box (World.ownsRow_made (e := 5) (size := 1) w3 #[] 0 (Nat.le_refl _) (Nat.zero_le _) rfl)
  have kb4 : Below w.heap.size w (w3.alloc (.cells #[] 5)) := hb3.alloc hb3.size _
  have q4 : Below w3.heap.size w3 (w3.alloc (.cells #[] 5)) := (Below.refl _ _).alloc (Nat.le_refl _) _
  refine (encode_any a n ca xs hn HX.out (by omega) _ (HA.out.below kb4) (HT.out.below kb4)).mono ?_
  rintro e w5 ⟨v, rfl, hown, hb5⟩
  have hel : (enc xs).length = 2 * n := by rw [enc_length, hn]
  have hem : (enc ys).length = 2 * m := by rw [enc_length, hm]
  obtain ⟨ea, ec, rfl, hin, hnil, _⟩ := own_form hel hown
  have HO5 := box (own_later (xs := []) HO4.out hb5)
  have HE5 := box hin
  have HN5 := box hnil
  have kb5 := kb4.trans (hb5.mono kb4.size)
  have q5 : Below w3.heap.size w3 w5 := q4.trans (hb5.mono ks3)
  clear hown hb5 hin hnil HO4
  go_wp2_with (first | (at_builtin; refine wpList_append_in (o := ⟨some 28, _, _, _, _, _⟩) rfl (.tmp 25) (.tmp 27) rfl w3.heap.size i0 hi hz0 hz1 hz2 (.slice (some ⟨w3.heap.size, 0, none⟩) 0 0) 0 [] rfl HO5.out ea (2 * n) ec (enc xs) rfl hel HE5.out HN5.out (by omega) w3.heap.size w3 (Nat.le_refl _) q5 q5.size ?_; intro v6 w6 ho6 hb6 hs6) | fail)
  have kb6 : Below w.heap.size w w6 := hb3.trans (hb6.mono hb3.size)
  refine (encode_any b m cb ys hm HY.out (by omega) _ (HB.out.below kb6) (HT.out.below kb6)).mono ?_
  rintro e w7 ⟨v, rfl, hown, hb7⟩
  obtain ⟨fa, fc, rfl, hin, hnil, _⟩ := own_form hem hown
  have HO7 := box (own_later (xs := enc xs) (n := 0 + 2 * n) (v := v6) (B := w3.heap.size) (by have h := ho6.out; simpa [Own] using h) hb7)
  have HE7 := box hin
  have HN7 := box hnil
  have kb7 := kb6.trans (hb7.mono kb6.size)
  have q7 : Below w3.heap.size w3 w7 := hb6.trans (hb7.mono hs6)
  clear hown hb7 hin hnil ho6 HO5 HE5 HN5
  go_wp2_with (first | (at_builtin; refine wpList_append_in (o := ⟨some 31, _, _, _, _, _⟩) rfl (.tmp 28) (.tmp 30) rfl w3.heap.size i0 hi hz0 hz1 hz2 v6 (0 + 2 * n) ((enc xs).map nU8) rfl HO7.out fa (2 * m) fc (enc ys) rfl hem HE7.out HN7.out (by omega) w3.heap.size w3 (Nat.le_refl _) q7 q7.size ?_; intro v8 w8 ho8 hb8 hs8; obtain ⟨a8, c8, rfl, hi8, hn8, hc8⟩ := own_form (n := 2 * (n + m)) (xs := enc (xs ++ ys)) (by rw [enc_append, List.length_append, hel, hem]; omega) (by have h := ho8.out; rw [enc_append, show 2 * (n + m) = 0 + 2 * n + 2 * m by omega]; simpa [Own] using h); have HI8 := box hi8; clear ho8 hi8 hn8) | fail)
  have hll : (xs ++ ys).length = n + m := by rw [List.length_append, hn, hm]
  have hlx : Box (∀ x ∈ xs ++ ys, x < 256) := box (fun x h => (List.mem_append.1 h).elim (HX.out x) (HY.out x))
  have HI3' := box (HI3.out.below hb8)
  have kb8 : Below w.heap.size w w8 := hb3.trans (hb8.mono hb3.size)
  clear HI3 HO7 HE7 HN7 hel hem
  generalize xs ++ ys = zs at hll hlx HI3' HI8
  obtain ⟨N, hN⟩ : ∃ N, n + m = N := ⟨_, rfl⟩
  have hN2 : N ≤ 200 := by omega
  rw [hN] at hll ⊢
  clear hN
  refine (decode_enc a8 N c8 zs hll hlx.out (by omega) w8 HI8.out (HT.out.below kb8)).mono ?_
  rintro e w9 ⟨v, rfl, hown, hb9⟩
  obtain ⟨xa, xc, rfl, hin, _, _⟩ := own_form hll hown
  have HX9 := box hin
  have HI9 := box (HI8.out.below hb9)
  have HW9 := box (HI3'.out.below hb9)
  have kb9 := kb8.trans (hb9.mono kb8.size)
  have hel : (enc zs).length = 2 * N := by rw [enc_length, hll]
  clear hown hin hb9 HI8 HI3'
  go_wp2_with fail
  refine (encode_any a3 N c3 zs hll hlx.out (by omega) _ HW9.out (HT.out.below kb9)).mono ?_
  rintro e w10 ⟨v, rfl, hown, hb10⟩
  obtain ⟨ga, gc, rfl, hin, _, _⟩ := own_form hel hown
  have HG := box hin
  have HX10 := box (HX9.out.below hb10)
  have HI10 := box (HI9.out.below hb10)
  have HW10 := box (HW9.out.below hb10)
  have kb10 := kb9.trans (hb10.mono kb9.size)
  clear hown hin hb10 HI9 HX9 HW9
  go_wp2_with fail
  refine (same_any ga a8 (2 * N) (2 * N) gc c8 (enc zs) (enc zs) hel hel (enc_lt hlx.out) (enc_lt hlx.out) (by omega) (by omega) _ HG.out HI10.out true (decide_eq_true rfl)).mono ?_
  rintro e w11 ⟨rfl, t, rfl⟩
  go_wp2_with fail
  refine (same_any xa a3 N N xc c3 zs zs hll hll hlx.out hlx.out (by omega) (by omega) _ (HX10.out.below (drewN_below _ _)) (HW10.out.below (drewN_below _ _)) true (decide_eq_true rfl)).mono ?_
  rintro e w11 ⟨rfl, t2, rfl⟩
  go_wp2_with fail
  go_ret
  exact ⟨rfl, below_drewN _ kb10⟩
end Go.Proofs.YthjhgmcikfekmaaDoor
