/- FrameEncodes: its walk. -/
import Derived.Test.YthfoakomapmkeaaDoorFrX
import Derived.Test.YthfoakomapmkeaaDoorFrE
namespace Go.Proofs.YthfoakomapmkeaaDoor
open Go.RowKit

theorem clone_any (a : Option Addr) (n c : Nat) (xs : List Nat) (hn : xs.length = n) (hbig : n ≤ 1000) (hnil : a = none → c = 0) (w : World) (hc : In w a xs) :
    Calls Tryd.prog 14 #[.slice a n c] w fun e w' => ∃ v', e = .returned v' ∧ Own w.heap.size w' v' n xs ∧ Below w.heap.size w w' := by
  rcases a with _ | b
  · obtain rfl := hnil rfl
    obtain rfl : xs = [] := by
      rcases hc with h | ⟨b, h, _⟩
      · exact h
      · cases h
    obtain rfl : n = 0 := by simpa using hn.symm
    clear hc hnil
    have q22 : ∀ (w : World) (a : Option Addr) (n c n' c' : Nat), (binOp .eql 22 (.slice a n c) (.slice none n' c')).run Tryd.prog w = .ok (.bool a.isNone) w := fun w a n c n' c' => Lib.run_eql_slice_nil w _ _ a n c n' c' Tryd.underlying22
    go_enter Tryd.func14, Tryd.ntmps14
    go_wp2_with fail
    go_ret
    exact ⟨_, rfl, World.ownsRow_nil _ _ _ _, Below.refl _ _⟩
  · refine clone_at b n c xs hn hbig w ?_
    rcases hc with h | ⟨b', h, hc⟩
    · subst h; intro i hi; simp at hi
    · cases h; exact hc
theorem equal_bel (a b : Option Addr) (n m ca cb : Nat) (xs ys : List Nat) (hn : xs.length = n) (hm : ys.length = m) (hx : ∀ x ∈ xs, x < 256) (hy : ∀ x ∈ ys, x < 256) (hbig : n ≤ 10000) (hbig2 : m ≤ 10000) (w : World) (ha : In w a xs) (hb : In w b ys) (r : Bool) (hr : decide (xs = ys) = r) :
    Calls Tryd.prog 19 #[.slice a n ca, .slice b m cb] w fun e w' => e = .returned (.bool r) ∧ Below w.heap.size w w' :=
  (equal_any a b n m ca cb xs ys hn hm hx hy hbig hbig2 w ha hb r hr).mono fun e w' ⟨h, t, ht⟩ => ⟨h, by rw [ht]; exact drewN_below w t⟩
/-- What is an own slice, as a slice with its bytes. -/
theorem own_any {B n : Nat} {w : World} {v : Value} {xs : List Nat} (h : Own B w v n xs) : ∃ (a : Option Addr) (c : Nat), v = .slice a n c ∧ Box (In w a xs) ∧ (a = none → c = 0) ∧ n ≤ c := by
  obtain ⟨a, c, h1, h2, h3, h4⟩ := own_form (n := n) (xs := xs) (by obtain ⟨hl, _⟩ := h; simpa using hl) h
  exact ⟨a, c, h1, box h2, h3, h4⟩
theorem BoxIn.below {w w' : World} {a : Option Addr} {xs : List Nat} (h : In w a xs) (hb : Below w.heap.size w w') : In w' a xs := In.below h hb

theorem symsP_lt {k c n v : Nat} {pay : List Nat} (hk : k < 256) (hc : c < 256) (hp : ∀ x ∈ pay, x < 256) (hl : pay.length < 256) : ∀ x ∈ symsP k c n v pay, x < 256 := by
  intro x hx
  unfold symsP at hx
  rcases List.mem_append.1 hx with h | h
  · rcases List.mem_append.1 h with h | h
    · simp at h; omega
    · exact enc_lt (bytesP_lt hk hc hp hl) x h
  · simp at h; omega

set_option maxRecDepth 100000 in
set_option maxHeartbeats 8000000 in
theorem encodes_walk (kd : Nat) (c n v : Int) (a : Option Addr) (l cap : Nat) (pay : List Nat) (hl : pay.length = l) (hk : kd < 256) (hp : ∀ x ∈ pay, x < 256) (hnil : a = none → cap = 0) (_hcap : l ≤ cap) (w : World) (hin : In w a pay) (hT : Crc.HasTab w) (hT2 : HasTab w) :
    Calls Tryd.prog 3 #[pkV kd c n v a l cap] w fun e w' => e = .returned (.bool true) ∧ Below w.heap.size w w' := by
  have HP := box hp
  have HI := box hin
  have HNIL := box hnil
  have HT := box hT
  have HT2 := box hT2
  clear hp hin hnil hT hT2
  go_enter Tryd.func3, Tryd.ntmps3
  go_wp2_with fail
  have P := box (pk5_new w kd c n v a l cap w.heap.size rfl)
  have k : Below w.heap.size w (w.alloc (.cells (pkC kd c n v a l cap) 24)) := (Below.refl _ _).alloc (Nat.le_refl _) _
  generalize w.alloc (.cells (pkC kd c n v a l cap) 24) = w0 at P k ⊢
  refine (awake_any _ (HT.out.below k) (HT2.out.below k)).mono ?_
  rintro e w1 ⟨rfl, hb⟩
  replace k := k.trans (hb.mono k.size)
  replace P := box (P.out.keep hb)
  clear hb
  by_cases hbig : 300 < l
  · have d1 : decide ((300 : Int) < (l : Int)) = true := decide_eq_true (by omega)
    obtain ⟨Pq0, Pq1, Pq2, Pq3, Pq4, Pz⟩ := P.out
    go_wp2_with fail
    clear Pq0 Pq1 Pq2 Pq3 Pq4 Pz
    go_ret
    exact ⟨rfl, k⟩
  have d1 : decide ((300 : Int) < (l : Int)) = false := decide_eq_false (by omega)
  obtain ⟨Pq0, Pq1, Pq2, Pq3, Pq4, Pz⟩ := P.out
  go_wp2_with fail
  clear Pq0 Pq1 Pq2 Pq3 Pq4 Pz
  refine (clone_any a l cap pay hl (by omega) HNIL.out _ (HI.out.below k)).mono ?_
  rintro e w2 ⟨b, rfl, ho, hb⟩
  replace k := k.trans (hb.mono k.size)
  replace P := box (P.out.keep hb)
  clear hb
  obtain ⟨ba, bc, rfl, HB, _, _⟩ := own_any ho
  clear ho
  obtain ⟨r, hr⟩ : ∃ r, okP kd c n v l = r := ⟨_, rfl⟩
  obtain ⟨Pq0, Pq1, Pq2, Pq3, Pq4, Pz⟩ := P.out
  go_wp2_with fail
  clear Pq0 Pq1 Pq2 Pq3 Pq4 Pz
  refine (rvalid_any kd c n v a l cap r hr _).mono ?_
  rintro e w3 ⟨rfl, hb⟩
  replace k := k.trans (hb.mono k.size)
  replace P := box (P.out.keep hb)
  replace HB := box (HB.out.below hb)
  clear hb
  cases r
  · obtain ⟨Pq0, Pq1, Pq2, Pq3, Pq4, Pz⟩ := P.out
    go_wp2_with fail
    clear Pq0 Pq1 Pq2 Pq3 Pq4 Pz
    refine (fencode_bad kd c n v a l cap hr _).mono ?_
    rintro e w4 ⟨rfl, hb⟩
    replace k := k.trans (hb.mono k.size)
    replace P := box (P.out.keep hb)
    replace HB := box (HB.out.below hb)
    clear hb
    obtain ⟨Pq0, Pq1, Pq2, Pq3, Pq4, Pz⟩ := P.out
    go_wp2_with fail
    clear Pq0 Pq1 Pq2 Pq3 Pq4 Pz
    refine (fsymbols_bad kd c n v a l cap hr _).mono ?_
    rintro e w5 ⟨rfl, hb⟩
    replace k := k.trans (hb.mono k.size)
    replace P := box (P.out.keep hb)
    replace HB := box (HB.out.below hb)
    clear hb
    obtain ⟨Pq0, Pq1, Pq2, Pq3, Pq4, Pz⟩ := P.out
    go_wp2_with fail
    clear Pq0 Pq1 Pq2 Pq3 Pq4 Pz
    refine (fvalid_any kd c n v a l cap false hr _).mono ?_
    rintro e w6 ⟨rfl, hb⟩
    replace k := k.trans (hb.mono k.size)
    replace P := box (P.out.keep hb)
    replace HB := box (HB.out.below hb)
    clear hb
    obtain ⟨Pq0, Pq1, Pq2, Pq3, Pq4, Pz⟩ := P.out
    go_wp2_with fail
    clear Pq0 Pq1 Pq2 Pq3 Pq4 Pz
    refine (equal_bel a ba l l cap bc pay pay hl hl HP.out HP.out (by omega) (by omega) _ (HI.out.below k) HB.out true (decide_eq_true rfl)).mono ?_
    rintro e w7 ⟨rfl, hb⟩
    replace k := k.trans (hb.mono k.size)
    replace P := box (P.out.keep hb)
    replace HB := box (HB.out.below hb)
    clear hb
    obtain ⟨Pq0, Pq1, Pq2, Pq3, Pq4, Pz⟩ := P.out
    go_wp2_with fail
    clear Pq0 Pq1 Pq2 Pq3 Pq4 Pz
    go_ret
    exact ⟨by simp, k⟩
  · obtain ⟨_, c0, c1, n0, n1, v0, v1, l1⟩ := of_decide_eq_true hr
    obtain ⟨C, rfl⟩ := Int.eq_ofNat_of_zero_le c0
    obtain ⟨N, rfl⟩ := Int.eq_ofNat_of_zero_le n0
    obtain ⟨V, rfl⟩ := Int.eq_ofNat_of_zero_le v0
    have hC : C < 4 := by omega
    have HBL := box (bytesP_lt (n := N) (v := V) (pay := pay) hk (show C < 256 by omega) HP.out (by omega))
    have hbl : (bytesP kd C N V pay).length = 17 + l := by rw [bytesP_length, hl]
    have hsl : (symsP kd C N V pay).length = 36 + 2 * l := by rw [symsP_length, hl]; 
    have HSL := box (symsP_lt (n := N) (v := V) (pay := pay) hk (show C < 256 by omega) HP.out (by omega))
    clear c0 c1 n0 n1 v0 v1
    obtain ⟨Pq0, Pq1, Pq2, Pq3, Pq4, Pz⟩ := P.out
    go_wp2_with fail
    clear Pq0 Pq1 Pq2 Pq3 Pq4 Pz
    refine (fencode_pk kd C N V a l cap pay hl hk hr HP.out HNIL.out _ (HI.out.below k) (HT.out.below k)).mono ?_
    rintro e w4 ⟨u, rfl, ho, hb⟩
    replace k := k.trans (hb.mono k.size)
    replace P := box (P.out.keep hb)
    replace HB := box (HB.out.below hb)
    clear hb
    obtain ⟨ua, uc, rfl, HU, _, _⟩ := own_any ho
    clear ho
    obtain ⟨Pq0, Pq1, Pq2, Pq3, Pq4, Pz⟩ := P.out
    go_wp2_with fail
    clear Pq0 Pq1 Pq2 Pq3 Pq4 Pz
    refine (fsymbols_pk kd C N V a l cap pay hl hk hr HP.out HNIL.out _ (HI.out.below k) (HT.out.below k) (HT2.out.below k)).mono ?_
    rintro e w5 ⟨u, rfl, ho, hb⟩
    replace k := k.trans (hb.mono k.size)
    replace P := box (P.out.keep hb)
    replace HB := box (HB.out.below hb)
    replace HU := box (HU.out.below hb)
    clear hb
    obtain ⟨sa, sc, rfl, HS, _, _⟩ := own_any ho
    clear ho
    obtain ⟨Pq0, Pq1, Pq2, Pq3, Pq4, Pz⟩ := P.out
    go_wp2_with fail
    clear Pq0 Pq1 Pq2 Pq3 Pq4 Pz
    refine (fvalid_any kd C N V a l cap true hr _).mono ?_
    rintro e w6 ⟨rfl, hb⟩
    replace k := k.trans (hb.mono k.size)
    replace P := box (P.out.keep hb)
    replace HB := box (HB.out.below hb)
    replace HU := box (HU.out.below hb)
    replace HS := box (HS.out.below hb)
    clear hb
    obtain ⟨Pq0, Pq1, Pq2, Pq3, Pq4, Pz⟩ := P.out
    go_wp2_with fail
    clear Pq0 Pq1 Pq2 Pq3 Pq4 Pz
    refine (equal_bel a ba l l cap bc pay pay hl hl HP.out HP.out (by omega) (by omega) _ (HI.out.below k) HB.out true (decide_eq_true rfl)).mono ?_
    rintro e w7 ⟨rfl, hb⟩
    replace k := k.trans (hb.mono k.size)
    replace P := box (P.out.keep hb)
    replace HB := box (HB.out.below hb)
    replace HU := box (HU.out.below hb)
    replace HS := box (HS.out.below hb)
    clear hb
    obtain ⟨Pq0, Pq1, Pq2, Pq3, Pq4, Pz⟩ := P.out
    go_wp2_with fail
    clear Pq0 Pq1 Pq2 Pq3 Pq4 Pz
    refine (rencode_pk kd C N V a l cap pay hl hk hC l1 HP.out HNIL.out _ (HI.out.below k)).mono ?_
    rintro e w8 ⟨u, rfl, ho, hb⟩
    replace k := k.trans (hb.mono k.size)
    replace P := box (P.out.keep hb)
    replace HB := box (HB.out.below hb)
    replace HU := box (HU.out.below hb)
    replace HS := box (HS.out.below hb)
    clear hb
    obtain ⟨xa, xc, rfl, HX, _, _⟩ := own_any ho
    clear ho
    obtain ⟨Pq0, Pq1, Pq2, Pq3, Pq4, Pz⟩ := P.out
    go_wp2_with fail
    clear Pq0 Pq1 Pq2 Pq3 Pq4 Pz
    refine (equal_bel ua xa (17 + l) (17 + l) uc xc _ _ hbl hbl HBL.out HBL.out (by omega) (by omega) _ HU.out HX.out true (decide_eq_true rfl)).mono ?_
    rintro e w9 ⟨rfl, hb⟩
    replace k := k.trans (hb.mono k.size)
    replace P := box (P.out.keep hb)
    replace HB := box (HB.out.below hb)
    replace HU := box (HU.out.below hb)
    replace HS := box (HS.out.below hb)
    replace HX := box (HX.out.below hb)
    clear hb
    obtain ⟨Pq0, Pq1, Pq2, Pq3, Pq4, Pz⟩ := P.out
    go_wp2_with fail
    clear Pq0 Pq1 Pq2 Pq3 Pq4 Pz
    refine (rsymbols_pk kd C N V a l cap pay hl hk hC l1 HP.out HNIL.out _ (HI.out.below k)).mono ?_
    rintro e w10 ⟨u, rfl, ho, hb⟩
    replace k := k.trans (hb.mono k.size)
    replace P := box (P.out.keep hb)
    replace HB := box (HB.out.below hb)
    replace HU := box (HU.out.below hb)
    replace HS := box (HS.out.below hb)
    replace HX := box (HX.out.below hb)
    clear hb
    obtain ⟨ya, yc, rfl, HY, _, _⟩ := own_any ho
    clear ho
    obtain ⟨Pq0, Pq1, Pq2, Pq3, Pq4, Pz⟩ := P.out
    go_wp2_with fail
    clear Pq0 Pq1 Pq2 Pq3 Pq4 Pz
    refine (equal_bel sa ya (36 + 2 * l) (36 + 2 * l) sc yc _ _ hsl hsl HSL.out HSL.out (by omega) (by omega) _ HS.out HY.out true (decide_eq_true rfl)).mono ?_
    rintro e w11 ⟨rfl, hb⟩
    replace k := k.trans (hb.mono k.size)
    replace P := box (P.out.keep hb)
    replace HB := box (HB.out.below hb)
    replace HU := box (HU.out.below hb)
    replace HS := box (HS.out.below hb)
    replace HX := box (HX.out.below hb)
    replace HY := box (HY.out.below hb)
    clear hb
    obtain ⟨Pq0, Pq1, Pq2, Pq3, Pq4, Pz⟩ := P.out
    go_wp2_with fail
    clear Pq0 Pq1 Pq2 Pq3 Pq4 Pz
    go_ret
    exact ⟨by simp, k⟩
end Go.Proofs.YthfoakomapmkeaaDoor
