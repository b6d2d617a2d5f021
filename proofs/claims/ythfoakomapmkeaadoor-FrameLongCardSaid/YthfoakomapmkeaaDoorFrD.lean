/- The reference's Symbols: its contract. -/
import Derived.Test.YthfoakomapmkeaaDoorFrC
namespace Go.Proofs.YthfoakomapmkeaaDoor
open Go.RowKit

/-- The symbols of a packet. -/
def symsP (k c n v : Nat) (pay : List Nat) : List Nat := [49] ++ enc (bytesP k c n v pay) ++ [50]
theorem bytesP_lt {k c n v : Nat} {pay : List Nat} (hk : k < 256) (hc : c < 256) (hp : ∀ x ∈ pay, x < 256) (hl : pay.length < 256) : ∀ x ∈ bytesP k c n v pay, x < 256 := by
  intro x hx
  rcases List.mem_append.1 hx with h | h
  · exact bodyP_lt hk hc hp hl x h
  · exact Crc.le4_lt _ x h
theorem symsP_length (k c n v : Nat) (pay : List Nat) : (symsP k c n v pay).length = 36 + 2 * pay.length := by
  simp [symsP, enc_length, bytesP_length]; omega

set_option maxRecDepth 100000 in
set_option maxHeartbeats 8000000 in
theorem rsymbols_pk (k c n v : Nat) (a : Option Addr) (l cap : Nat) (pay : List Nat) (hl : pay.length = l) (hk : k < 256) (hc4 : c < 4) (hl64 : l ≤ 64) (hp : ∀ x ∈ pay, x < 256) (hnil : a = none → cap = 0) (w : World) (hin : In w a pay) :
    Calls Tryd.prog 21 #[pkV k c n v a l cap] w fun e w' => ∃ u, e = .returned u ∧ Own w.heap.size w' u (36 + 2 * l) (symsP k c n v pay) ∧ Below w.heap.size w w' := by
  have HP := box hp
  have HI := box hin
  have HNIL := box hnil
  clear hp hin hnil
  obtain ⟨i0, hi, hz0, hz1, hz2⟩ := info_parts Tryd.infoU8
  have hbl : (bytesP k c n v pay).length = 17 + l := by rw [bytesP_length, hl]
  have HBL := box (bytesP_lt (n := n) (v := v) (pay := pay) hk (show c < 256 by omega) HP.out (by omega))
  have hel : (enc (bytesP k c n v pay)).length = 2 * (17 + l) := by rw [enc_length, hbl]
  go_enter Tryd.func21, Tryd.ntmps21
  go_wp2_with fail
  have kw : Below w.heap.size w (w.alloc (.cells (pkC k c n v a l cap) 24)) := (Below.refl _ _).alloc (Nat.le_refl _) _
  have ks : (w.alloc (.cells (pkC k c n v a l cap) 24)).heap.size = w.heap.size + 1 := by show (w.heap.push _).size = _; rw [Array.size_push]
  generalize w.alloc (.cells (pkC k c n v a l cap) 24) = w1 at kw ks ⊢
  have HO2 := box (own_lit w1 w1.heap.size 1 [49] rfl (Nat.le_refl _) (by omega) (w.heap.size + 1) ks.symm)
  have kb2 : Below w1.heap.size w1 (w1.alloc (.cells ([49].map nU8).toArray 5)) := (Below.refl _ _).alloc (Nat.le_refl _) _
  refine (rencode_pk k c n v a l cap pay hl hk hc4 hl64 HP.out HNIL.out _ (HI.out.below (kw.trans (kb2.mono kw.size)))).mono ?_
  rintro e w3 ⟨u, rfl, hown, hb⟩
  obtain ⟨fa, fc, rfl, hin, _, _⟩ := own_form hbl hown
  have HO3 := box (own_later HO2.out hb)
  have kb3 := kb2.trans (hb.mono kb2.size)
  have HB3 := box hin
  clear hown hin hb HO2 kb2 ks
  go_wp2_with fail
  refine (rencode_any fa (17 + l) fc (bytesP k c n v pay) hbl HBL.out (by omega) _ HB3.out).mono ?_
  rintro e w4 ⟨u, rfl, hown, hb⟩
  obtain ⟨ga, gc, rfl, hin, hnil, _⟩ := own_form hel hown
  have HO4 := box (own_later HO3.out hb)
  have kb4 := kb3.trans (hb.mono kb3.size)
  have HE4 := box hin
  have HN4 := box hnil
  clear hown hin hnil hb HO3 kb3 HB3
  go_wp2_with (first | (at_builtin; refine wpList_append_in (o := ⟨some 9, _, _, _, _, _⟩) rfl (.tmp 5) (.tmp 8) rfl w1.heap.size i0 hi hz0 hz1 hz2 (.slice (some ⟨w.heap.size + 1, 0, none⟩) 1 1) 1 ([49].map nU8) rfl HO4.out ga (2 * (17 + l)) gc (enc (bytesP k c n v pay)) rfl hel HE4.out HN4.out (by omega) w1.heap.size w1 (Nat.le_refl _) kb4 kb4.size ?_; intro v5 w5 ho5 hb5 hs5; have HO5 := box (show Own w1.heap.size w5 v5 (1 + 2 * (17 + l)) ([49] ++ enc (bytesP k c n v pay)) from by have h := ho5.out; rw [← List.map_append] at h; exact h)) | (at_builtin; refine wpList_append_new (o := ⟨some 12, _, _, _, _, _⟩) rfl (.tmp 10) (.tmp 11) rfl w1.heap.size v5 (1 + 2 * (17 + l)) ([49] ++ enc (bytesP k c n v pay)) rfl HO5.out [50] 1 rfl (0, 0) rfl (by omega) w1 hb5 hs5 ?_; intro v6 w6 ho6 hb6 hs6) | fail)
  go_ret
  exact ⟨_, rfl, own_mono (by have h := ho6.out; rwa [show 36 + 2 * l = 1 + 2 * (17 + l) + 1 by omega]) kw.size, kw.trans (hb6.mono kw.size)⟩
end Go.Proofs.YthfoakomapmkeaaDoor
