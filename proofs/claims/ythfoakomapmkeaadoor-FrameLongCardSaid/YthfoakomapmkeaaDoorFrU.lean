/- frame.Symbols: its contract. -/
import Derived.Test.YthfoakomapmkeaaDoorFrT
namespace Go.Proofs.YthfoakomapmkeaaDoor
open Go.RowKit

set_option maxRecDepth 100000 in
set_option maxHeartbeats 8000000 in
theorem fsymbols_pk (k c n v : Nat) (a : Option Addr) (l cap : Nat) (pay : List Nat) (hl : pay.length = l) (hk : k < 256) (hok : okP k c n v l = true) (hp : ∀ x ∈ pay, x < 256) (hnil : a = none → cap = 0) (w : World) (hin : In w a pay) (hT : Crc.HasTab w) (hT2 : HasTab w) :
    Calls Tryd.prog 17 #[pkV k c n v a l cap] w fun e w' => ∃ u, e = .returned (.tuple #[u, .int .i64 0]) ∧ Own w.heap.size w' u (36 + 2 * l) (symsP k c n v pay) ∧ Below w.heap.size w w' := by
  have HP := box hp
  have HI := box hin
  have HNIL := box hnil
  have HT := box hT
  have HT2 := box hT2
  have HOK := box hok
  obtain ⟨hk0, _, hc4', _, _, _, _, hl64⟩ := of_decide_eq_true hok
  have hc4 : c < 4 := by omega
  clear hp hin hnil hT hok hc4' hk0 hT2
  obtain ⟨i0, hi, hz0, hz1, hz2⟩ := info_parts Tryd.infoU8
  have hbl : (bytesP k c n v pay).length = 17 + l := by rw [bytesP_length, hl]
  have HBL := box (bytesP_lt (n := n) (v := v) (pay := pay) hk (show c < 256 by omega) HP.out (by omega))
  have hel : (enc (bytesP k c n v pay)).length = 2 * (17 + l) := by rw [enc_length, hbl]
  go_enter Tryd.func17, Tryd.ntmps17
  go_wp2_with fail
  have kw0 : Below w.heap.size w (w.alloc (.cells (pkC k c n v a l cap) 24)) := (Below.refl _ _).alloc (Nat.le_refl _) _
  refine (fencode_pk k c n v a l cap pay hl hk HOK.out HP.out HNIL.out _ (HI.out.below kw0) (HT.out.below kw0)).mono ?_
  rintro e w1 ⟨u, rfl, hown, hb⟩
  obtain ⟨fa, fc, rfl, hin, _, _⟩ := own_form hbl hown
  have HB1 := box hin
  have kw := kw0.trans (hb.mono kw0.size)
  clear hown hin hb kw0
  have T2 := HT2.out.below kw
  have HS0 := box (control_ok 0 (by omega) w1 T2)
  have HS1 := box (control_ok 1 (by omega) w1 T2)
  have HTW := box T2
  clear T2
  go_wp2_with fail
  refine HS0.out.mono ?_
  rintro e w2 ⟨rfl, rfl⟩
  go_wp2_with fail
  refine HS1.out.mono ?_
  rintro e w2 ⟨rfl, rfl⟩
  clear HS0 HS1
  have hmk := run_make (P := Tryd.prog) w1 22 5 i0 (.int .u8 0) Tryd.underlying22 hi hz0 .i64 .i64 0 (1 + 2 * (17 + (l : Int)) + 1) (by omega) (by omega) (by rw [hz2]; omega) (by omega)
  rw [hz1] at hmk
  have kt : (1 + 2 * (17 + (l : Int)) + 1).toNat * 1 = 36 + 2 * l := by omega
  have kt' : (1 + 2 * (17 + (l : Int)) + 1).toNat = 36 + 2 * l := by omega
  rw [kt, kt'] at hmk
  clear kt kt'
  replace hmk := hmk.trans (show _ = .ok (.slice (some ⟨w1.heap.size, 0, none⟩) 0 (36 + 2 * l)) (w1.alloc (.cells (madeCells #[Value.int .u8 0] (36 + 2 * l)) 5)) from rfl)
  have kb2 : Below w1.heap.size w1 (w1.alloc (.cells (madeCells #[Value.int .u8 0] (36 + 2 * l)) 5)) := (Below.refl _ _).alloc (Nat.le_refl _) _
  have HO2 : Box (Own w1.heap.size (w1.alloc (.cells (madeCells #[Value.int .u8 0] (36 + 2 * l)) 5)) (.slice (some ⟨w1.heap.size, 0, none⟩) 0 (36 + 2 * l)) 0 []) := box (World.ownsRow_made w1 _ _ (Nat.le_refl _) (by unfold maxLen; omega) (by rw [size_madeCells]; omega))
  generalize w1.alloc (.cells (madeCells #[Value.int .u8 0] (36 + 2 * l)) 5) = w2 at hmk kb2 HO2
  go_wp2_with (first | (at_builtin; refine wpList_append_new (o := ⟨some 36, _, _, _, _, _⟩) rfl (.tmp 33) (.tmp 35) rfl w1.heap.size _ 0 [] rfl HO2.out [49] 1 rfl (0, 0) rfl (by omega) w1 kb2 kb2.size ?_; intro v3 w3 ho3 hb3 hs3) | fail)
  refine (encode_any fa (17 + l) fc (bytesP k c n v pay) hbl HBL.out (by omega) _ (HB1.out.below hb3) (HTW.out.below hb3)).mono ?_
  rintro e w4 ⟨u, rfl, hown, hb⟩
  obtain ⟨ga, gc, rfl, hin, hnil, _⟩ := own_form hel hown
  have HO4 := box (own_later ho3.out hb)
  have kb4 := hb3.trans (hb.mono hs3)
  have HE4 := box hin
  have HN4 := box hnil
  clear hown hin hnil hb ho3 hb3 hs3 HO2 hmk kb2
  go_wp2_with (first | (at_builtin; refine wpList_append_in (o := ⟨some 40, _, _, _, _, _⟩) rfl (.tmp 37) (.tmp 39) rfl w1.heap.size i0 hi hz0 hz1 hz2 v3 1 ([49].map nU8) rfl HO4.out ga (2 * (17 + l)) gc (enc (bytesP k c n v pay)) rfl hel HE4.out HN4.out (by omega) w1.heap.size w1 (Nat.le_refl _) kb4 kb4.size ?_; intro v5 w5 ho5 hb5 hs5; have HO5 := box (show Own w1.heap.size w5 v5 (1 + 2 * (17 + l)) ([49] ++ enc (bytesP k c n v pay)) from by have h := ho5.out; rw [← List.map_append] at h; exact h)) | (at_builtin; refine wpList_append_new (o := ⟨some 44, _, _, _, _, _⟩) rfl (.tmp 41) (.tmp 43) rfl w1.heap.size v5 (1 + 2 * (17 + l)) ([49] ++ enc (bytesP k c n v pay)) rfl HO5.out [50] 1 rfl (0, 0) rfl (by omega) w1 hb5 hs5 ?_; intro v6 w6 ho6 hb6 hs6) | fail)
  refine bodyPost_ret (v := .tuple #[v6, .int .i64 0]) (by simp [results, Tryd.results17, go_sem]) rfl ⟨v6, rfl, own_mono (by have h := ho6.out; rwa [show 36 + 2 * l = 1 + 2 * (17 + l) + 1 by omega]) kw.size, kw.trans (hb6.mono kw.size)⟩

set_option maxRecDepth 100000 in
set_option maxHeartbeats 8000000 in
theorem fsymbols_bad (k : Nat) (c n v : Int) (a : Option Addr) (l cap : Nat) (hok : okP k c n v l = false) (w : World) :
    Calls Tryd.prog 17 #[pkV k c n v a l cap] w fun e w' => e = .returned (.tuple #[.slice none 0 0, .int .i64 1]) ∧ Below w.heap.size w w' := by
  have VA := fun w => box (fencode_bad k c n v a l cap hok w)
  clear hok
  go_enter Tryd.func17, Tryd.ntmps17
  go_wp2_with fail
  have kw0 : Below w.heap.size w (w.alloc (.cells (pkC k c n v a l cap) 24)) := (Below.refl _ _).alloc (Nat.le_refl _) _
  refine (VA _).out.mono ?_
  rintro e w1 ⟨rfl, hbv⟩
  go_wp2_with fail
  refine bodyPost_ret (v := .tuple #[.slice none 0 0, .int .i64 1]) (by simp [results, Tryd.results17, go_sem]) rfl ⟨rfl, kw0.trans (hbv.mono kw0.size)⟩
end Go.Proofs.YthfoakomapmkeaaDoor
