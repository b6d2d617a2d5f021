/- The reference's Append and Sealed. -/
import Derived.Test.YtilacnfcohlbnaaDoorCrcT
import Derived.Test.YtilacnfcohlbnaaDoorCrcU
import Derived.Test.YtilacnfcohlbnaaDoorCrcR
import Derived.Deep.QuietTactic
import Derived.BigQuiet
namespace Go.Proofs.YtilacnfcohlbnaaDoor
open Go.RowKit

theorem le4_val {t : List Nat} (hl : t.length = 4) (ht : ∀ x ∈ t, x < 256) : le4 (val t) = t ∧ val t < 2 ^ 32 := by
  match t, hl with
  | [a, b, c, d], _ =>
    have ha := ht a (by simp)
    have hb := ht b (by simp)
    have hc := ht c (by simp)
    have hd := ht d (by simp)
    have e : val [a, b, c, d] = a + 256 * (b + 256 * (c + 256 * d)) := by
      simp only [val, Nat.mul_zero, Nat.xor_zero]
      rw [xor_add hc, xor_add hb, xor_add ha]
    rw [e]
    constructor
    · unfold le4
      congr 1
      · omega
      congr 1
      · omega
      congr 1
      · omega
      congr 1
      omega
    · omega
/-- A string is sealed exactly if it has the seal's check sum. -/
theorem sealed_iff {xs : List Nat} (hx : ∀ x ∈ xs, x < 256) (h4 : 4 ≤ xs.length) : crc xs = 558161692 ↔ xs = xs.take (xs.length - 4) ++ le4 (crc (xs.take (xs.length - 4))) := by
  have hm : ∀ x ∈ xs.take (xs.length - 4), x < 256 := fun x h => hx x (List.mem_of_mem_take h)
  constructor
  · intro h
    have ht : ∀ x ∈ xs.drop (xs.length - 4), x < 256 := fun x h => hx x (List.mem_of_mem_drop h)
    obtain ⟨e1, e2⟩ := le4_val (t := xs.drop (xs.length - 4)) (by simp; omega) ht
    have h1 : reg 4294967295 xs = 3736805603 := by
      unfold crc at h
      have := congrArg (· ^^^ 4294967295) h
      simp only [Nat.xor_assoc, Nat.xor_self, Nat.xor_zero] at this
      rw [this]; decide
    rw [← List.take_append_drop (xs.length - 4) xs, reg_append, ← e1, reg_le4 _ e2] at h1
    have h2 : reg 4294967295 (xs.take (xs.length - 4)) ^^^ val (xs.drop (xs.length - 4)) = 4294967295 := by
      refine shn_inj 32 (xor_lt32 (reg_lt _ (by decide) hm) e2) (by decide) ?_
      rw [h1]
      decide +kernel
    have h3 : val (xs.drop (xs.length - 4)) = crc (xs.take (xs.length - 4)) := by
      unfold crc
      generalize reg 4294967295 (xs.take (xs.length - 4)) = r at h2 ⊢
      rw [← h2, ← Nat.xor_assoc, Nat.xor_self, Nat.zero_xor]
    rw [← h3, e1, List.take_append_drop]
  · intro h
    rw [h]
    exact sealed_crc hm

set_option maxHeartbeats 8000000 in
theorem rappend_any (a : Option Addr) (n c : Nat) (xs : List Nat) (hn : xs.length = n) (hx : ∀ x ∈ xs, x < 256) (hbig : n ≤ 1000) (hnil : a = none → c = 0) (w : World) (hc : In w a xs) :
    Calls Tryd.prog 17 #[.slice a n c] w fun e w' => ∃ v', e = .returned v' ∧ Own w.heap.size w' v' (xs ++ le4 (crc xs)) ∧ Below w.heap.size w w' := by
  have HX := box hx
  have HI := box hc
  have HNIL := box hnil
  clear hx hc hnil
  have HL := crc_lt HX.out
  obtain ⟨i0, hi, hz0, hz1, hz2⟩ := info_parts Tryd.infoU8
  obtain ⟨v0, v1, v2, v3, hle, e0, e1, e2, e3⟩ : ∃ v0 v1 v2 v3 : Nat, le4 (crc xs) = [v0, v1, v2, v3] ∧ (crc xs : Int) % 256 = (v0 : Int) ∧ (crc xs : Int) / 256 % 256 = (v1 : Int) ∧ (crc xs : Int) / 65536 % 256 = (v2 : Int) ∧ (crc xs : Int) / 16777216 = (v3 : Int) :=
    ⟨_, _, _, _, rfl, by omega, by omega, by omega, by omega⟩
  have HS := fun w' h => box (rsum_any a n c xs hn HX.out (by omega) w' h)
  generalize crc xs = s at HL e0 e1 e2 e3 HS hle
  rw [hle]
  clear hle
  have HSZ : ∀ (N : Nat) {u : World} (o : Obj), N ≤ u.heap.size → N ≤ (u.alloc o).heap.size := by
    intro N u o h; show _ ≤ (u.heap.push o).size; rw [Array.size_push]; exact Nat.le_succ_of_le h
  go_enter Tryd.func17, Tryd.ntmps17
  go_wp2_with (at_builtin; refine wpList_append_in (o := ⟨some 8, _, _, _, _, _⟩) rfl (.tmp 6) (.tmp 7) rfl w.heap.size i0 hi hz0 hz1 hz2 (.slice (some ⟨w.heap.size, 0, none⟩) 0 0) 0 [] rfl (World.ownsRow_made w #[] 0 (Nat.le_refl _) (Nat.zero_le _) rfl) a n c xs rfl hn (HI.out.below ((Below.refl _ w).alloc (Nat.le_refl _) _)) HNIL.out (by omega) w.heap.size w (Nat.le_refl _) ((Below.refl _ w).alloc (Nat.le_refl _) _) (HSZ _ _ (Nat.le_refl _)) ?_; intro u1 w1 ho1 hb1 hs1)
  refine (HS w1 (HI.out.below hb1)).out.mono ?_
  rintro e w2 ⟨rfl, hw2⟩
  have hw2' := hw2.symm
  subst hw2'
  go_wp2_with fail
  go_loopw [3, 5] (fun t3 t5 wr => ∃ k : Nat, k ≤ 4 ∧ t5 = .int .i64 k ∧ Box (wr.ownsRow w.heap.size 5 1 t3 (n + k) ((xs ++ [v0, v1, v2, v3].take k).map nU8)) ∧ Below w.heap.size w wr ∧ w.heap.size ≤ wr.heap.size) (fun _ t5 _ => 4 - (intOf t5).toNat)
  case atStart => exact ⟨0, by omega, rfl, box (by have h := ho1.out; simpa using h), hb1, hs1⟩
  case round =>
    obtain ⟨k, hk4, rfl, hown, kb, ks⟩ := hrel
    rcases (by omega : k = 0 ∨ k = 1 ∨ k = 2 ∨ k = 3 ∨ k = 4) with rfl | rfl | rfl | rfl | rfl
    · go_wp2_with (at_builtin; refine wpList_append_in (o := ⟨some 22, _, _, _, _, _⟩) rfl (.tmp 15) (.tmp 21) rfl w.heap.size i0 hi hz0 hz1 hz2 _ (n + 0) ((xs ++ [v0, v1, v2, v3].take 0).map nU8) rfl (hown.out.alloc _) (some ⟨wr.heap.size, 0, none⟩) 1 1 [v0] rfl rfl (.inr ⟨_, rfl, at_mark wr [v0] 5 (0, 0) _ rfl⟩) (fun h => by cases h) (by omega) w.heap.size w (Nat.le_refl _) (kb.alloc ks _) (HSZ _ _ ks) ?_; intro u2 w3 ho3 hb3 hs3)
      go_roundw
      case rel => exact ⟨1, by omega, by go_num, box (by have h := ho3.out; simpa [Nat.add_assoc] using h), hb3, hs3⟩
      case measure => simp [intOf]
    · go_wp2_with (at_builtin; refine wpList_append_in (o := ⟨some 22, _, _, _, _, _⟩) rfl (.tmp 15) (.tmp 21) rfl w.heap.size i0 hi hz0 hz1 hz2 _ (n + 1) ((xs ++ [v0, v1, v2, v3].take 1).map nU8) rfl (hown.out.alloc _) (some ⟨wr.heap.size, 0, none⟩) 1 1 [v1] rfl rfl (.inr ⟨_, rfl, at_mark wr [v1] 5 (0, 0) _ rfl⟩) (fun h => by cases h) (by omega) w.heap.size w (Nat.le_refl _) (kb.alloc ks _) (HSZ _ _ ks) ?_; intro u2 w3 ho3 hb3 hs3)
      go_roundw
      case rel => exact ⟨2, by omega, by go_num, box (by have h := ho3.out; simpa [Nat.add_assoc] using h), hb3, hs3⟩
      case measure => simp [intOf]
    · go_wp2_with (at_builtin; refine wpList_append_in (o := ⟨some 22, _, _, _, _, _⟩) rfl (.tmp 15) (.tmp 21) rfl w.heap.size i0 hi hz0 hz1 hz2 _ (n + 2) ((xs ++ [v0, v1, v2, v3].take 2).map nU8) rfl (hown.out.alloc _) (some ⟨wr.heap.size, 0, none⟩) 1 1 [v2] rfl rfl (.inr ⟨_, rfl, at_mark wr [v2] 5 (0, 0) _ rfl⟩) (fun h => by cases h) (by omega) w.heap.size w (Nat.le_refl _) (kb.alloc ks _) (HSZ _ _ ks) ?_; intro u2 w3 ho3 hb3 hs3)
      go_roundw
      case rel => exact ⟨3, by omega, by go_num, box (by have h := ho3.out; simpa [Nat.add_assoc] using h), hb3, hs3⟩
      case measure => simp [intOf]
    · go_wp2_with (at_builtin; refine wpList_append_in (o := ⟨some 22, _, _, _, _, _⟩) rfl (.tmp 15) (.tmp 21) rfl w.heap.size i0 hi hz0 hz1 hz2 _ (n + 3) ((xs ++ [v0, v1, v2, v3].take 3).map nU8) rfl (hown.out.alloc _) (some ⟨wr.heap.size, 0, none⟩) 1 1 [v3] rfl rfl (.inr ⟨_, rfl, at_mark wr [v3] 5 (0, 0) _ rfl⟩) (fun h => by cases h) (by omega) w.heap.size w (Nat.le_refl _) (kb.alloc ks _) (HSZ _ _ ks) ?_; intro u2 w3 ho3 hb3 hs3)
      go_roundw
      case rel => exact ⟨4, by omega, by go_num, box (by have h := ho3.out; simpa [Nat.add_assoc] using h), hb3, hs3⟩
      case measure => simp [intOf]
    · go_wp2_with fail
      go_ret
      exact ⟨_, rfl, by have h := hown.out; simpa [Own, hn] using h, kb⟩
end Go.Proofs.YtilacnfcohlbnaaDoor
