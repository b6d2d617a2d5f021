/- Decode: its contract. -/
import Derived.Test.YthfoakomapmkeaaDoorLinE
import Derived.Test.YthfoakomapmkeaaDoorLinM2
namespace Go.Proofs.YthfoakomapmkeaaDoor
open Go.RowKit

theorem or_nib : ∀ u < 16, ∀ v < 16, bits .or .i64 ((u : Nat) * 16 : Int) ((v : Nat) : Int) = ((16 * u + v : Nat) : Int) := by decide +kernel

/-- What Decode answers. -/
def DecPost (xs : List Nat) (n : Nat) (w : World) (e : Ending) (w' : World) : Prop :=
  Below w.heap.size w w' ∧
  ((∃ i, i < n ∧ okTo xs i ∧ 16 ≤ idx (xs.getD i 0) ∧ e = .returned (.tuple #[.slice none 0 0, .int .i64 (i : Int), .int .i64 3])) ∨
   (okTo xs n ∧ n % 2 = 1 ∧ e = .returned (.tuple #[.slice none 0 0, .int .i64 (n : Int), .int .i64 4])) ∨
   (okTo xs n ∧ n % 2 = 0 ∧ ∃ v, e = .returned (.tuple #[v, .int .i64 (-1), .int .i64 0]) ∧ Own w.heap.size w' v (n / 2) (decTo xs (n / 2))))

set_option maxHeartbeats 8000000 in
theorem decode_any (a : Option Addr) (n c : Nat) (xs : List Nat) (hn : xs.length = n) (hx : ∀ x ∈ xs, x < 256) (hbig : n ≤ 1000) (w : World) (hc : In w a xs) (hT : HasTab w) :
    Calls Tryd.prog 63 #[.slice a n c] w (DecPost xs n w) := by
  have HT := box hT
  have HX := box hx
  have HC := box hc
  clear hT hx hc
  obtain ⟨i0, hi, hz0, hz1, hz2⟩ := info_parts Tryd.infoU8
  have hu22 := Tryd.underlying22
  have hmk := run_make (P := Tryd.prog) w 22 5 i0 (.int .u8 0) hu22 hi hz0 .i64 .i64 0 ((n : Int) / 2) (by omega) (by omega) (by rw [hz2]; omega) (by omega)
  rw [hz1, show ((n : Int) / 2).toNat = n / 2 by omega] at hmk
  have h2 : (0 : Int) ≤ (n : Int) / 2 := by omega
  go_enter Tryd.func63, Tryd.ntmps63
  go_wp2_with fail
  have kb0 : Below w.heap.size w (w.alloc (.cells (madeCells #[Value.int .u8 0] (n / 2)) 5)) := (Below.refl _ _).alloc (Nat.le_refl _) _
  have hown0 : Own w.heap.size (w.alloc (.cells (madeCells #[Value.int .u8 0] (n / 2)) 5)) (.slice (some ⟨w.heap.size, 0, none⟩) 0 (n / 2)) 0 [] := World.ownsRow_made w _ _ (Nat.le_refl _) (by unfold maxLen; omega) (by rw [size_madeCells]; omega)
  have HO0 := box hown0
  clear hown0 hmk
  go_loopw [5, 6, 18] (fun t5 t6 t18 wr => ∃ (k u : Nat), k ≤ n ∧ t18 = .int .i64 k ∧ t6 = .int .i64 (u : Int) ∧ u < 16 ∧ Box (k % 2 = 1 → u = idx (xs.getD (k - 1) 0)) ∧ Box (okTo xs k) ∧ Box (Own w.heap.size wr t5 (k / 2) (decTo xs (k / 2))) ∧ Below w.heap.size w wr) (fun _ _ t18 _ => n - (intOf t18).toNat)
  case atStart => exact ⟨0, 0, by omega, rfl, rfl, by omega, box (fun h => by omega), box (fun j hj => by omega), HO0, kb0⟩
  case round =>
    obtain ⟨k, u, hk, rfl, rfl, hu, hup, hok, hown, kb⟩ := hrel
    by_cases hlt : k < n
    · obtain ⟨b, rfl, h1⟩ := in_some (HC.out.below kb) (show k < xs.length by omega)
      have lx := getD_lt HX.out (show k < xs.length by omega)
      have kT := HT.out.below kb
      have V := value_any _ lx wr kT
      obtain ⟨x, hxk⟩ : ∃ x, xs.getD k 0 = x := ⟨_, rfl⟩
      have HXK := box hxk
      rw [hxk] at h1 V lx
      clear hxk
      obtain ⟨q, hq⟩ : ∃ q, idx x = q := ⟨_, rfl⟩
      have HQ := box hq
      rw [hq] at V
      clear hq
      by_cases hq16 : q < 16
      · rw [show valueV q = .tuple #[.int .i64 (q : Int), .bool false, .int .i64 0] by unfold valueV; rw [if_pos hq16]] at V
        have HV := box V
        have hok' : Box (okTo xs (k + 1)) := box (fun j hj => by
          rcases Nat.lt_or_ge j k with h | h
          · exact hok.out j h
          · obtain rfl : j = k := by omega
            rw [HXK.out, HQ.out]; exact hq16)
        clear V
        go_wp2_with fail
        refine HV.out.mono ?_
        rintro e w2 ⟨rfl, rfl⟩
        by_cases hp : k % 2 = 0
        · have hz : (k : Int) % 2 = 0 := by omega
          have hHP := box hp
          clear hp
          go_wp2_with fail
          go_roundw
          case rel => exact ⟨k + 1, q, by omega, by go_num, rfl, hq16, box (fun h => by rw [Nat.add_sub_cancel, HXK.out, HQ.out]), hok', box (by have := hHP.out; rw [show (k + 1) / 2 = k / 2 by omega]; exact hown.out), kb⟩
          case measure => simp [intOf]; omega
        · have hz : (k : Int) % 2 = 1 := by omega
          have ho := or_nib u hu q hq16
          have HD := box (show decTo xs ((k + 1) / 2) = decTo xs (k / 2) ++ [16 * u + q] by
            rw [show (k + 1) / 2 = k / 2 + 1 by omega, decTo_succ, show 2 * (k / 2) = k - 1 by omega, show k - 1 + 1 = k by omega, HXK.out, HQ.out, ← hup.out (by omega)])
          have hHP := box hp
          clear hp
          have lz : 16 * u + q < 256 := by omega
          obtain ⟨z, hzz⟩ : ∃ z, 16 * u + q = z := ⟨_, rfl⟩
          rw [hzz] at ho HD lz
          clear hzz
          go_wp2_with (at_builtin; refine wpList_append_new (o := ⟨some 46, _, _, _, _, _⟩) rfl (.tmp 39) (.tmp 45) rfl w.heap.size _ _ _ rfl hown.out [z] 1 rfl (0, 0) rfl (by omega) w kb kb.size ?_; intro v3 w3 ho3 hb3 hs3)
          go_roundw
          case rel => exact ⟨k + 1, u, by omega, by go_num, rfl, hu, box (fun h => by have := hHP.out; omega), hok', box (by have := hHP.out; rw [HD.out]; have h := ho3.out; rwa [show (k + 1) / 2 = k / 2 + 1 by omega]), hb3⟩
          case measure => simp [intOf]; omega
      · have HF := box (show DecPost xs n w (.returned (.tuple #[.slice none 0 0, .int .i64 (k : Int), .int .i64 3])) wr from ⟨kb, .inl ⟨k, hlt, hok.out, by rw [HXK.out, HQ.out]; omega, rfl⟩⟩)
        by_cases hq20 : q < 20
        · rw [show valueV q = .tuple #[.int .i64 ((q : Int) - 16), .bool true, .int .i64 0] by unfold valueV; rw [if_neg hq16, if_pos hq20]] at V
          have HV := box V
          clear V
          go_wp2_with fail
          refine HV.out.mono ?_
          rintro e w2 ⟨rfl, rfl⟩
          go_wp2_with fail
          refine bodyPost_ret (v := .tuple #[.slice none 0 0, .int .i64 (k : Int), .int .i64 3]) (by simp [results, Tryd.results63, go_sem]) rfl HF.out
        · rw [show valueV q = .tuple #[.int .i64 0, .bool false, .int .i64 3] by unfold valueV; rw [if_neg hq16, if_neg hq20]] at V
          have HV := box V
          clear V
          go_wp2_with fail
          refine HV.out.mono ?_
          rintro e w2 ⟨rfl, rfl⟩
          go_wp2_with fail
          refine bodyPost_ret (v := .tuple #[.slice none 0 0, .int .i64 (k : Int), .int .i64 3]) (by simp [results, Tryd.results63, go_sem]) rfl HF.out
    · have hk' : k = n := by omega
      subst hk'
      by_cases hp : k % 2 = 0
      · have hz : (k : Int) % 2 = 0 := by omega
        have HF := fun v => fun h => box (show DecPost xs k w (.returned (.tuple #[v, .int .i64 (-1), .int .i64 0])) wr from ⟨kb, .inr (.inr ⟨hok.out, hp, v, rfl, h⟩)⟩)
        clear hp
        go_wp2_with fail
        refine bodyPost_ret (by simp [results, Tryd.results63, go_sem]) rfl (HF _ hown.out).out
      · have hz : (k : Int) % 2 = 1 := by omega
        have HF := box (show DecPost xs k w (.returned (.tuple #[.slice none 0 0, .int .i64 (k : Int), .int .i64 4])) wr from ⟨kb, .inr (.inl ⟨hok.out, by omega, rfl⟩)⟩)
        clear hp
        go_wp2_with fail
        refine bodyPost_ret (v := .tuple #[.slice none 0 0, .int .i64 (k : Int), .int .i64 4]) (by simp [results, Tryd.results63, go_sem]) rfl HF.out
end Go.Proofs.YthfoakomapmkeaaDoor
