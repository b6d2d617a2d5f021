/- The contract of Append. -/
import Derived.Test.YthfoakomapmkeaaDoorCrcW
import Derived.Laws.CopyOwn
import Derived.Laws.OwnMore
import Derived.OwnWalk
namespace Go.Proofs.YthfoakomapmkeaaDoor.Crc
open Go.RowKit

theorem Tryd.infoU8 : (Tryd.prog.info? 5).map (fun i => (i.zero, i.size, i.bytes)) = some (some (.int .u8 0), 1, 1) := by kernel_rfl
theorem Tryd.sizeU8 : (Tryd.prog.info? 5).map (·.size) = some 1 := by kernel_rfl
theorem nU8_one (xs : List Nat) : ∀ v ∈ xs.map nU8, v.oneCell' = true := by
  intro v hv
  obtain ⟨x, _, rfl⟩ := List.mem_map.1 hv
  rfl
/-- A slice of the call's own that holds xs. -/
def Own (B : Nat) (w : World) (v : Value) (xs : List Nat) : Prop := w.ownsRow B 5 1 v xs.length (xs.map nU8)


theorem own_splice {w : World} {g n : Nat} {xs : List Nat} (hn : xs.length = n) (hg : w.heap[g]? = some (.cells (splice (List.replicate (n + 4) (Value.int .u8 0)) 0 (xs.map nU8)).toArray 5 (0, 0))) (hb : n ≤ 1000) :
    w.ownsRow g 5 1 (.slice (some ⟨g, 0, none⟩) n (n + 4)) n (xs.map nU8) := by
  refine ⟨by simp [hn], .inr ⟨g, n + 4, _, rfl, Nat.le_refl _, hg, by omega, by unfold maxLen; omega, ?_, ?_⟩⟩
  · simp [splice, hn]
  · simp [splice, hn]
theorem lit_at (w : World) (vs : List Value) (t : TypeId) (n : Nat) (hn : n = w.heap.size) : ∀ j u, vs[j]? = some u → (w.alloc (.cells vs.toArray t)).cell? ((⟨n, 0, none⟩ : Addr).add j) = some u := by
  intro j u hj
  subst hn
  rw [add_off, World.cell?_alloc_mark]
  simpa using hj

set_option maxHeartbeats 8000000 in
theorem append_any (a : Option Addr) (n c : Nat) (xs : List Nat) (hn : xs.length = n) (hx : ∀ x ∈ xs, x < 256) (hbig : n ≤ 1000) (w : World) (hc : In w a xs) (hT : HasTab w) :
    Calls Tryd.prog 38 #[.slice a n c] w fun e w' => ∃ v', e = .returned v' ∧ Own w.heap.size w' v' (xs ++ le4 (crc xs)) ∧ Below w.heap.size w w' := by
  have HT := Lib.hid hT
  have HX := Lib.hid hx
  have HI := Lib.hid hc
  clear hT hx hc
  have HL := crc_lt HX.out
  obtain ⟨i0, hi, hz0, hz1, hz2⟩ := info_parts Tryd.infoU8
  have hu22 := Tryd.underlying22
  have hmk := run_make (P := Tryd.prog) w 22 5 i0 (.int .u8 0) hu22 hi hz0 .i64 .i64 (n : Int) ((n : Int) + 4) (by omega) (by omega) (by rw [hz2]; omega) (by omega)
  rw [hz1] at hmk
  have hcur : (w.alloc (.cells (madeCells (Value.int .u8 0).cells (n + 4)) 5)).heap[w.heap.size]? = some (.cells (List.replicate (n + 4) (Value.int .u8 0)).toArray 5 (0, 0)) := by
    show (w.heap.push _)[w.heap.size]? = _
    have : madeCells (Value.int .u8 0).cells (n + 4) = (List.replicate (n + 4) (Value.int .u8 0)).toArray := by
      rw [← toList_madeCells_one]; rfl
    rw [this]
    simp
  have hpos : 0 < (xs.map nU8).length → ∃ ad, a = some ad ∧ ∀ j v, (xs.map nU8)[j]? = some v → (w.alloc (.cells (madeCells (Value.int .u8 0).cells (n + 4)) 5)).cell? (ad.add j) = some v := by
    intro hp
    rcases HI.out with h0 | ⟨ad, hA, hat⟩
    · simp [h0] at hp
    refine ⟨ad, hA, fun j v hj => ?_⟩
    simp at hj
    obtain ⟨x, hxj, rfl⟩ := hj
    have hjl : j < xs.length := (List.getElem?_eq_some_iff.1 hxj).1
    have := keepa (.cells (madeCells (Value.int .u8 0).cells (n + 4)) 5) (hat j hjl)
    rw [this]
    simp [List.getD_eq_getElem?_getD, hxj]
  have hb0 : Below w.heap.size w (w.alloc (.cells (madeCells (Value.int .u8 0).cells (n + 4)) 5)) := (Below.refl _ _).alloc (Nat.le_refl _) _
  have HCUR := Lib.hid hcur
  have HPOS := Lib.hid hpos
  clear hcur hpos
  obtain ⟨v0, v1, v2, v3, hle, e0, e1, e2, e3⟩ : ∃ v0 v1 v2 v3 : Nat, le4 (crc xs) = [v0, v1, v2, v3] ∧ (crc xs : Int) % 256 = (v0 : Int) ∧ (crc xs : Int) / 256 % 256 = (v1 : Int) ∧ (crc xs : Int) / 65536 % 256 = (v2 : Int) ∧ (crc xs : Int) / 16777216 = (v3 : Int) :=
    ⟨_, _, _, _, rfl, by omega, by omega, by omega, by omega⟩
  have HS := sum_any a n c xs hn HX.out (by omega) w HI.out HT.out
  generalize crc xs = s at HL e0 e1 e2 e3 HS hle
  rw [hle]
  clear hle
  go_enter Tryd.func38, Tryd.ntmps38
  go_wp2_with (first | (go_at_call 59; refine HS.mono ?_; rintro e w1 ⟨rfl, hw1⟩; have hw1' := hw1.symm; subst hw1') | (refine wpList_copy_splice (o := ⟨some 15, _, _, _, _, _⟩) rfl (.tmp 13) (.tmp 14) 22 22 rfl 5 hu22 Tryd.sizeU8 (some ⟨w.heap.size, 0, none⟩) a n (n + 4) n c rfl rfl w.heap.size 0 (List.replicate (n + 4) (Value.int .u8 0)) 5 HCUR.out (xs.map nU8) (by simp [hn]) (fun hp => ⟨rfl, HPOS.out hp⟩) (by simp; omega) (nU8_one xs) w.heap.size w hb0 (Nat.le_refl _) ?_; intro w2 hg2 hb2; have HO := Lib.hid (own_splice hn hg2.out hbig); have hsz2 : ∀ {o : Obj}, w.heap.size ≤ (w2.alloc o).heap.size := (by intro o; show _ ≤ (w2.heap.push o).size; rw [Array.size_push]; exact Nat.le_succ_of_le hb2.size); clear hg2) | (at_builtin; refine wpList_append_own (o := ⟨some 29, _, _, _, _, _⟩) _ rfl (.tmp 16) (.tmp 28) 22 rfl w.heap.size 5 i0 (.int .u8 0) 1 1 hu22 hi hz0 hz1 hz2 rfl (by decide) _ n (xs.map nU8) rfl (HO.out.alloc _) ⟨w2.heap.size, 0, none⟩ 4 4 ([v0, v1, v2, v3].map nU8) rfl rfl (lit_at _ _ _ _ rfl) (nU8_one _) (by unfold maxLen; omega) (by omega) hsz2 ?_; intro v' w3 hown3 hgrow3 hnil3; have HO3 := Lib.hid hown3; have HB3 := Lib.hid ((hb2.alloc hb2.size _).grown hgrow3 hsz2 (by rintro k hk; cases hk; exact Nat.le_refl _)); clear hown3 hgrow3 hnil3))
  go_ret
  refine ⟨_, rfl, ?_, HB3.out⟩
  have := HO3.out
  simpa [Own, hn] using this
end Go.Proofs.YthfoakomapmkeaaDoor.Crc
