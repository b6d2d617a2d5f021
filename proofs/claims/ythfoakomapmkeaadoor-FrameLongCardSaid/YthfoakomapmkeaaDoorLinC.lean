/- Encode: its contract. -/
import Derived.Test.YthfoakomapmkeaaDoorLinB
import Derived.Laws.CopyOwn
import Derived.Deep.RegionLaw
namespace Go.Proofs.YthfoakomapmkeaaDoor
open Go.RowKit

theorem u8_and15 {x : Nat} (hx : x < 256) : bits .and .u8 (x : Int) 15 = ((x % 16 : Nat) : Int) := by
  have := u8_and_nat x 15 hx (by decide)
  rw [show x &&& 15 = x % 16 from Nat.and_two_pow_sub_one_eq_mod x 4] at this
  exact this

/-- One append of fresh elements, as a step of a region that draws. -/
theorem step_append_new {ops : Array Oper} {o : Oper} {a : Act} {w : World} {K : Act → World → Prop} {Q : Exit → Act → World → Prop} {E : Prop} (hg : o.guard = none) (s x : Operand)
    (hop : o.op = .call { callee := .builtin .append, args := #[s, x], argTypes := #[22, 22] })
    (base : Nat) (v : Value) (n : Nat) (xs : List Nat) (hs : a.eval s = v) (hown : Own base w v n xs) (news : List Nat) (m : Nat) (hl : news.length = m) (fr : Nat × Nat)
    (hx : a.eval x = .slice (some ⟨w.heap.size, 0, none⟩) m m) (h63 : n + m ≤ 10000) (w0 : World) (hb : Below base w0 w) (hbase : base ≤ w.heap.size)
    (hK : ∀ v' w', Box (Own base w' v' (n + m) (xs ++ news)) → Below base w0 w' → base ≤ w'.heap.size → K (a.put o.dst v') w') :
    if Region.wanted o (yielded ops a.tmps) = true then Oper.wp Tryd.prog o a (w.alloc (.cells (news.map nU8).toArray 5 fr)) K Q else E := by
  have hw : Region.wanted o (yielded ops a.tmps) = true := by simp [Region.wanted, hg]
  rw [if_pos hw]
  obtain ⟨i0, hi, hz0, hz1, hz2⟩ := info_parts Tryd.infoU8
  have hbase' := size_alloc (w := w) base (.cells (news.map nU8).toArray 5 fr) hbase
  have hat := at_mark w news 5 fr _ rfl
  obtain ⟨v', w', hrun, r1, r2, _⟩ := run_append_own (P := Tryd.prog) (w.alloc (.cells (news.map nU8).toArray 5 fr)) base 22 o.type 5 i0 (.int .u8 0) 1 1 Tryd.underlying22 hi hz0 hz1 hz2 rfl (by decide) v n (xs.map nU8) (hown.alloc _) ⟨w.heap.size, 0, none⟩ m m (news.map nU8) (by simp [hl]) (fun j u hj => by
    simp at hj
    obtain ⟨y, hy, rfl⟩ := hj
    have hjl : j < news.length := (List.getElem?_eq_some_iff.1 hy).1
    rw [hat j hjl]
    simp [List.getD_eq_getElem?_getD, hy]) (nU8_one _) (by unfold maxLen; omega) (by omega) hbase'
  unfold Oper.wp
  simp [execOp, hop, resolve, invoke, builtin, hs, hx, hrun, Result.andThen]
  rw [← List.map_append] at r1
  exact hK v' w' (box r1) (own_below (hown.alloc _) (Nat.le_refl _) (hb.alloc hbase _) hbase' r2) (Nat.le_trans hbase' r2.size)

set_option maxHeartbeats 8000000 in
theorem encode_any (a : Option Addr) (n c : Nat) (xs : List Nat) (hn : xs.length = n) (hx : ∀ x ∈ xs, x < 256) (hbig : n ≤ 1000) (w : World) (hc : In w a xs) (hT : HasTab w) :
    Calls Tryd.prog 39 #[.slice a n c] w fun e w' => ∃ v, e = .returned v ∧ Own w.heap.size w' v (2 * n) (enc xs) ∧ Below w.heap.size w w' := by
  have HT := box hT
  have HX := box hx
  have HC := box hc
  clear hT hx hc
  obtain ⟨i0, hi, hz0, hz1, hz2⟩ := info_parts Tryd.infoU8
  have hu22 := Tryd.underlying22
  have hmk := run_make (P := Tryd.prog) w 22 5 i0 (.int .u8 0) hu22 hi hz0 .i64 .i64 0 (2 * (n : Int)) (by omega) (by omega) (by rw [hz2]; omega) (by omega)
  rw [hz1] at hmk
  go_enter Tryd.func39, Tryd.ntmps39
  go_wp2_with fail
  have kb0 : Below w.heap.size w (w.alloc (.cells (madeCells #[Value.int .u8 0] (2 * n)) 5)) := (Below.refl _ _).alloc (Nat.le_refl _) _
  have hown0 : Own w.heap.size (w.alloc (.cells (madeCells #[Value.int .u8 0] (2 * n)) 5)) (.slice (some ⟨w.heap.size, 0, none⟩) 0 (2 * n)) 0 [] := World.ownsRow_made w _ _ (Nat.le_refl _) (by unfold maxLen; omega) (by rw [size_madeCells]; omega)
  have HO0 := box hown0
  clear hown0
  clear hmk
  go_loopw [3, 12] (fun t3 t12 wr => ∃ k : Nat, k ≤ n ∧ t12 = .int .i64 k ∧ Box (Own w.heap.size wr t3 (2 * k) (enc (xs.take k))) ∧ Below w.heap.size w wr) (fun _ t12 _ => n - (intOf t12).toNat)
  case atStart => exact ⟨0, by omega, rfl, HO0, kb0⟩
  case round =>
    obtain ⟨k, hk, rfl, hown, kb⟩ := hrel
    by_cases hlt : k < n
    · obtain ⟨b, rfl, hat⟩ : ∃ b, a = some b ∧ At w b xs := by
        rcases HC.out with h | h
        · subst h; simp at hn; omega
        · exact h
      have h1 := keepc kb (hat k (by omega))
      have HE := box (enc_take (xs := xs) (k := k) (by omega))
      have lx := getD_lt HX.out (show k < xs.length by omega)
      clear hat
      generalize xs.getD k 0 = x at h1 HE lx
      have e1 := u8_and15 lx
      have e2 : (x : Int) / 16 = ((x / 16 : Nat) : Int) := by omega
      have c1 := (HT.out.below kb).cell (x / 16) (by omega)
      have c2 := (HT.out.below kb).cell (x % 16) (by omega)
      have l1 : x / 16 < 16 := by omega
      have l2 : x % 16 < 16 := by omega
      generalize syms.getD (x / 16) 0 = s1 at c1 HE
      generalize syms.getD (x % 16) 0 = s2 at c2 HE
      generalize x / 16 = q1 at e2 c1 l1
      generalize x % 16 = q2 at e1 c2 l2
      have l3 : (q1 : Int) < 20 := by omega
      have l4 : (q2 : Int) < 20 := by omega
      go_wp2_with fail
      have HOD := box hown.out.drew
      have kbd := kb.drew
      go_region_law (refine step_append_new (o := ⟨some 26, _, _, _, _, _⟩) rfl (.tmp 16) (.tmp 25) rfl w.heap.size _ _ _ rfl HOD.out [s1, s2] 2 rfl (0, 0) rfl (by omega) w kbd kbd.size ?_; intro v3 w3 ho3 hb3 hs3)
      all_goals
        go_wp2_with fail
        go_roundw
        case rel => exact ⟨k + 1, by omega, by go_num, box (by rw [HE.out]; have h := ho3.out; rwa [show 2 * (k + 1) = 2 * k + 2 by omega]), hb3⟩
        case measure => simp [intOf]; omega
    · have hk' : k = n := by omega
      subst hk'
      rw [← hn, List.take_length, hn] at hown
      go_wp2_with fail
      go_ret
      exact ⟨_, rfl, hown.out, kb⟩
end Go.Proofs.YthfoakomapmkeaaDoor
