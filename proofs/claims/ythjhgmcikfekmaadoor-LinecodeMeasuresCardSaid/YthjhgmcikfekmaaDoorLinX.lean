/- The reference's Bits and Small: their contracts. -/
import Derived.Test.YthjhgmcikfekmaaDoorLinV
namespace Go.Proofs.YthjhgmcikfekmaaDoor
open Go.RowKit

/-- A value of kind int from a natural number. -/
abbrev nI (x : Nat) : Value := .int .i64 (x : Int)
theorem nI_one (xs : List Nat) : ∀ v ∈ xs.map nI, v.oneCell' = true := by
  intro v hv
  obtain ⟨x, _, rfl⟩ := List.mem_map.1 hv
  rfl
abbrev OwnI (B : Nat) (w : World) (v : Value) (n : Nat) (xs : List Nat) : Prop := w.ownsRow B 3 1 v n (xs.map nI)
/-- The first m bits. -/
def blTo (xs : List Nat) (m : Nat) : List Nat := (List.range m).map (bt xs)
theorem blTo_length (xs : List Nat) (m : Nat) : (blTo xs m).length = m := by simp [blTo]
theorem blTo_succ (xs : List Nat) (m : Nat) : blTo xs (m + 1) = blTo xs m ++ [bt xs m] := by unfold blTo; rw [List.range_succ, List.map_append]; rfl
theorem bt_at (xs : List Nat) (i s : Nat) (hs : s < 6) : bt xs (6 * i + (5 - s)) = xs.getD i 0 / 2 ^ s % 2 := by
  unfold bt
  rw [show (6 * i + (5 - s)) / 6 = i by omega, show 5 - (6 * i + (5 - s)) % 6 = s by omega]

theorem wpList_append_newI {w : World} {ops : Array Oper} {rest : List Oper} {o : Oper} {a : Act} {Q : Exit → Act → World → Prop} (hgd : o.guard = none) (s x : Operand)
    (ho : o.op = .call { callee := .builtin .append, args := #[s, x], argTypes := #[50, 50] })
    (base : Nat) (v : Value) (n : Nat) (xs : List Nat) (hs : a.eval s = v) (hown : OwnI base w v n xs) (z : Nat) (fr : Nat × Nat)
    (hx : a.eval x = .slice (some ⟨w.heap.size, 0, none⟩) 1 1) (h63 : n + 1 ≤ 10000) (w0 : World) (hb : Below base w0 w) (hbase : base ≤ w.heap.size)
    (h : ∀ v' w', Box (OwnI base w' v' (n + 1) (xs ++ [z])) → Below base w0 w' → base ≤ w'.heap.size → wpList Tryd.prog ops Q rest (a.put o.dst v') w') :
    wpList Tryd.prog ops Q (o :: rest) a (w.alloc (.cells #[nI z] 3 fr)) := by
  obtain ⟨i0, hi, hz0, hz1, hz2⟩ := info_parts Tryd.infoInt
  have hbase' := size_alloc (w := w) base (.cells #[nI z] 3 fr) hbase
  refine wpList_append_own (w.alloc (.cells #[nI z] 3 fr)) hgd s x 50 ho base 3 i0 (.int .i64 0) 1 8 Tryd.underlying50 hi hz0 hz1 hz2 rfl (by decide) v n (xs.map nI) hs (hown.alloc _) ⟨w.heap.size, 0, none⟩ 1 1 [nI z] hx rfl (fun j u hj => by
    rw [add_off, World.cell?_alloc_mark]
    simpa using hj) (by simp [nI, Value.oneCell']) (by unfold maxLen; omega) (by omega) hbase' ?_
  intro v' w' h1 h2 _
  refine h v' w' (box ?_) (own_below (hown.alloc _) (Nat.le_refl _) (hb.alloc hbase _) hbase' h2) (Nat.le_trans hbase' h2.size)
  show w'.ownsRow base 3 1 v' (n + 1) ((xs ++ [z]).map nI)
  rw [List.map_append]
  exact h1

set_option maxHeartbeats 4000000 in
theorem small_any (a : Option Addr) (n c : Nat) (xs : List Nat) (hn : xs.length = n) (hbig : n ≤ 1000) (r : Bool) (hr : small xs = r) (w : World) (hc : In w a xs) :
    Calls Tryd.prog 34 #[.slice a n c] w fun e w' => e = .returned (.bool r) ∧ w = w' := by
  have HC := box hc
  have HR := box hr
  clear hr hc
  go_enter Tryd.func34, Tryd.ntmps34
  go_wp2_with fail
  go_loop [3] (fun t3 => ∃ k : Nat, k ≤ n ∧ t3 = .int .i64 k ∧ Box (∀ j < k, xs.getD j 0 ≤ 63)) (fun t3 => n - (intOf t3).toNat)
  case atStart => exact ⟨0, by omega, rfl, box (fun j hj => by omega)⟩
  case round =>
    obtain ⟨k, hk, rfl, hle⟩ := hrel
    by_cases hlt : k < n
    · obtain ⟨b, rfl, c1⟩ := in_some HC.out (show k < xs.length by omega)
      obtain ⟨x, hxk⟩ : ∃ x, xs.getD k 0 = x := ⟨_, rfl⟩
      have HXK := box hxk
      rw [hxk] at c1
      clear hxk
      by_cases h63 : 63 < x
      · have d1 : decide ((63 : Int) < (x : Int)) = true := decide_eq_true (by omega)
        have HV := box (show r = false by
          rw [← HR.out]
          cases h : small xs with
          | false => rfl
          | true => have := small_mem.1 h k (by omega); rw [HXK.out] at this; omega)
        clear h63
        go_wp2_with fail
        go_ret
        exact ⟨by rw [HV.out]; rfl, rfl⟩
      · have d1 : decide ((63 : Int) < (x : Int)) = false := decide_eq_false (by omega)
        have HN : Box (∀ j < k + 1, xs.getD j 0 ≤ 63) := box (fun j hj => by
          rcases Nat.lt_or_ge j k with h | h
          · exact hle.out j h
          · obtain rfl : j = k := by omega
            rw [HXK.out]; omega)
        clear h63
        go_wp2_with fail
        go_round
        case rel => exact ⟨k + 1, by omega, by go_num, HN⟩
        case measure => simp [intOf]; omega
    · obtain rfl : k = n := by omega
      have HV := box (show r = true by rw [← HR.out]; exact small_mem.2 (fun j hj => hle.out j (by omega)))
      go_wp2_with fail
      go_ret
      exact ⟨by rw [HV.out]; rfl, rfl⟩

set_option maxHeartbeats 8000000 in
theorem bits_any (a : Option Addr) (n c : Nat) (xs : List Nat) (hn : xs.length = n) (hx : ∀ x ∈ xs, x < 256) (hbig : n ≤ 1000) (w : World) (hc : In w a xs) :
    Calls Tryd.prog 33 #[.slice a n c] w fun e w' => ∃ v, e = .returned v ∧ OwnI w.heap.size w' v (6 * n) (blTo xs (6 * n)) ∧ Below w.heap.size w w' := by
  have HX := box hx
  have HC := box hc
  clear hx hc
  go_enter Tryd.func33, Tryd.ntmps33
  go_wp2_with fail
  go_loopw [3, 4] (fun t3 t4 wr => ∃ i : Nat, i ≤ n ∧ t4 = .int .i64 i ∧ Box (OwnI w.heap.size wr t3 (6 * i) (blTo xs (6 * i))) ∧ Below w.heap.size w wr) (fun _ t4 _ => n - (intOf t4).toNat)
  case atStart => exact ⟨0, by omega, rfl, box (World.ownsRow_nil _ _ _ _), Below.refl _ _⟩
  case round =>
    obtain ⟨i, hi, rfl, hown, kb⟩ := hrel
    by_cases hlt : i < n
    · obtain ⟨b, rfl, _⟩ := in_some HC.out (show i < xs.length by omega)
      go_wp2_with fail
      go_loopw [3, 5] (fun t3 t5 wr => ∃ r : Nat, r ≤ 6 ∧ t5 = .int .i64 ((r : Int) - 1) ∧ Box (OwnI w.heap.size wr t3 (6 * i + (6 - r)) (blTo xs (6 * i + (6 - r)))) ∧ Below w.heap.size w wr) (fun _ t5 _ => (intOf t5 + 1).toNat)
      case atStart => exact ⟨6, by omega, rfl, hown, kb⟩
      case round =>
        obtain ⟨r, hr, rfl, hown, kb⟩ := hrel
        cases r with
        | zero =>
          have e : ((0 : Nat) : Int) - 1 = -1 := rfl
          rw [e]
          go_wp2_with fail
          go_roundw
          case rel => exact ⟨i + 1, by omega, by go_num, box (by have h := hown.out; rwa [show 6 * i + (6 - 0) = 6 * (i + 1) by omega] at h), kb⟩
          case measure => simp [intOf]; omega
        | succ s =>
          have e : ((s + 1 : Nat) : Int) - 1 = (s : Int) := by omega
          rw [e]
          clear e
          have c1 := in_some (HC.out.below kb) (show i < xs.length by omega)
          obtain ⟨b', hbb, c1⟩ := c1
          obtain rfl : b = b' := Option.some.inj hbb
          have hbt := bt_at xs i s (by omega)
          have lx := getD_lt HX.out (show i < xs.length by omega)
          generalize xs.getD i 0 = x at c1 hbt lx
          obtain ⟨y, hy⟩ : ∃ y, x / 2 ^ s = y := ⟨_, rfl⟩
          have ey : (x : Int) / 2 ^ s = (y : Int) := by rw [← hy]; push_cast; rfl
          rw [hy] at hbt
          have ly := Nat.mod_lt y (show 0 < 2 by decide)
          have e2 : (y : Int) % 2 = ((y % 2 : Nat) : Int) := by omega
          have HE := box (show blTo xs (6 * i + (6 - s)) = blTo xs (6 * i + (6 - (s + 1))) ++ [y % 2] by
            rw [show 6 * i + (6 - s) = 6 * i + (6 - (s + 1)) + 1 by omega, blTo_succ, show 6 * i + (6 - (s + 1)) = 6 * i + (5 - s) by omega, hbt])
          generalize y % 2 = z at e2 HE ly
          clear hy hbt hbb
          go_wp2_with (at_builtin; refine wpList_append_newI (o := ⟨some 27, _, _, _, _, _⟩) rfl (.tmp 16) (.tmp 26) rfl w.heap.size _ _ _ rfl hown.out z (0, 0) rfl (by omega) w kb kb.size ?_; intro v3 w3 ho3 hb3 hs3)
          go_roundw
          case rel => exact ⟨s, by omega, by go_num, box (by rw [HE.out]; have h := ho3.out; rwa [show 6 * i + (6 - s) = 6 * i + (6 - (s + 1)) + 1 by omega]), hb3⟩
          case measure => simp [intOf]
    · obtain rfl : i = n := by omega
      go_wp2_with fail
      go_ret
      exact ⟨_, rfl, hown.out, kb⟩
end Go.Proofs.YthjhgmcikfekmaaDoor
