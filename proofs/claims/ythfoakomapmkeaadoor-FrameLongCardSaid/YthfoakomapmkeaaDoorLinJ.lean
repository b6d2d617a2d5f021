/- The reference's Decode: its contract. -/
import Derived.Test.YthfoakomapmkeaaDoorLinI
import Derived.Deep.RegionHeld3
namespace Go.Proofs.YthfoakomapmkeaaDoor
open Go.RowKit

theorem own_later {B : Nat} {w w' : World} {v : Value} {n : Nat} {xs : List Nat} (h : Own B w v n xs) (hb : Below w.heap.size w w') : Own B w' v n xs := by
  obtain ⟨hl, h⟩ := h
  rcases h with h | ⟨g, cap, cur, hv, hg, hh, hr⟩
  · exact ⟨hl, .inl h⟩
  · exact ⟨hl, .inr ⟨g, cap, cur, hv, hg, (hb.block g (Array.getElem?_eq_some_iff.1 hh).1).trans hh, hr⟩⟩
theorem idxI_lt {s q : Nat} (h : idx s = q) (hq : q < 20) : idxI s = (q : Int) := by unfold idxI; rw [h, if_pos hq]
theorem idxI_no {s q : Nat} (h : idx s = q) (hq : ¬ q < 20) : idxI s = -1 := by unfold idxI; rw [h, if_neg hq]

theorem step_append_later {ops : Array Oper} {o : Oper} {a : Act} {w : World} {K : Act → World → Prop} {Q : Exit → Act → World → Prop} {E : Prop} (hg : o.guard = none) (s x : Operand)
    (hop : o.op = .call { callee := .builtin .append, args := #[s, x], argTypes := #[22, 22] })
    (base : Nat) (v : Value) (n : Nat) (xs : List Nat) (w0 w1 : World) (hs : a.eval s = v) (hown : Own base w0 v n xs) (news : List Nat) (m : Nat) (hl : news.length = m) (fr : Nat × Nat) (hb0 : Below w0.heap.size w0 w)
    (hx : a.eval x = .slice (some ⟨w.heap.size, 0, none⟩) m m) (h63 : n + m ≤ 10000) (hb : Below base w1 w) (hbase : base ≤ w.heap.size)
    (hK : ∀ v' w', Box (Own base w' v' (n + m) (xs ++ news)) → Below base w1 w' → base ≤ w'.heap.size → K (a.put o.dst v') w') :
    if Region.wanted o (yielded ops a.tmps) = true then Oper.wp Tryd.prog o a (w.alloc (.cells (news.map nU8).toArray 5 fr)) K Q else E :=
  step_append_new hg s x hop base v n xs hs (own_later hown hb0) news m hl fr hx h63 w1 hb hbase hK

set_option maxHeartbeats 8000000 in
theorem rdecode_any (a : Option Addr) (n c : Nat) (xs : List Nat) (hn : xs.length = n) (hx : ∀ x ∈ xs, x < 256) (hbig : n ≤ 1000) (w : World) (hc : In w a xs) :
    Calls Tryd.prog 52 #[.slice a n c] w (DecPost xs n w) := by
  have HX := box hx
  have HC := box hc
  clear hx hc
  go_enter Tryd.func52, Tryd.ntmps52
  go_wp2_with fail
  go_loopw [5] (fun t5 wr => ∃ k : Nat, k ≤ n ∧ t5 = .int .i64 k ∧ Box (okTo xs k) ∧ Below w.heap.size w wr) (fun t5 _ => n - (intOf t5).toNat)
  case atStart => exact ⟨0, by omega, rfl, box (fun j hj => by omega), Below.refl _ _⟩
  case round =>
    obtain ⟨k, hk, rfl, hok, kb⟩ := hrel
    by_cases hlt : k < n
    · obtain ⟨b, rfl, h1⟩ := in_some (HC.out.below kb) (show k < xs.length by omega)
      have lx := getD_lt HX.out (show k < xs.length by omega)
      have V := index_any _ lx wr
      obtain ⟨x, hxk⟩ : ∃ x, xs.getD k 0 = x := ⟨_, rfl⟩
      have HXK := box hxk
      rw [hxk] at h1 V lx
      clear hxk
      obtain ⟨q, hq⟩ : ∃ q, idx x = q := ⟨_, rfl⟩
      have HQ := box hq
      clear hq
      by_cases hq16 : q < 16
      · rw [idxI_lt HQ.out (by omega)] at V
        have HV := box V
        have hok' : Box (okTo xs (k + 1)) := box (fun j hj => by
          rcases Nat.lt_or_ge j k with h | h
          · exact hok.out j h
          · obtain rfl : j = k := by omega
            rw [HXK.out, HQ.out]; exact hq16)
        have d1 : decide ((q : Int) < 0) = false := decide_eq_false (by omega)
        have d2 : decide ((15 : Int) < (q : Int)) = false := decide_eq_false (by omega)
        clear V
        go_wp2_with fail
        refine HV.out.mono ?_
        rintro e w2 ⟨rfl, hb2⟩
        have kb2 := kb.trans (hb2.mono kb.size)
        go_wp2_with fail
        go_roundw
        case rel => exact ⟨k + 1, by omega, by go_num, hok', kb2⟩
        case measure => simp [intOf]; omega
      · by_cases hq20 : q < 20
        · rw [idxI_lt HQ.out (by omega)] at V
          have HV := box V
          have d1 : decide ((q : Int) < 0) = false := decide_eq_false (by omega)
          have d2 : decide ((15 : Int) < (q : Int)) = true := decide_eq_true (by omega)
          clear V
          go_wp2_with fail
          refine HV.out.mono ?_
          rintro e w2 ⟨rfl, hb2⟩
          have kb2 := kb.trans (hb2.mono kb.size)
          have HF := box (show DecPost xs n w (.returned (.tuple #[.slice none 0 0, .int .i64 (k : Int), .int .i64 3])) w2 from ⟨kb2, .inl ⟨k, hlt, hok.out, by rw [HXK.out, HQ.out]; omega, rfl⟩⟩)
          go_wp2_with fail
          refine bodyPost_ret (v := .tuple #[.slice none 0 0, .int .i64 (k : Int), .int .i64 3]) (by simp [results, Tryd.results52, go_sem]) rfl HF.out
        · rw [idxI_no HQ.out (by omega)] at V
          have HV := box V
          clear V
          go_wp2_with fail
          refine HV.out.mono ?_
          rintro e w2 ⟨rfl, hb2⟩
          have kb2 := kb.trans (hb2.mono kb.size)
          have HF := box (show DecPost xs n w (.returned (.tuple #[.slice none 0 0, .int .i64 (k : Int), .int .i64 3])) w2 from ⟨kb2, .inl ⟨k, hlt, hok.out, by rw [HXK.out, HQ.out]; omega, rfl⟩⟩)
          go_wp2_with fail
          refine bodyPost_ret (v := .tuple #[.slice none 0 0, .int .i64 (k : Int), .int .i64 3]) (by simp [results, Tryd.results52, go_sem]) rfl HF.out
    · have hk' : k = n := by omega
      subst hk'
      by_cases hp : k % 2 = 0
      · have hz : (k : Int) % 2 = 0 := by omega
        obtain ⟨m, HM⟩ : ∃ m, Box (k = 2 * m) := ⟨k / 2, box (by omega)⟩
        clear hp
        go_wp2_with fail
        clear hz
        go_loopw [7, 8] (fun t7 t8 wr => ∃ j : Nat, j ≤ m ∧ t8 = .int .i64 (2 * (j : Int)) ∧ Box (Own w.heap.size wr t7 j (decTo xs j)) ∧ Below w.heap.size w wr) (fun _ t8 _ => k - (intOf t8).toNat)
        case atStart => exact ⟨0, by omega, rfl, box (World.ownsRow_nil _ _ _ _), kb⟩
        case round =>
          obtain ⟨j, hj, rfl, hown, kb⟩ := hrel
          by_cases hlt : j < m
          · have hm := HM.out
            obtain ⟨b, rfl, h1⟩ := in_some HC.out (show 2 * j < xs.length by omega)
            obtain ⟨b', hbb, h2⟩ := in_some HC.out (show 2 * j + 1 < xs.length by omega)
            obtain rfl : b = b' := Option.some.inj hbb
            have l1 := getD_lt HX.out (show 2 * j < xs.length by omega)
            have l2 := getD_lt HX.out (show 2 * j + 1 < xs.length by omega)
            have o1 := hok.out (2 * j) (by omega)
            have o2 := hok.out (2 * j + 1) (by omega)
            have HD := box (decTo_succ xs j)
            generalize xs.getD (2 * j) 0 = x at h1 l1 o1 HD
            generalize xs.getD (2 * j + 1) 0 = y at h2 l2 o2 HD
            have V1 := fun w' => index_any x l1 w'
            have V2 := fun w' => index_any y l2 w'
            rw [idxI_lt (s := x) rfl (by omega)] at V1
            rw [idxI_lt (s := y) rfl (by omega)] at V2
            generalize idx x = q1 at V1 o1 HD
            generalize idx y = q2 at V2 o2 HD
            have lz : 16 * q1 + q2 < 256 := by omega
            obtain ⟨z, hzz⟩ : ∃ z, 16 * q1 + q2 = z := ⟨_, rfl⟩
            rw [hzz] at HD lz
            have W1 := fun w' => box (V1 w')
            have W2 := fun w' => box (V2 w')
            clear V1 V2 hbb
            have hi0 : (0 : Int) ≤ 2 * (j : Int) := by omega
            have hi1 : 2 * (j : Int) < (k : Int) := by omega
            have hi2 : (0 : Int) ≤ 2 * (j : Int) + 1 := by omega
            have hi3 : 2 * (j : Int) + 1 < (k : Int) := by omega
            have hi4 : (2 * (j : Int)).toNat = 2 * j := by omega
            have hi5 : (2 * (j : Int) + 1).toNat = 2 * j + 1 := by omega
            have hi6 : IntKind.i64.wrap (2 * (j : Int) + 1) = 2 * (j : Int) + 1 := by rw [IntKind.wrap_i64]; omega
            have a1 : IntKind.i64.wrap (16 * (q1 : Int)) = 16 * (q1 : Int) := by rw [IntKind.wrap_i64]; omega
            have a2 : IntKind.i64.wrap (16 * (q1 : Int) + (q2 : Int)) = 16 * (q1 : Int) + (q2 : Int) := by rw [IntKind.wrap_i64]; omega
            have a3 : IntKind.u8.wrap (16 * (q1 : Int) + (q2 : Int)) = (z : Int) := by rw [IntKind.wrap_u8]; omega
            have a4 : (16 * (q1 : Int) + (q2 : Int)) % 256 = (z : Int) := by omega
            have hlt' : 2 * (j : Int) < (k : Int) := by omega
            have g1 : ∀ w' : World, Below w.heap.size w w' → w'.cell? (b.add (2 * j)) = some (nU8 x) := fun w' h => keepc h h1
            have h3 : w.cell? ⟨b.block, b.off + (2 * j + 1), none⟩ = some (nU8 y) := by rw [← h2]; unfold Addr.add; simp
            have g2 : ∀ w' : World, Below w.heap.size w w' → w'.cell? ⟨b.block, b.off + (2 * j + 1), none⟩ = some (nU8 y) := fun w' h => keepc h h3
            have b0 : Below wr.heap.size wr wr := Below.refl _ _
            have b1 : Below wr.heap.size wr wr.drew := b0.drew
            have kb1 : Below w.heap.size w wr.drew := kb.drew
            have HO := box hown.out.drew
            have hown0 := hown.out
            clear h1 h2 h3 hzz l1 l2 o1 o2 hm hown HO
            go_wp2_with fail
            go_region_held3 (fun w' => Below w.heap.size w w') (first | assumption | exact kb1 | (refine Below.alloc ?_ (by first | exact Below.size (by assumption) | (simp <;> omega)) _; assumption))
              (first | (go_at_call_of 51 (nU8 x); refine (W1 _).out.mono ?_; rintro e wp ⟨rfl, hb_wp⟩; have k_wp := (fun h : Below wr.heap.size wr _ => h.trans (hb_wp.mono h.size)); replace k_wp := k_wp (by assumption); have m_wp := (fun h : Below w.heap.size w _ => h.trans (hb_wp.mono h.size)); replace m_wp := m_wp (by assumption); clear hb_wp) | (go_at_call_of 51 (nU8 y); refine (W2 _).out.mono ?_; rintro e wq ⟨rfl, hb_wq⟩; have k_wq := (fun h : Below wr.heap.size wr _ => h.trans (hb_wq.mono h.size)); replace k_wq := k_wq (by assumption); have m_wq := (fun h : Below w.heap.size w _ => h.trans (hb_wq.mono h.size)); replace m_wq := m_wq (by assumption); clear hb_wq) | (refine step_append_later (o := ⟨some 55, _, _, _, _, _⟩) rfl (.tmp 39) (.tmp 54) rfl w.heap.size u7 j (decTo xs j) wr w rfl hown0 [z] 1 rfl (0, 0) (by assumption) rfl (by omega) (by assumption) (Below.size (by assumption)) ?_; intro v3 w3 ho3 hb3 hs3))
            all_goals
              go_wp2_with fail
              go_roundw
              case rel => exact ⟨j + 1, by omega, by go_num, box (by rw [HD.out]; exact ho3.out), hb3⟩
              case measure => simp [intOf]; omega
          · have hm := HM.out
            have hj' : j = m := by omega
            have hd : decide (2 * (j : Int) < (k : Int)) = false := decide_eq_false (by omega)
            have HF := fun v => fun h => box (show DecPost xs k w (.returned (.tuple #[v, .int .i64 (-1), .int .i64 0])) wr from ⟨kb, .inr (.inr ⟨hok.out, by omega, v, rfl, h⟩)⟩)
            rw [show k / 2 = j by omega] at HF
            clear hm hj'
            go_wp2_with fail
            refine bodyPost_ret (by simp [results, Tryd.results52, go_sem]) rfl (HF _ hown.out).out
      · have hz : (k : Int) % 2 = 1 := by omega
        have HF := box (show DecPost xs k w (.returned (.tuple #[.slice none 0 0, .int .i64 (k : Int), .int .i64 4])) wr from ⟨kb, .inr (.inl ⟨hok.out, by omega, rfl⟩)⟩)
        clear hp
        go_wp2_with fail
        refine bodyPost_ret (v := .tuple #[.slice none 0 0, .int .i64 (k : Int), .int .i64 4]) (by simp [results, Tryd.results52, go_sem]) rfl HF.out
end Go.Proofs.YthfoakomapmkeaaDoor
