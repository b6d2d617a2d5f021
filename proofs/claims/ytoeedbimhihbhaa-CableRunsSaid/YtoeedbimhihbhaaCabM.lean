/- Sending a fresh row of symbols; awake; CableNil. -/
import Derived.Test.YtoeedbimhihbhaaCabL
namespace Go.Proofs.Ytoeedbimhihbhaa
open Go.RowKit

theorem send_lit (B : Nat) (Z : Nat → Prop) (g : Nat) (v : Value) (s : Cab) (w : World) (hZ : ∀ k, Z k → k < w.heap.size) (x : CabAt B Z w g v s) (n : Nat) (xs : List Nat) (hn : xs.length = n) (hx : ∀ x ∈ xs, x < 256) (hbig : n ≤ 1000) (ht : s.time < 1000000) (hd : s.d ≤ 100) (hs : s.sent < 1000000) (hl : s.lost < 1000000) :
    Calls Try.prog 19 #[.pointer (some ⟨g, 0, none⟩), .slice (some ⟨w.heap.size, 0, none⟩) n n] (w.alloc (.cells (xs.map nU8).toArray 5)) fun e w' => ∃ v' s' code, e = .returned (.int .i64 code) ∧ sendR s xs s' code ∧ CabAt B Z w' g v' s' ∧ Steps g v v' w w' := by
  have kA := (Below.refl w.heap.size w).alloc (Nat.le_refl _) (.cells (xs.map nU8).toArray 5)
  have x1 := (x.fresh (Z' := fun k => Z k ∨ k = w.heap.size) (fun k h => h.imp id (fun h => by omega))).keep kA
  have hs1 := size_alloc' w (.cells (xs.map nU8).toArray 5)
  refine (send_any B (fun k => Z k ∨ k = w.heap.size) g v s _ (fun k h => h.elim (fun h => by have := hZ k h; omega) (fun h => by omega)) x1 _ n n xs hn hx hbig (in_mark w xs _ (0, 0) _ rfl) (fun h => by cases h) (fun _ q hq => by cases hq; exact .inr rfl) ht hd hs hl).mono ?_
  rintro e w' ⟨v', s', code, he, hr, hx', hst⟩
  exact ⟨v', s', code, he, hr, hx'.zone (fun k _ h => .inl h), (Steps.ofBelow kA).trans hst⟩

theorem CabAt.steps {B : Nat} {Z : Nat → Prop} {w0 w w' : World} {g : Nat} {v v' : Value} {s : Cab} (x : CabAt B Z w g v s) (st : Steps g v v' w w') (hb : Below B w0 w) : Below B w0 w' :=
  st.below hb (Nat.le_trans x.hB (Nat.le_of_lt x.lt)) x.hB (fun k hk => (row_blk x.row k hk).1)

theorem theF_nil (x : Int) : theF [] x = ⟨0, 0, 0⟩ := rfl
theorem damage_none (xs : List Nat) : damage ⟨0, 0, 0⟩ xs = xs := rfl
/-- Send without a fault where there is room. -/
theorem sendR_plain {s s' : Cab} {xs : List Nat} {code : Int} (hk : (theF s.fs s.sent).kind ≠ 1) (hk3 : (theF s.fs s.sent).kind ≠ 3) (hup : s.up = true) (hl : s.fl.length < 64) (h : sendR s xs s' code) :
    code = 0 ∧ ∃ f : Fl, f.xs = damage (theF s.fs s.sent) xs ∧ f.t = s.time + s.d ∧ s' = ⟨s.d, s.fa, s.fc, s.fs, s.up, s.time, s.sent + 1, s.fl ++ [f], s.lost⟩ := by
  unfold sendR at h
  rw [if_neg (fun h => h.elim (fun h => by rw [hup] at h; cases h) hk), if_neg hk3, if_neg (by omega)] at h
  obtain ⟨news, h1, h2, h3, h4⟩ := h
  match news, h1 with
  | [f], _ => exact ⟨h4, f, (h2 f (List.mem_singleton.2 rfl)).1, (h2 f (List.mem_singleton.2 rfl)).2, h3⟩
theorem sendR_full {s s' : Cab} {xs : List Nat} {code : Int} (hk : (theF s.fs s.sent).kind ≠ 1) (hk3 : (theF s.fs s.sent).kind ≠ 3) (hup : s.up = true) (hl : 64 ≤ s.fl.length) (h : sendR s xs s' code) :
    code = 5 ∧ s' = ⟨s.d, s.fa, s.fc, s.fs, s.up, s.time, s.sent + 1, s.fl, s.lost + 1⟩ := by
  unfold sendR at h
  rw [if_neg (fun h => h.elim (fun h => by rw [hup] at h; cases h) hk), if_neg hk3, if_pos (by omega)] at h
  exact ⟨h.2, h.1⟩
theorem sendR_down {s s' : Cab} {xs : List Nat} {code : Int} (hup : s.up = false) (h : sendR s xs s' code) :
    code = 0 ∧ s' = ⟨s.d, s.fa, s.fc, s.fs, s.up, s.time, s.sent + 1, s.fl, s.lost + 1⟩ := by
  unfold sendR at h
  rw [if_pos (.inl hup)] at h
  exact ⟨h.2, h.1⟩
theorem sendR_drop {s s' : Cab} {xs : List Nat} {code : Int} (hk : (theF s.fs s.sent).kind = 1) (h : sendR s xs s' code) :
    code = 0 ∧ s' = ⟨s.d, s.fa, s.fc, s.fs, s.up, s.time, s.sent + 1, s.fl, s.lost + 1⟩ := by
  unfold sendR at h
  rw [if_pos (.inr hk)] at h
  exact ⟨h.2, h.1⟩

theorem sendN_ok {d : Nat} {fa : Option Addr} {fc time sent lost : Nat} {fl : List Fl} {s' : Cab} {xs : List Nat} {code : Int} (hl : fl.length < 64) (h : sendR ⟨d, fa, fc, [], true, time, sent, fl, lost⟩ xs s' code) :
    code = 0 ∧ ∃ f : Fl, f.xs = xs ∧ f.t = time + d ∧ s' = ⟨d, fa, fc, [], true, time, sent + 1, fl ++ [f], lost⟩ :=
  sendR_plain (s := ⟨d, fa, fc, [], true, time, sent, fl, lost⟩) (by show (0 : Int) ≠ 1; decide) (by show (0 : Int) ≠ 3; decide) rfl hl h
theorem sendN_full {d : Nat} {fa : Option Addr} {fc time sent lost : Nat} {fl : List Fl} {s' : Cab} {xs : List Nat} {code : Int} (hl : 64 ≤ fl.length) (h : sendR ⟨d, fa, fc, [], true, time, sent, fl, lost⟩ xs s' code) :
    code = 5 ∧ s' = ⟨d, fa, fc, [], true, time, sent + 1, fl, lost + 1⟩ :=
  sendR_full (s := ⟨d, fa, fc, [], true, time, sent, fl, lost⟩) (by show (0 : Int) ≠ 1; decide) (by show (0 : Int) ≠ 3; decide) rfl hl h
theorem sendN_down {d : Nat} {fa : Option Addr} {fc time sent lost : Nat} {fl : List Fl} {s' : Cab} {xs : List Nat} {code : Int} (h : sendR ⟨d, fa, fc, [], false, time, sent, fl, lost⟩ xs s' code) :
    code = 0 ∧ s' = ⟨d, fa, fc, [], false, time, sent + 1, fl, lost + 1⟩ := sendR_down (s := ⟨d, fa, fc, [], false, time, sent, fl, lost⟩) rfl h

/-- What a row of slices holds. -/
theorem rows_at {B n : Nat} {w : World} {a : Option Addr} {c : Nat} {l : List Fl} (h : w.ownsRow B 36 1 (.slice a n c) n (l.map slV)) (h0 : 0 < n) : ∃ b, a = some ⟨b, 0, none⟩ ∧ B ≤ b ∧ b < w.heap.size ∧ ∀ i (hi : i < l.length), w.cell? ⟨b, i, none⟩ = some (slV l[i]) := by
  rcases row_form h with ⟨_, h1, _⟩ | ⟨g, cap, hv, hB, hlt, _, _, hc⟩
  · omega
  · cases hv
    exact ⟨g, rfl, hB, hlt, fun i hi => hc i _ (by rw [List.getElem?_map, List.getElem?_eq_getElem hi]; rfl)⟩

set_option maxRecDepth 100000 in
set_option maxHeartbeats 8000000 in
theorem awake_any (w : World) :
    Calls Try.prog 11 #[] w fun e w' => e = .returned (.bool true) ∧ Below w.heap.size w w' := by
  have NW := box (new_ok 2 (by decide) (by decide) none 0 0 [] rfl (by decide) (fun _ => rfl) rfl w (.inl rfl))
  go_enter Try.func11, Try.ntmps11
  go_wp2_with fail
  refine NW.out.mono ?_
  rintro e w1 ⟨g, fa, fc, rfl, hb1, x1⟩
  have X1 := box x1
  have K1 := box hb1
  have HZ := box (show ∀ k, k < w.heap.size → k < w1.heap.size from fun k h => Nat.lt_of_lt_of_le h hb1.size)
  clear NW x1 hb1
  go_wp2_with fail
  refine (send_lit w.heap.size (fun k => k < w.heap.size) g _ _ w1 HZ.out X1.out 1 [7] rfl (by decide) (by decide) (by simp) (by simp) (by simp) (by simp)).mono ?_
  rintro e w2 ⟨v2, s2, code, rfl, hr, x2, st2⟩
  obtain ⟨rfl, f, e1, e2, rfl⟩ := sendN_ok (by decide) hr
  have X2 := box x2
  have S2 := box st2
  have E1 := box e1
  have D0 := box (show due [f] 1 = 0 from due_stop [f] 1 0 (by simp) (fun i hi => by omega) (by show 1 < f.t; omega))
  have D1 := box (show due [f] 2 = 1 from due_all [f] 2 (fun i hi => by simp at hi; subst hi; show f.t ≤ 2; omega))
  clear hr x2 st2 e1 e2
  go_wp2_with fail
  refine (tick_any w.heap.size (fun k => k < w.heap.size) g v2 _ w2 X2.out (by simp)).mono ?_
  rintro e w3 ⟨v3, a3, c3, he, _, x3, st3, _, _⟩
  have he : e = .returned (.slice a3 (due [f] 1) c3) := he
  have x3 : CabAt w.heap.size (fun k => k < w.heap.size) w3 g v3 ⟨2, fa, fc, [], true, 1, 1, [f].drop (due [f] 1), 0⟩ := x3
  rw [D0.out] at he x3
  subst he
  have X3 := box x3
  have S3 := box st3
  clear x3 st3
  go_wp2_with fail
  refine (tick_any w.heap.size (fun k => k < w.heap.size) g v3 _ w3 X3.out (by simp)).mono ?_
  rintro e w4 ⟨v4, a4, c4, he, hrow, x4, st4, _, hsym⟩
  have he : e = .returned (.slice a4 (due [f] 2) c4) := he
  have hrow : w4.ownsRow w3.heap.size 36 1 (.slice a4 (due [f] 2) c4) (due [f] 2) (([f].take (due [f] 2)).map slV) := hrow
  have x4 : CabAt w.heap.size (fun k => k < w.heap.size) w4 g v4 ⟨2, fa, fc, [], true, 2, 1, [f].drop (due [f] 2), 0⟩ := x4
  have hsym : SymIn _ w4 f.a f.c f.xs := hsym f (List.mem_singleton.2 rfl)
  rw [D1.out] at he hrow x4
  subst he
  obtain ⟨b, rfl, _, hlt, hc⟩ := rows_at hrow (by decide)
  have y0 : w4.cell? ⟨b, 0, none⟩ = some (.slice f.a f.xs.length f.c) := hc 0 (by simp)
  have cv := conv_any (c := f.c) (n := 1) (by rw [E1.out]; rfl) hsym.inn
  rw [E1.out] at y0 cv
  have X4 := box x4
  have S4 := box st4
  have ST : ((strOf [7]).toList == [7]) = true := by rw [ByteArray.toList_eq]; decide
  have FLY := box (flying_any _ _ _ _ _ _ x4)
  have UP := box (up_any _ _ _ _ _ _ x4)
  clear x4 st4 hsym hc hrow
  go_wp2_with fail
  refine FLY.out.mono ?_
  rintro e w5 ⟨rfl, rfl⟩
  go_wp2_with fail
  refine UP.out.mono ?_
  rintro e w5 ⟨rfl, rfl⟩
  go_wp2_with fail
  go_ret
  exact ⟨by simp, X3.out.steps S4.out (X2.out.steps S3.out (X1.out.steps S2.out K1.out))⟩

set_option maxRecDepth 100000 in
set_option maxHeartbeats 4000000 in
theorem nil_any (a : Option Addr) (n c : Nat) (w : World) :
    Calls Try.prog 10 #[.slice a n c] w fun e w' => e = .returned (.bool true) ∧ Below w.heap.size w w' := by
  go_enter Try.func10, Try.ntmps10
  go_wp2_with fail
  refine (awake_any w).mono ?_
  rintro e w1 ⟨rfl, hb⟩
  go_wp2_with fail
  refine (cut_nil w1).mono ?_
  rintro e w2 ⟨rfl, rfl⟩
  go_wp2_with fail
  refine (mend_nil w1).mono ?_
  rintro e w2 ⟨rfl, rfl⟩
  go_wp2_with fail
  refine (send_nil a n c w1).mono ?_
  rintro e w2 ⟨rfl, rfl⟩
  go_wp2_with fail
  refine (tick_nil w1).mono ?_
  rintro e w2 ⟨rfl, rfl⟩
  go_wp2_with fail
  refine (up_nil w1).mono ?_
  rintro e w2 ⟨rfl, rfl⟩
  go_wp2_with fail
  refine (flying_nil w1).mono ?_
  rintro e w2 ⟨rfl, rfl⟩
  go_wp2_with fail
  refine (lost_nil w1).mono ?_
  rintro e w2 ⟨rfl, rfl⟩
  go_wp2_with fail
  go_ret
  exact ⟨rfl, hb⟩
end Go.Proofs.Ytoeedbimhihbhaa
