/- Send. -/
import Derived.Test.YtoeedbimhihbhaaCabJ
import Derived.Deep.Cut
namespace Go.Proofs.Ytoeedbimhihbhaa
open Go.RowKit

theorem CabAt.fresh {B : Nat} {Z : Nat → Prop} {w : World} {g : Nat} {v : Value} {s : Cab} (x : CabAt B Z w g v s) {Z' : Nat → Prop} (hZ : ∀ k, Z' k → Z k ∨ w.heap.size ≤ k) : CabAt B Z' w g v s :=
  x.zone (fun k hk h => (hZ k h).resolve_right (by omega))

theorem theF_arg {fs : List Ft} (h : ∀ f ∈ fs, 0 ≤ f.arg) (x : Int) : 0 ≤ (theF fs x).arg := by
  unfold theF
  cases he : fs.find? (fun f => f.at_ == x) with
  | none => exact Int.le_refl _
  | some f => exact h f (List.mem_of_find?_eq_some he)

/-- What Send makes of a cable, and its answer. -/
def sendR (s : Cab) (xs : List Nat) (s' : Cab) (code : Int) : Prop :=
  if s.up = false ∨ (theF s.fs s.sent).kind = 1 then s' = ⟨s.d, s.fa, s.fc, s.fs, s.up, s.time, s.sent + 1, s.fl, s.lost + 1⟩ ∧ code = 0
  else if 64 < s.fl.length + (if (theF s.fs s.sent).kind = 3 then 2 else 1) then s' = ⟨s.d, s.fa, s.fc, s.fs, s.up, s.time, s.sent + 1, s.fl, s.lost + 1⟩ ∧ code = 5
  else ∃ news : List Fl, news.length = (if (theF s.fs s.sent).kind = 3 then 2 else 1) ∧ (∀ h ∈ news, h.xs = damage (theF s.fs s.sent) xs ∧ h.t = s.time + s.d) ∧ s' = ⟨s.d, s.fa, s.fc, s.fs, s.up, s.time, s.sent + 1, s.fl ++ news, s.lost⟩ ∧ code = 0

theorem send_nil (a : Option Addr) (n c : Nat) (w : World) :
    Calls Try.prog 19 #[.pointer none, .slice a n c] w fun e w' => e = .returned (.int .i64 1) ∧ w = w' := by
  go_enter Try.func19, Try.ntmps19
  go_wp2_with fail
  go_ret
  exact ⟨rfl, rfl⟩

set_option maxRecDepth 100000 in
set_option maxHeartbeats 8000000 in
theorem send_any (B : Nat) (Z : Nat → Prop) (g : Nat) (v : Value) (s : Cab) (w : World) (hZ : ∀ k, Z k → k < w.heap.size) (x : CabAt B Z w g v s) (a : Option Addr) (n c : Nat) (xs : List Nat) (hn : xs.length = n) (hx : ∀ x ∈ xs, x < 256) (hbig : n ≤ 1000) (hin : In w a xs) (hnil : a = none → c = 0) (hz : xs ≠ [] → ∀ q, a = some q → Z q.block) (ht : s.time < 1000000) (hd : s.d ≤ 100) (hs : s.sent < 1000000) (hl : s.lost < 1000000) :
    Calls Try.prog 19 #[.pointer (some ⟨g, 0, none⟩), .slice a n c] w fun e w' => ∃ v' s' code, e = .returned (.int .i64 code) ∧ sendR s xs s' code ∧ CabAt B Z w' g v' s' ∧ Steps g v v' w w' := by
  obtain ⟨va, vc, rfl⟩ : ∃ a c, v = .slice a s.fl.length c := by
    rcases row_form x.row with ⟨h, h0, _⟩ | ⟨g', c, h, _⟩
    · exact ⟨none, 0, by rw [h, h0]⟩
    · exact ⟨_, c, h⟩
  have NF := box (nextFault_any B Z g _ s w x)
  have HIN := box hin
  have HX := box hx
  have HZ := box hZ
  have HZA := box hz
  have HNIL := box hnil
  have X := box x
  obtain ⟨f, hf⟩ : ∃ f, theF s.fs s.sent = f := ⟨_, rfl⟩
  have HARG := box (show 0 ≤ f.arg by rw [← hf]; exact theF_arg x.args _)
  have HF := box hf
  rw [hf] at NF
  have HR := box (show ∀ s' code, (if s.up = false ∨ f.kind = 1 then s' = ⟨s.d, s.fa, s.fc, s.fs, s.up, s.time, s.sent + 1, s.fl, s.lost + 1⟩ ∧ code = 0
    else if 64 < s.fl.length + (if f.kind = 3 then 2 else 1) then s' = ⟨s.d, s.fa, s.fc, s.fs, s.up, s.time, s.sent + 1, s.fl, s.lost + 1⟩ ∧ code = 5
    else ∃ news : List Fl, news.length = (if f.kind = 3 then 2 else 1) ∧ (∀ h ∈ news, h.xs = damage f xs ∧ h.t = s.time + s.d) ∧ s' = ⟨s.d, s.fa, s.fc, s.fs, s.up, s.time, s.sent + 1, s.fl ++ news, s.lost⟩ ∧ code = 0) → sendR s xs s' code from fun s' code h => by unfold sendR; rw [hf]; exact h)
  generalize sendR s xs = R at HR ⊢
  clear x hin hx hZ hz hnil hf
  go_enter Try.func19, Try.ntmps19
  go_wp2_with fail
  refine NF.out.mono ?_
  rintro e w1 ⟨rfl, hb1⟩
  obtain ⟨m, hm⟩ : ∃ m, w1.heap.size = m := ⟨_, rfl⟩
  have FC := ft_cells w1 f m hm.symm
  have kA := (Below.refl w1.heap.size w1).alloc (Nat.le_refl _) (.cells #[.int .i64 f.at_, .int .i64 f.kind, .int .i64 f.arg] 53)
  have KB := box (hb1.trans (kA.mono hb1.size))
  have ks := size_alloc' w1 (.cells #[.int .i64 f.at_, .int .i64 f.kind, .int .i64 f.arg] 53)
  have X2 := box (((X.out.keep hb1).fresh (Z' := fun k => Z k ∨ k = m) (fun k h => h.imp id (fun h => by omega))).keep kA)
  have HM1 := box (show w.heap.size ≤ m by rw [← hm]; exact hb1.size)
  obtain ⟨c0, c1, c2, c3, c4, c5, c6, fr, _, _, _, _, _, _, _, _, _, _, _, _⟩ := X2.out
  have X3 := box (X2.out.mod (w' := (w1.alloc (.cells #[.int .i64 f.at_, .int .i64 f.kind, .int .i64 f.arg] 53)).setCell ⟨g, 4, none⟩ (.int .i64 ((s.sent : Int) + 1))) (fun k hk => heap_else (fun e => hk e.symm) _) (sent := s.sent + 1) (cell_else (by decide) c0 _) (cell_else (by decide) c1 _) (cell_else (by decide) c2 _) (cell_else (by decide) c3 _) (by rw [show ((s.sent + 1 : Nat) : Int) = (s.sent : Int) + 1 by push_cast; rfl]; exact cell_put c4 _) (cell_else (by decide) c5 _) (cell_else (by decide) c6 _) (fr_put fr _ _))
  obtain ⟨f0, f1, f2, ff⟩ := FC
  have hgm : g ≠ m := fun e => X2.out.gz (.inr e)
  have q : ∀ j u, (w1.alloc (.cells #[.int .i64 f.at_, .int .i64 f.kind, .int .i64 f.arg] 53)).cell? ⟨m, j, none⟩ = some u → ((w1.alloc (.cells #[.int .i64 f.at_, .int .i64 f.kind, .int .i64 f.arg] 53)).setCell ⟨g, 4, none⟩ (.int .i64 ((s.sent : Int) + 1))).cell? ⟨m, j, none⟩ = some u := fun j u h => (World.cell?_setCell_far _ ⟨g, 4, none⟩ ⟨m, j, none⟩ _ (fun e => hgm e)).trans h
  have y0 := q 0 _ f0
  have y1 := q 1 _ f1
  have y2 := q 2 _ f2
  have S3 := box (show Steps g (.slice va s.fl.length vc) (.slice va s.fl.length vc) w ((w1.alloc (.cells #[.int .i64 f.at_, .int .i64 f.kind, .int .i64 f.arg] 53)).setCell ⟨g, 4, none⟩ (.int .i64 ((s.sent : Int) + 1))) from ⟨(Apart.ofBelow KB.out).setCell 4 _, fun _ h => .inl h⟩)
  clear q f0 f1 f2
  go_upto_region 5 with fail
  generalize (w1.alloc (.cells #[.int .i64 f.at_, .int .i64 f.kind, .int .i64 f.arg] 53)).setCell ⟨g, 4, none⟩ (.int .i64 ((s.sent : Int) + 1)) = w3 at X3 y0 y1 y2 S3 ⊢
  clear c0 c1 c2 c3 c4 c5 c6 fr X2 KB kA ks NF hb1 hm ff
  obtain ⟨c0, c1, c2, c3, c4, c5, c6, fr, _, _, _, _, _, _, _, _, _, _, _, _⟩ := X3.out
  simp only at c0 c1 c2 c3 c4 c5 c6
  have fin : ∀ (code : Int), (s.up = false ∨ f.kind = 1 → code = 0) → (¬ (s.up = false ∨ f.kind = 1) → 64 < s.fl.length + (if f.kind = 3 then 2 else 1) ∧ code = 5) → ∃ v' s', R s' code ∧ CabAt B Z (w3.setCell ⟨g, 6, none⟩ (.int .i64 ((s.lost : Int) + 1))) g v' s' ∧ Steps g (.slice va s.fl.length vc) v' w (w3.setCell ⟨g, 6, none⟩ (.int .i64 ((s.lost : Int) + 1))) := fun code h1 h2 => by
    have X4 := X3.out.mod (w' := w3.setCell ⟨g, 6, none⟩ (.int .i64 ((s.lost : Int) + 1))) (fun k hk => heap_else (fun e => hk e.symm) _) (up := s.up) (time := s.time) (sent := s.sent + 1) (lost := s.lost + 1) (cell_else (by decide) c0 _) (cell_else (by decide) c1 _) (cell_else (by decide) c2 _) (cell_else (by decide) c3 _) (cell_else (by decide) c4 _) (cell_else (by decide) c5 _) (by rw [show ((s.lost + 1 : Nat) : Int) = (s.lost : Int) + 1 by push_cast; rfl]; exact cell_put c6 _) (fr_put fr _ _)
    refine ⟨.slice va s.fl.length vc, _, HR.out ⟨s.d, s.fa, s.fc, s.fs, s.up, s.time, s.sent + 1, s.fl, s.lost + 1⟩ code ?_, X4.zone (fun k _ h => .inl h), ⟨S3.out.apart.setCell 6 _, S3.out.far⟩⟩
    by_cases h : s.up = false ∨ f.kind = 1
    · rw [if_pos h]; exact ⟨rfl, h1 h⟩
    · rw [if_neg h, if_pos (h2 h).1]; exact ⟨rfl, (h2 h).2⟩
  have FIN := box fin
  clear fin
  cases hup : s.up
  · rw [hup] at c2
    have HU := box hup
    clear hup
    go_wp2_with fail
    go_ret
    obtain ⟨v', s', h1, h2, h3⟩ := FIN.out 0 (fun _ => rfl) (fun h => absurd (.inl HU.out) h)
    exact ⟨v', s', 0, rfl, h1, h2, h3⟩
  rw [hup] at c2
  have HU := box hup
  clear hup
  by_cases hk1 : f.kind = 1
  · have d1 : (f.kind == 1) = true := by simp [hk1]
    have HK1 := box hk1
    clear hk1
    go_wp2_with fail
    go_ret
    obtain ⟨v', s', h1, h2, h3⟩ := FIN.out 0 (fun _ => rfl) (fun h => absurd (.inr HK1.out) h)
    exact ⟨v', s', 0, rfl, h1, h2, h3⟩
  have d1 : (f.kind == 1) = false := by simp [hk1]
  have HN := box (show ¬ (s.up = false ∨ f.kind = 1) from fun h => h.elim (fun h => by rw [HU.out] at h; cases h) hk1)
  clear hk1
  by_cases hk3 : f.kind = 3
  · have d3 : (f.kind == 3) = true := by simp [hk3]
    have HCP := box (show (if f.kind = 3 then 2 else 1) = 2 from if_pos hk3)
    clear hk3
    by_cases hfull : 64 < s.fl.length + 2
    · have d4 : decide ((64 : Int) < (s.fl.length : Int) + 2) = true := decide_eq_true (by omega)
      go_wp2_with fail
      go_ret
      obtain ⟨v', s', h1, h2, h3⟩ := FIN.out 5 (fun h => absurd h HN.out) (fun _ => ⟨by rw [HCP.out]; exact hfull, rfl⟩)
      exact ⟨v', s', 5, rfl, h1, h2, h3⟩
    · have d4 : decide ((64 : Int) < (s.fl.length : Int) + 2) = false := decide_eq_false (by omega)
      clear FIN
      go_wp2_with fail
      clear c0 c1 c2 c3 c4 c5 c6 fr
      go_loopw [54] (fun t54 wr => ∃ (j : Nat) (v' : Value) (news : List Fl), j ≤ 2 ∧ t54 = .int .i64 j ∧ Box (news.length = j) ∧ Box (∀ h ∈ news, h.xs = damage f xs ∧ h.t = s.time + s.d) ∧ Box (CabAt B (fun k => Z k ∨ k = m) wr g v' ⟨s.d, s.fa, s.fc, s.fs, s.up, s.time, s.sent + 1, s.fl ++ news, s.lost⟩) ∧ Box (Steps g (.slice va s.fl.length vc) v' w wr) ∧ m < wr.heap.size ∧ wr.cell? ⟨m, 0, none⟩ = some (.int .i64 f.at_) ∧ wr.cell? ⟨m, 1, none⟩ = some (.int .i64 f.kind) ∧ wr.cell? ⟨m, 2, none⟩ = some (.int .i64 f.arg)) (fun t54 _ => 2 - (intOf t54).toNat)
      case atStart => exact ⟨0, .slice va s.fl.length vc, [], by omega, rfl, box rfl, box (fun h hh => by cases hh), box (by rw [List.append_nil]; exact X3.out), S3, World.block_lt_of_cell? w3 ⟨m, 0, none⟩ y0, y0, y1, y2⟩
      case round =>
        clear y0 y1 y2
        obtain ⟨j, v', news, hj, rfl, hnl, hnf, hX, hS, hm, y0, y1, y2⟩ := hrel
        by_cases hlt : j < 2
        · have HL := box (launch_any B (fun k => Z k ∨ k = m) g v' _ wr (fun k hk => hk.elim (fun h => Nat.lt_of_lt_of_le (HZ.out k h) hS.out.apart.size) (fun h => by omega)) hX.out a n c xs hn HX.out hbig (in_same HIN.out (fun hx q hq => hS.out.apart.block _ (HZ.out _ (HZA.out hx q hq)) (fun e => X.out.gz (by rw [← e]; exact HZA.out hx q hq)) (fun e => X.out.vz _ e.symm (HZA.out hx q hq)))) HNIL.out f HARG.out (by have := hnl.out; simp only [List.length_append]; omega) ht hd)
          go_wp2_with fail
          refine HL.out.mono ?_
          rintro e w4 ⟨rfl, v4, fl, e1, e2, x4, st⟩
          have X4 := box x4
          have S4 := box st
          have HMM := box (show w4.heap[m]? = wr.heap[m]? from st.apart.block m hm (fun e => hX.out.gz (.inr e.symm)) (fun e => hX.out.vz m e.symm (.inr rfl)))
          clear x4 st
          go_wp2_with fail
          go_roundw
          case rel =>
            refine ⟨j + 1, v4, news ++ [fl], by omega, by go_num, box (by rw [List.length_append, hnl.out]; rfl), box (fun h hh => ?_), box (by have h := X4.out; simp only [List.append_assoc] at h; exact h), box (hS.out.trans S4.out), Nat.lt_of_lt_of_le hm S4.out.apart.size, (World.cell?_of_block (a := ⟨m, 0, none⟩) HMM.out).trans y0, (World.cell?_of_block (a := ⟨m, 1, none⟩) HMM.out).trans y1, (World.cell?_of_block (a := ⟨m, 2, none⟩) HMM.out).trans y2⟩
            rcases List.mem_append.1 hh with hh | hh
            · exact hnf.out h hh
            · obtain rfl := List.mem_singleton.1 hh
              exact ⟨e1, e2⟩
          case measure => simp [intOf]; omega
        · obtain rfl : j = 2 := by omega
          go_wp2_with fail
          go_ret
          refine ⟨v', _, 0, rfl, HR.out ⟨s.d, s.fa, s.fc, s.fs, s.up, s.time, s.sent + 1, s.fl ++ news, s.lost⟩ 0 ?_, hX.out.zone (fun k _ h => .inl h), hS.out⟩
          rw [if_neg HN.out, HCP.out, if_neg hfull]
          exact ⟨news, hnl.out, hnf.out, rfl, rfl⟩
  · have d3 : (f.kind == 3) = false := by simp [hk3]
    have HCP := box (show (if f.kind = 3 then 2 else 1) = 1 from if_neg hk3)
    clear hk3
    by_cases hfull : 64 < s.fl.length + 1
    · have d4 : decide ((64 : Int) < (s.fl.length : Int) + 1) = true := decide_eq_true (by omega)
      go_wp2_with fail
      go_ret
      obtain ⟨v', s', h1, h2, h3⟩ := FIN.out 5 (fun h => absurd h HN.out) (fun _ => ⟨by rw [HCP.out]; exact hfull, rfl⟩)
      exact ⟨v', s', 5, rfl, h1, h2, h3⟩
    · have d4 : decide ((64 : Int) < (s.fl.length : Int) + 1) = false := decide_eq_false (by omega)
      clear FIN
      go_wp2_with fail
      clear c0 c1 c2 c3 c4 c5 c6 fr
      go_loopw [54] (fun t54 wr => ∃ (j : Nat) (v' : Value) (news : List Fl), j ≤ 1 ∧ t54 = .int .i64 j ∧ Box (news.length = j) ∧ Box (∀ h ∈ news, h.xs = damage f xs ∧ h.t = s.time + s.d) ∧ Box (CabAt B (fun k => Z k ∨ k = m) wr g v' ⟨s.d, s.fa, s.fc, s.fs, s.up, s.time, s.sent + 1, s.fl ++ news, s.lost⟩) ∧ Box (Steps g (.slice va s.fl.length vc) v' w wr) ∧ m < wr.heap.size ∧ wr.cell? ⟨m, 0, none⟩ = some (.int .i64 f.at_) ∧ wr.cell? ⟨m, 1, none⟩ = some (.int .i64 f.kind) ∧ wr.cell? ⟨m, 2, none⟩ = some (.int .i64 f.arg)) (fun t54 _ => 1 - (intOf t54).toNat)
      case atStart => exact ⟨0, .slice va s.fl.length vc, [], by omega, rfl, box rfl, box (fun h hh => by cases hh), box (by rw [List.append_nil]; exact X3.out), S3, World.block_lt_of_cell? w3 ⟨m, 0, none⟩ y0, y0, y1, y2⟩
      case round =>
        clear y0 y1 y2
        obtain ⟨j, v', news, hj, rfl, hnl, hnf, hX, hS, hm, y0, y1, y2⟩ := hrel
        by_cases hlt : j < 1
        · have HL := box (launch_any B (fun k => Z k ∨ k = m) g v' _ wr (fun k hk => hk.elim (fun h => Nat.lt_of_lt_of_le (HZ.out k h) hS.out.apart.size) (fun h => by omega)) hX.out a n c xs hn HX.out hbig (in_same HIN.out (fun hx q hq => hS.out.apart.block _ (HZ.out _ (HZA.out hx q hq)) (fun e => X.out.gz (by rw [← e]; exact HZA.out hx q hq)) (fun e => X.out.vz _ e.symm (HZA.out hx q hq)))) HNIL.out f HARG.out (by have := hnl.out; simp only [List.length_append]; omega) ht hd)
          go_wp2_with fail
          refine HL.out.mono ?_
          rintro e w4 ⟨rfl, v4, fl, e1, e2, x4, st⟩
          have X4 := box x4
          have S4 := box st
          have HMM := box (show w4.heap[m]? = wr.heap[m]? from st.apart.block m hm (fun e => hX.out.gz (.inr e.symm)) (fun e => hX.out.vz m e.symm (.inr rfl)))
          clear x4 st
          go_wp2_with fail
          go_roundw
          case rel =>
            refine ⟨j + 1, v4, news ++ [fl], by omega, by go_num, box (by rw [List.length_append, hnl.out]; rfl), box (fun h hh => ?_), box (by have h := X4.out; simp only [List.append_assoc] at h; exact h), box (hS.out.trans S4.out), Nat.lt_of_lt_of_le hm S4.out.apart.size, (World.cell?_of_block (a := ⟨m, 0, none⟩) HMM.out).trans y0, (World.cell?_of_block (a := ⟨m, 1, none⟩) HMM.out).trans y1, (World.cell?_of_block (a := ⟨m, 2, none⟩) HMM.out).trans y2⟩
            rcases List.mem_append.1 hh with hh | hh
            · exact hnf.out h hh
            · obtain rfl := List.mem_singleton.1 hh
              exact ⟨e1, e2⟩
          case measure => simp [intOf]; omega
        · obtain rfl : j = 1 := by omega
          go_wp2_with fail
          go_ret
          refine ⟨v', _, 0, rfl, HR.out ⟨s.d, s.fa, s.fc, s.fs, s.up, s.time, s.sent + 1, s.fl ++ news, s.lost⟩ 0 ?_, hX.out.zone (fun k _ h => .inl h), hS.out⟩
          rw [if_neg HN.out, HCP.out, if_neg hfull]
          exact ⟨news, hnl.out, hnf.out, rfl, rfl⟩
end Go.Proofs.Ytoeedbimhihbhaa
