/- The reference's Push: its contract at a data symbol. -/
import Derived.Test.YthfoakomapmkeaaDoorMrP
namespace Go.Proofs.YthfoakomapmkeaaDoor
open Go.RowKit

/-- wpList_append_in, and what the append left alone. -/
theorem wpList_append_g {w : World} {ops : Array Oper} {rest : List Oper} {o : Oper} {a : Act} {Q : Exit → Act → World → Prop} (hgd : o.guard = none) (s x : Operand)
    (ho : o.op = .call { callee := .builtin .append, args := #[s, x], argTypes := #[22, 22] })
    (base : Nat) (i : TypeInfo) (hi : Tryd.prog.info? 5 = some i) (hz : i.zero = some (.int .u8 0)) (hsize : i.size = 1) (hby : i.bytes = 1)
    (v : Value) (n : Nat) (xs : List Value) (hs : a.eval s = v) (hown : w.ownsRow base 5 1 v n xs)
    (p : Option Addr) (m c : Nat) (news : List Nat) (hx : a.eval x = .slice p m c) (hl : news.length = m) (hin : In w p news) (hnil : p = none → c = 0)
    (h63 : n + m ≤ 10000) (B : Nat) (w0 : World) (hB : B ≤ base) (hb : Below B w0 w) (hbase : base ≤ w.heap.size)
    (h : ∀ v' w', Box (w'.ownsRow base 5 1 v' (n + m) (xs ++ news.map nU8)) → Below B w0 w' → base ≤ w'.heap.size → w.grownBy w' v.ownBlock → wpList Tryd.prog ops Q rest (a.put o.dst v') w') : wpList Tryd.prog ops Q (o :: rest) a w := by
  rcases p with _ | ad
  · obtain rfl := hnil rfl
    obtain rfl : news = [] := by
      rcases hin with h | ⟨b, h, _⟩
      · exact h
      · cases h
    obtain rfl : m = 0 := by simpa using hl.symm
    refine wpList_append_own_none hgd s x 22 ho base 5 i 1 Tryd.underlying22 hi v n xs hs hown hx ?_
    exact h v w (box (by simpa using hown)) hb hbase ⟨rfl, rfl, rfl, Nat.le_refl _, fun _ _ _ => rfl⟩
  · have hcell : ∀ j u, (news.map nU8)[j]? = some u → w.cell? (ad.add j) = some u := by
      intro j u hj
      rcases hin with rfl | ⟨b, hb', hat⟩
      · simp at hj
      · cases hb'
        simp at hj
        obtain ⟨y, hy, rfl⟩ := hj
        have hjl : j < news.length := (List.getElem?_eq_some_iff.1 hy).1
        rw [hat j hjl]
        simp [List.getD_eq_getElem?_getD, hy]
    refine wpList_append_own w hgd s x 22 ho base 5 i (.int .u8 0) 1 1 Tryd.underlying22 hi hz hsize hby rfl (by decide) v n xs hs hown ad m c (news.map nU8) hx (by simp [hl]) hcell (nU8_one _) (by unfold maxLen; omega) (by omega) hbase ?_
    intro v' w' h1 h2 _
    exact h v' w' (box h1) (own_below hown hB hb (Nat.le_trans hB hbase) h2) (Nat.le_trans hbase h2.size) h2

theorem in_far {w : World} {p : Option Addr} {xs : List Nat} (h : In w p xs) (b : Addr) (u : Value) (hp : ∀ g, p = some g → b.block ≠ g.block) : In (w.setCell b u) p xs := by
  rcases h with h | ⟨g, rfl, h⟩
  · exact .inl h
  · exact .inr ⟨g, rfl, fun i hi => (World.cell?_setCell_far w b (g.add i) u (by have := hp g rfl; unfold Addr.add; split <;> exact this)).trans (h i hi)⟩
theorem put8_in {w : World} {p : Option Addr} {xs : List Nat} (h : In w p xs) (r q : Nat) (x0 x1 x2 y0 y1 y2 y3 y4 : Value) (hr : ∀ g, p = some g → r ≠ g.block) (hq : ∀ g, p = some g → q ≠ g.block) : In (put8 w r q x0 x1 x2 y0 y1 y2 y3 y4) p xs :=
  in_far (in_far (in_far (in_far (in_far (in_far (in_far (in_far h _ _ hr) _ _ hr) _ _ hr) _ _ hq) _ _ hq) _ _ hq) _ _ hq) _ _ hq

set_option maxRecDepth 100000 in
set_option maxHeartbeats 8000000 in
/-- Inside, a data symbol that has room. -/
theorem rpush_data (a : Option Addr) (l cap bad s : Nat) (xs : List Nat) (hl : xs.length = l) (hs : s < 256) (hi : idx s < 16) (h49 : s ≠ 49) (hroom : l < 162) (w : World) (hin : In w a xs) (hnil : a = none → cap = 0) :
    Calls Tryd.prog 27 #[scV true a l cap bad, nU8 s] w fun e w' => ∃ v c, e = .returned (.tuple #[scV true v (l + 1) c bad, pk0, .bool false]) ∧ In w' v (xs ++ [s]) ∧ (v = none → c = 0) ∧ (∀ g, v = some g → w.heap.size + 3 ≤ g.block) ∧ Below w.heap.size w w' := by
  have d1 : ((s : Int) == 49) = false := by simp; omega
  obtain ⟨k, hk⟩ : ∃ k, idx s = k := ⟨_, rfl⟩
  have hI := index_any s hs
  unfold idxI at hI
  rw [if_pos (by omega), hk] at hI
  rw [hk] at hi
  have HI := fun w => box (hI w)
  have HIN := box hin
  have HNIL := box hnil
  clear hI hk hin hnil
  have d2 : decide ((k : Int) ≥ 0) = true := by simp
  have d2' : decide ((0 : Int) ≤ (k : Int)) = true := by simp
  have d3 : decide ((k : Int) ≤ 15) = true := by simp; omega
  have d4 : decide ((l : Int) < 162) = true := by simp; omega
  obtain ⟨i0, hi0, hz0, hz1, hz2⟩ := info_parts Tryd.infoU8
  go_enter Tryd.func27, Tryd.ntmps27
  go_wp2_with fail
  have PA := pat_start w true a l cap bad
  refine (HI _).out.mono ?_
  rintro e w2 ⟨rfl, hb2⟩
  have PB := box (PA.keep hb2)
  obtain ⟨s0, s1, s2, r0, r1, r2, q0, q1, q2, q3, q4, kb, zs, zr, zq, kz⟩ := PB.out
  clear PA hb2
  have zA : (w2.alloc (.cells #[] 5)).heap.size = w2.heap.size + 1 := by show (w2.heap.push _).size = _; rw [Array.size_push]
  have kA : Below w2.heap.size w2 (w2.alloc (.cells #[] 5)) := (Below.refl _ _).alloc (Nat.le_refl _) _
  have kAB : Below w2.heap.size w2 ((w2.alloc (.cells #[] 5)).alloc (.cells #[nU8 s] 5)) := kA.alloc kA.size _
  have zB : (w2.alloc (.cells #[nU8 s] 5)).heap.size = w2.heap.size + 1 := by show (w2.heap.push _).size = _; rw [Array.size_push]
  have kB : Below w2.heap.size w2 (w2.alloc (.cells #[nU8 s] 5)) := (Below.refl _ _).alloc (Nat.le_refl _) _
  have kBA : Below w2.heap.size w2 ((w2.alloc (.cells #[nU8 s] 5)).alloc (.cells #[] 5)) := kB.alloc kB.size _
  have OA := box (own_lit w2 w2.heap.size 0 [] rfl (Nat.le_refl _) (by omega) w2.heap.size rfl)
  have OAB := box (own_later OA.out (Below.alloc (Below.refl _ _) (Nat.le_refl _) (.cells #[nU8 s] 5)))
  have OBA := box (own_lit (w2.alloc (.cells #[nU8 s] 5)) w2.heap.size 0 [] rfl kB.size (by omega) (w2.heap.size + 1) zB.symm)
  have cA := World.cell?_alloc_mark (w2.alloc (.cells #[] 5)) #[nU8 s] 5 (0, 0) 0
  rw [zA] at cA
  have cB := World.cell?_alloc_mark w2 #[nU8 s] 5 (0, 0) 0
  replace cB := keepc ((Below.refl _ _).alloc (Nat.le_refl _) (.cells #[] 5)) cB
  have CA := box cA
  have CB := box cB
  have KA := box kA
  have KAB := box kAB
  have KBA := box kBA
  have s1A := keepc kA s1
  have s1AB := keepc kAB s1
  have s1B := keepc kB s1
  have s1BA := keepc kBA s1
  have KIN := fun w3 (h : Below w2.heap.size w2 w3) => box (HIN.out.below (kb.trans (h.mono kb.size)))
  clear cA cB kA kB kAB kBA zA zB
  go_wp2_with (first
    | (at_builtin; refine wpList_append_g (o := ⟨some 47, _, _, _, _, _⟩) rfl (.tmp 44) (.tmp 46) rfl w2.heap.size i0 hi0 hz0 hz1 hz2 _ 0 ([].map nU8) rfl OA.out a l cap xs rfl hl (KIN _ KA.out).out HNIL.out (by omega) w2.heap.size w2 (Nat.le_refl _) KA.out KA.out.size ?_; intro v3 w3 ho3 hb3 hs3 hg3; have HO3 := box (show Own w2.heap.size w3 v3 l xs from by simpa [Own] using ho3.out); clear ho3 hg3)
    | (at_builtin; refine wpList_append_g (o := ⟨some 47, _, _, _, _, _⟩) rfl (.tmp 44) (.tmp 46) rfl w2.heap.size i0 hi0 hz0 hz1 hz2 _ 0 ([].map nU8) rfl OAB.out a l cap xs rfl hl (KIN _ KAB.out).out HNIL.out (by omega) w2.heap.size w2 (Nat.le_refl _) KAB.out KAB.out.size ?_; intro v3 w3 ho3 hb3 hs3 hg3; have HO3 := box (show Own w2.heap.size w3 v3 l xs from by simpa [Own] using ho3.out); have IN2 := box (show In w3 (some ⟨w2.heap.size + 1, 0, none⟩) [s] from .inr ⟨_, rfl, fun i hi => by obtain rfl : i = 0 := (by simpa using hi); exact hg3.cell CA.out (by simp [Value.ownBlock])⟩); clear ho3 hg3)
    | (at_builtin; refine wpList_append_g (o := ⟨some 47, _, _, _, _, _⟩) rfl (.tmp 44) (.tmp 46) rfl w2.heap.size i0 hi0 hz0 hz1 hz2 _ 0 ([].map nU8) rfl OBA.out a l cap xs rfl hl (KIN _ KBA.out).out HNIL.out (by omega) w2.heap.size w2 (Nat.le_refl _) KBA.out KBA.out.size ?_; intro v3 w3 ho3 hb3 hs3 hg3; have HO3 := box (show Own w2.heap.size w3 v3 l xs from by simpa [Own] using ho3.out); have IN2 := box (show In w3 (some ⟨w2.heap.size, 0, none⟩) [s] from .inr ⟨_, rfl, fun i hi => by obtain rfl : i = 0 := (by simpa using hi); exact hg3.cell CB.out (by simp [Value.ownBlock])⟩); clear ho3 hg3)
    | (at_builtin; refine wpList_append_new (o := ⟨some 50, _, _, _, _, _⟩) rfl (.tmp 47) (.tmp 49) rfl w2.heap.size v3 l xs rfl HO3.out [s] 1 rfl (0, 0) rfl (by omega) w2 hb3 hs3 ?_; intro v4 w4 ho4 hb4 hs4; have HO4 := ho4.out; clear ho4; obtain ⟨p4, c4, rfl, hin4, hn4, hc4, hp4⟩ := own_form2 (n := l + 1) (xs := xs ++ [s]) (by simp [hl]) HO4; have HI4 := box hin4; have HP4 := box hp4; have HN4 := box hn4; clear s0 s1 s2 r0 r1 r2 q0 q1 q2 q3 q4 kb zs zr zq s1A s1AB s1B s1BA hin4 hn4 hc4 hp4 HO4; obtain ⟨s0, s1, s2, r0, r1, r2, q0, q1, q2, q3, q4, kb, zs, zr, zq, _⟩ := PB.out.keep hb4)
    | (at_builtin; refine wpList_append_g (o := ⟨some 50, _, _, _, _, _⟩) rfl (.tmp 47) (.tmp 49) rfl w2.heap.size i0 hi0 hz0 hz1 hz2 v3 l (xs.map nU8) rfl HO3.out _ 1 1 [s] rfl rfl IN2.out (fun h => by cases h) (by omega) w2.heap.size w2 (Nat.le_refl _) hb3 hs3 ?_; intro v4 w4 ho4 hb4 hs4 _; have HO4 : Own w2.heap.size w4 v4 (l + 1) (xs ++ [s]) := (by have h := ho4.out; rw [← List.map_append] at h; exact h); clear ho4; obtain ⟨p4, c4, rfl, hin4, hn4, hc4, hp4⟩ := own_form2 (n := l + 1) (xs := xs ++ [s]) (by simp [hl]) HO4; have HI4 := box hin4; have HP4 := box hp4; have HN4 := box hn4; clear s0 s1 s2 r0 r1 r2 q0 q1 q2 q3 q4 kb zs zr zq s1A s1AB s1B s1BA hin4 hn4 hc4 hp4 HO4; obtain ⟨s0, s1, s2, r0, r1, r2, q0, q1, q2, q3, q4, kb, zs, zr, zq, _⟩ := PB.out.keep hb4)
    | fail)
  all_goals
    have o := fun (g j : Nat) (h : w.heap.size < g) => World.cell?_setCell_far w4 ⟨w.heap.size, 1, none⟩ ⟨g, j, none⟩ (.slice p4 (l + 1) c4) (by show w.heap.size ≠ g; omega)
    rw [← o _ _ (by omega)] at r0 r1 r2 q0 q1 q2 q3 q4
    replace kb := kb.setCell (p := ⟨w.heap.size, 1, none⟩) (Nat.le_refl _) (.slice p4 (l + 1) c4)
    have hp := HP4.out
    have HI5 := box (put8_in (in_far HI4.out ⟨w.heap.size, 1, none⟩ (.slice p4 (l + 1) c4) (fun g h => by have := hp g h; show w.heap.size ≠ _; omega)) (w.heap.size + 1) (w.heap.size + 1 + 1) (.bool true) (.slice p4 (l + 1) c4) (.int .i64 bad) (nU8 0) (.int .i64 0) (.int .i64 0) (.int .i64 0) (.slice none 0 0) (fun g h => by have := hp g h; omega) (fun g h => by have := hp g h; omega))
    have E := put8_res (w := w) (w2 := w4.setCell ⟨w.heap.size, 1, none⟩ (.slice p4 (l + 1) c4)) (r := w.heap.size + 1) (q := w.heap.size + 1 + 1) (by omega) (by omega) (by omega) (.bool true) (.slice p4 (l + 1) c4) (.int .i64 bad) (nU8 0) (.int .i64 0) (.int .i64 0) (.int .i64 0) (.slice none 0 0) r0 r1 r2 q0 q1 q2 q3 q4 kb
    clear r0 r1 r2 q0 q1 q2 q3 q4 kb s0 s1 s2 zs zr zq o hp
    change bodyPost _ _ _ _ _ (put8 (w4.setCell ⟨w.heap.size, 1, none⟩ (.slice p4 (l + 1) c4)) (w.heap.size + 1) (w.heap.size + 1 + 1) (.bool true) (.slice p4 (l + 1) c4) (.int .i64 bad) (nU8 0) (.int .i64 0) (.int .i64 0) (.int .i64 0) (.slice none 0 0))
    generalize put8 (w4.setCell ⟨w.heap.size, 1, none⟩ (.slice p4 (l + 1) c4)) (w.heap.size + 1) (w.heap.size + 1 + 1) (.bool true) (.slice p4 (l + 1) c4) (.int .i64 bad) (nU8 0) (.int .i64 0) (.int .i64 0) (.int .i64 0) (.slice none 0 0) = w5 at E HI5 ⊢
    obtain ⟨r0, r1, r2, q0, q1, q2, q3, q4, kb⟩ := E
    refine bodyPost_ret (v := .tuple #[scV true p4 (l + 1) c4 bad, pk0, .bool false]) (by simp [results, Tryd.results27, go_sem, r0, r1, r2, q0, q1, q2, q3, q4]) rfl ⟨p4, c4, rfl, HI5.out, HN4.out, fun g hg => Nat.le_trans PB.out.size (HP4.out g hg), kb⟩
end Go.Proofs.YthfoakomapmkeaaDoor
