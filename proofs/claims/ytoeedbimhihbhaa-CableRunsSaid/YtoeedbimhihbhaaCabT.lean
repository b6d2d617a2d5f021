/- CableCarries: its walk. -/
import Derived.Test.YtoeedbimhihbhaaCabMb
namespace Go.Proofs.Ytoeedbimhihbhaa
open Go.RowKit

/-- An append of a row of slices to one of the call's own. -/
theorem wpList_append_bs {w : World} {ops : Array Oper} {rest : List Oper} {o : Oper} {a : Act} {Q : Exit → Act → World → Prop} (hgd : o.guard = none) (s x : Operand)
    (ho : o.op = .call { callee := .builtin .append, args := #[s, x], argTypes := #[42, 42] })
    (base : Nat) (v : Value) (n : Nat) (xs : List Value) (hs : a.eval s = v) (hown : w.ownsRow base 36 1 v n xs)
    (p : Option Addr) (m c : Nat) (news : List Value) (hx : a.eval x = .slice p m c) (hl : news.length = m) (hnil : p = none → c = 0 ∧ m = 0) (hnews : ∀ ad, p = some ad → ∀ j u, news[j]? = some u → w.cell? (ad.add j) = some u) (h1 : ∀ u ∈ news, u.oneCell' = true)
    (h63 : n + m ≤ 100000) (hbase : base ≤ w.heap.size)
    (h : ∀ va' vc' w', Box (w'.ownsRow base 36 1 (.slice va' (n + m) vc') (n + m) (xs ++ news)) → Box (w.grownBy w' v.ownBlock) → Box ((Value.slice va' (n + m) vc').ownBlock = v.ownBlock ∨ (Value.slice va' (n + m) vc').ownBlock = some w.heap.size) → wpList Try.prog ops Q rest (a.put o.dst (.slice va' (n + m) vc')) w') : wpList Try.prog ops Q (o :: rest) a w := by
  obtain ⟨i0, hi, hz0, hz1, hz2⟩ := info_parts Try.infoSl
  rcases p with _ | ad
  · obtain ⟨rfl, rfl⟩ := hnil rfl
    obtain rfl : news = [] := List.eq_nil_of_length_eq_zero hl
    refine wpList_append_own_none hgd s x 42 ho base 36 i0 1 Try.underlying42 hi v n xs hs hown hx ?_
    obtain ⟨va, vc, rfl⟩ : ∃ a c, v = .slice a n c := by
      rcases row_form hown with ⟨h, h0, _⟩ | ⟨g', c, h, _⟩
      · exact ⟨none, 0, by rw [h, h0]⟩
      · exact ⟨_, c, h⟩
    exact h va vc w (box (by simpa using hown)) (box ⟨rfl, rfl, rfl, Nat.le_refl _, fun _ _ _ => rfl⟩) (box (.inl rfl))
  · refine wpList_append_own_at w hgd s x 42 ho base 36 i0 (.slice none 0 0) 1 24 Try.underlying42 hi hz0 hz1 hz2 rfl (by decide) v n xs hs hown ad m c news hx (by simp [hl]) (hnews ad rfl) h1 (by unfold maxLen; omega) (by omega) hbase ?_
    intro v' w' ho' hg' _ hat'
    obtain ⟨va, vc, rfl⟩ : ∃ a c, v' = .slice a (n + m) c := by
      rcases row_form ho' with ⟨h, h0, _⟩ | ⟨g', c, h, _⟩
      · exact ⟨none, 0, by rw [h, h0]⟩
      · exact ⟨_, c, h⟩
    exact h va vc w' (box ho') (box hg') (box hat')

/-- What has arrived: the cells' slices hold the strings sent, out of the way of the cable and of their own row. -/
def ArrOk (w : World) (g : Nat) (v arr : Value) (cells : List Value) (l : List (List Nat)) : Prop := ∀ j, j < cells.length → ∃ a c, cells[j]? = some (.slice a (l.getD j []).length c) ∧ SymIn (fun k => k = g ∨ v.ownBlock = some k ∨ arr.ownBlock = some k) w a c (l.getD j [])
theorem ArrOk.steps {w w' : World} {g : Nat} {v v' arr : Value} {cells : List Value} {l : List (List Nat)} (h : ArrOk w g v arr cells l) (st : Steps g v v' w w') : ArrOk w' g v' arr cells l := fun j hj => by
  obtain ⟨a, c, h1, h2⟩ := h j hj
  refine ⟨a, c, h1, (h2.keep (w' := w') (fun k hk hE => st.apart.block k hk (fun e => hE (.inl e)) (fun e => hE (.inr (.inl e.symm))))).inn, fun hx q hq hE => ?_, h2.nil⟩
  have hlt := in_lt (by have := h2.inn; rwa [hq] at this) hx
  rcases hE with hE | hE | hE
  · exact h2.blk hx q hq (.inl hE)
  · rcases st.far _ hE with h3 | h3
    · exact h2.blk hx q hq (.inr (.inl h3))
    · omega
  · exact h2.blk hx q hq (.inr (.inr hE))
theorem ArrOk.grown {w w' : World} {g : Nat} {v arr arr' : Value} {cells : List Value} {l : List (List Nat)} (h : ArrOk w g v arr cells l) (hg : w.grownBy w' arr.ownBlock) (hfar : arr'.ownBlock = arr.ownBlock ∨ arr'.ownBlock = some w.heap.size) : ArrOk w' g v arr' cells l := fun j hj => by
  obtain ⟨a, c, h1, h2⟩ := h j hj
  refine ⟨a, c, h1, (h2.keep (w' := w') (fun k hk hE => hg.block k hk (fun e => hE (.inr (.inr e.symm))))).inn, fun hx q hq hE => ?_, h2.nil⟩
  have hlt := in_lt (by have := h2.inn; rwa [hq] at this) hx
  rcases hE with hE | hE | hE
  · exact h2.blk hx q hq (.inl hE)
  · exact h2.blk hx q hq (.inr (.inl hE))
  · rcases hfar with h3 | h3
    · exact h2.blk hx q hq (.inr (.inr (h3 ▸ hE)))
    · rw [h3] at hE; have := Option.some.inj hE; omega
theorem ArrOk.add {w : World} {g : Nat} {v arr : Value} {cells news : List Value} {l : List (List Nat)} (h : ArrOk w g v arr cells l) (hn : ∀ j, j < news.length → ∃ a c, news[j]? = some (.slice a (l.getD (cells.length + j) []).length c) ∧ SymIn (fun k => k = g ∨ v.ownBlock = some k ∨ arr.ownBlock = some k) w a c (l.getD (cells.length + j) [])) : ArrOk w g v arr (cells ++ news) l := fun j hj => by
  by_cases h1 : j < cells.length
  · obtain ⟨a, c, h2, h3⟩ := h j h1
    exact ⟨a, c, by rw [List.getElem?_append_left h1]; exact h2, h3⟩
  · rw [List.length_append] at hj
    obtain ⟨a, c, h2, h3⟩ := hn (j - cells.length) (by omega)
    rw [show cells.length + (j - cells.length) = j by omega] at h2 h3
    exact ⟨a, c, by rw [List.getElem?_append_right (by omega)]; exact h2, h3⟩

/-- What is in flight where one transmission is sent before each tick. -/
structure Flight (l : List (List Nat)) (d A S : Nat) (fl : List Fl) : Prop where
  len : fl.length = S - A
  each : ∀ q (h : q < fl.length), fl[q].xs = l.getD (A + q) [] ∧ fl[q].t = A + q + d
theorem Flight.send {l : List (List Nat)} {d A S : Nat} {fl : List Fl} (h : Flight l d A S fl) (hAS : A ≤ S) {f : Fl} (h1 : f.xs = l.getD S []) (h2 : f.t = S + d) : Flight l d A (S + 1) (fl ++ [f]) := by
  have hl := h.len
  refine ⟨by rw [List.length_append, hl]; simp; omega, fun q hq => ?_⟩
  by_cases h3 : q < fl.length
  · rw [List.getElem_append_left h3]; exact h.each q h3
  · have hq' : q = fl.length := by rw [List.length_append] at hq; simp at hq; omega
    subst hq'
    rw [List.getElem_append_right (Nat.le_refl _)]
    simp only [Nat.sub_self, List.getElem_cons_zero]
    rw [show A + fl.length = S by omega]
    exact ⟨h1, h2⟩
theorem Flight.due {l : List (List Nat)} {d A S N i : Nat} {fl : List Fl} (h : Flight l d A S fl) (hd : 1 ≤ d) (hA : A = min N (i + 1 - d)) (hS : S = min (i + 1) N) : due fl (i + 1) = min N (i + 2 - d) - A := by
  have hl := h.len
  by_cases hk : min N (i + 2 - d) - A < fl.length
  · refine due_stop fl (i + 1) _ hk (fun q hq => ?_) ?_
    · rw [(h.each q (by omega)).2]; omega
    · rw [(h.each _ hk).2]; omega
  · rw [due_all fl (i + 1) (fun q hq => by rw [(h.each q hq).2]; omega)]
    omega
theorem Flight.drop {l : List (List Nat)} {d A S : Nat} {fl : List Fl} (h : Flight l d A S fl) {K A' : Nat} (hK : A + K = A') : Flight l d A' S (fl.drop K) := by
  have hl := h.len
  subst hK
  refine ⟨by rw [List.length_drop, hl]; omega, fun q hq => ?_⟩
  rw [List.getElem_drop]
  have := h.each (K + q) (by rw [List.length_drop] at hq; omega)
  rw [show A + K + q = A + (K + q) by omega]
  exact this
end Go.Proofs.Ytoeedbimhihbhaa
