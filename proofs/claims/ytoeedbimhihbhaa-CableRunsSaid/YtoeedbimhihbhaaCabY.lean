/- The cable and its reference go together. -/
import Derived.Test.YtoeedbimhihbhaaCabX
namespace Go.Proofs.Ytoeedbimhihbhaa
open Go.RowKit

/-- What is said of a transmission where its address does not matter. -/
abbrev key (f : Fl) : List Nat × Nat := (f.xs, f.t)
/-- A cable and the reference's say the same. -/
structure Sim (s : Cab) (r : Rc) : Prop where
  fs : r.fs = s.fs
  d : r.d = s.d
  up : r.down = !s.up
  sent : r.idx = s.sent
  now : r.now = s.time
  lost : r.lost = s.lost
  keys : r.fl.map key = s.fl.map key
  sorted : s.fl.Pairwise (fun a b => a.t ≤ b.t)
  lo : ∀ f ∈ s.fl, s.time < f.t
  hi : ∀ f ∈ s.fl, f.t ≤ s.time + s.d
  d1 : 1 ≤ s.d
theorem Sim.len {s : Cab} {r : Rc} (h : Sim s r) : r.fl.length = s.fl.length := by
  have := congrArg List.length h.keys
  simpa using this

theorem Sim.send {s s' : Cab} {r r' : Rc} {xs : List Nat} {c c' : Int} (h : Sim s r) (h1 : sendR s xs s' c) (h2 : rsendR r xs r' c') : Sim s' r' ∧ c' = c ∧ r'.fa = r.fa ∧ r'.fc = r.fc ∧ r'.fs = r.fs := by
  unfold sendR at h1
  unfold rsendR at h2
  rw [h.fs, h.sent, h.now, h.d, h.len, h.lost] at h2
  have hu : (r.down = true) ↔ (s.up = false) := by rw [h.up]; cases s.up <;> simp
  by_cases c1 : s.up = false ∨ (theF s.fs s.sent).kind = 1
  · rw [if_pos c1] at h1
    rw [if_pos (c1.imp hu.2 id)] at h2
    obtain ⟨rfl, rfl⟩ := h1
    obtain ⟨rfl, rfl⟩ := h2
    exact ⟨⟨rfl, rfl, h.up, rfl, rfl, rfl, h.keys, h.sorted, h.lo, h.hi, h.d1⟩, rfl, rfl, rfl, h.fs.symm⟩
  rw [if_neg c1] at h1
  rw [if_neg (fun h => c1 (h.imp hu.1 id))] at h2
  by_cases c2 : 64 < s.fl.length + (if (theF s.fs s.sent).kind = 3 then 2 else 1)
  · rw [if_pos c2] at h1 h2
    obtain ⟨rfl, rfl⟩ := h1
    obtain ⟨rfl, rfl⟩ := h2
    exact ⟨⟨rfl, rfl, h.up, rfl, rfl, rfl, h.keys, h.sorted, h.lo, h.hi, h.d1⟩, rfl, rfl, rfl, h.fs.symm⟩
  rw [if_neg c2] at h1 h2
  obtain ⟨news, hn, hnews, rfl, rfl⟩ := h1
  obtain ⟨f, ⟨e1, e2⟩, rfl, rfl⟩ := h2
  have hk : (List.replicate (if (theF s.fs s.sent).kind = 3 then 2 else 1) f).map key = news.map key := by
    have e3 : ∀ g ∈ news, key g = key f := fun g hg => by
      obtain ⟨a1, a2⟩ := hnews g hg
      show (g.xs, g.t) = (f.xs, f.t)
      rw [a1, a2, e1, e2]
    rw [← hn]
    clear hn hnews c2
    induction news with
    | nil => rfl
    | cons g l ih =>
      rw [List.length_cons, List.replicate_succ, List.map_cons, List.map_cons, e3 g (List.mem_cons_self ..), ih (fun g hg => e3 g (List.mem_cons_of_mem _ hg))]
  refine ⟨⟨rfl, rfl, h.up, rfl, rfl, rfl, ?_, ?_, ?_, ?_, h.d1⟩, rfl, rfl, rfl, h.fs.symm⟩
  · show (r.fl ++ List.replicate _ f).map key = (s.fl ++ news).map key
    rw [List.map_append, List.map_append, h.keys, hk]
  · refine List.pairwise_append.2 ⟨h.sorted, ?_, fun a ha b hb => ?_⟩
    · have : ∀ g ∈ news, g.t = s.time + s.d := fun g hg => (hnews g hg).2
      clear hk hn hnews
      induction news with
      | nil => exact List.Pairwise.nil
      | cons g l ih => exact List.Pairwise.cons (fun b hb => by rw [this g (List.mem_cons_self ..), this b (List.mem_cons_of_mem _ hb)]; exact Nat.le_refl _) (ih (fun g hg => this g (List.mem_cons_of_mem _ hg)))
    · rw [(hnews b hb).2]; exact h.hi a ha
  · intro g hg
    rcases List.mem_append.1 hg with hg | hg
    · exact h.lo g hg
    · rw [(hnews g hg).2]; have := h.d1; show s.time < s.time + s.d; omega
  · intro g hg
    rcases List.mem_append.1 hg with hg | hg
    · exact h.hi g hg
    · rw [(hnews g hg).2]; exact Nat.le_refl _

theorem filter_keys (l m : List Fl) (p : Nat → Bool) (h : l.map key = m.map key) : (l.filter fun f => p f.t).map key = (m.filter fun f => p f.t).map key := by
  have e : ∀ l : List Fl, (l.filter fun f => p f.t).map key = (l.map key).filter fun k => p k.2 := fun l => by
    rw [List.filter_map]; rfl
  rw [e, e, h]
theorem due_filter : ∀ (l : List Fl) (T : Nat), l.Pairwise (fun a b => a.t ≤ b.t) → (∀ f ∈ l, T ≤ f.t) → (l.filter fun f => f.t == T) = l.take (due l T) ∧ (l.filter fun f => f.t != T) = l.drop (due l T)
  | [], T, _, _ => ⟨rfl, rfl⟩
  | f :: r, T, hs, hl => by
    obtain ⟨hs1, hs2⟩ := List.pairwise_cons.1 hs
    have hf := hl f (List.mem_cons_self ..)
    by_cases h : f.t = T
    · obtain ⟨i1, i2⟩ := due_filter r T hs2 (fun g hg => hl g (List.mem_cons_of_mem _ hg))
      have e : due (f :: r) T = due r T + 1 := by
        unfold due
        rw [List.takeWhile_cons, if_pos (decide_eq_true (by omega)), List.length_cons]
      rw [e, List.take_succ_cons, List.drop_succ_cons, ← i1, ← i2]
      simp [h]
    · have e : due (f :: r) T = 0 := due_stop (f :: r) T 0 (by simp) (fun i hi => absurd hi (Nat.not_lt_zero _)) (by show T < f.t; omega)
      have hall : ∀ g ∈ f :: r, g.t ≠ T := fun g hg => by
        rcases List.mem_cons.1 hg with rfl | hg
        · exact h
        · have := hs1 g hg; omega
      rw [e, List.take_zero, List.drop_zero]
      refine ⟨List.filter_eq_nil_iff.2 (fun g hg => by simp [hall g hg]), List.filter_eq_self.2 (fun g hg => by simp [hall g hg])⟩
theorem Sim.tick {s : Cab} {r : Rc} (h : Sim s r) : Sim ⟨s.d, s.fa, s.fc, s.fs, s.up, s.time + 1, s.sent, s.fl.drop (due s.fl (s.time + 1)), s.lost⟩ ⟨r.d, r.fa, r.fc, r.fs, r.down, r.idx, r.now + 1, r.fl.filter (fun f => f.t != r.now + 1), r.lost⟩ ∧
    (r.fl.filter (fun f => f.t == r.now + 1)).map Fl.xs = (s.fl.take (due s.fl (s.time + 1))).map Fl.xs ∧ (r.fl.filter (fun f => f.t == r.now + 1)).length = due s.fl (s.time + 1) := by
  obtain ⟨i1, i2⟩ := due_filter s.fl (s.time + 1) h.sorted (fun f hf => h.lo f hf)
  rw [h.now]
  have k1 := filter_keys r.fl s.fl (fun t => t == s.time + 1) h.keys
  have k2 := filter_keys r.fl s.fl (fun t => t != s.time + 1) h.keys
  rw [i1] at k1
  rw [i2] at k2
  refine ⟨⟨h.fs, h.d, h.up, h.sent, rfl, h.lost, k2, h.sorted.sublist (List.drop_sublist _ _), fun f hf => ?_, fun f hf => ?_, h.d1⟩, ?_, ?_⟩
  · have h1 : f ∈ s.fl.filter (fun f => f.t != s.time + 1) := by rw [i2]; exact hf
    obtain ⟨h2, h3⟩ := List.mem_filter.1 h1
    have := h.lo f h2
    have h4 : f.t ≠ s.time + 1 := by simpa using h3
    show s.time + 1 < f.t
    omega
  · have := h.hi f (List.mem_of_mem_drop hf)
    show f.t ≤ s.time + 1 + s.d
    omega
  · have := congrArg (List.map Prod.fst) k1
    simpa [List.map_map, Function.comp_def] using this
  · have := congrArg List.length k1
    have h5 := due_le s.fl (s.time + 1)
    simp at this
    omega
theorem Sim.cut {s : Cab} {r : Rc} (h : Sim s r) : Sim ⟨s.d, s.fa, s.fc, s.fs, false, s.time, s.sent, [], s.lost + s.fl.length⟩ ⟨r.d, r.fa, r.fc, r.fs, true, r.idx, r.now, [], r.lost + r.fl.length⟩ :=
  ⟨h.fs, h.d, rfl, h.sent, h.now, by rw [h.len, h.lost], rfl, List.Pairwise.nil, (fun f hf => by cases hf), (fun f hf => by cases hf), h.d1⟩
theorem Sim.mend {s : Cab} {r : Rc} (h : Sim s r) : Sim ⟨s.d, s.fa, s.fc, s.fs, true, s.time, s.sent, s.fl, s.lost⟩ ⟨r.d, r.fa, r.fc, r.fs, false, r.idx, r.now, r.fl, r.lost⟩ :=
  ⟨h.fs, h.d, rfl, h.sent, h.now, h.lost, h.keys, h.sorted, h.lo, h.hi, h.d1⟩

theorem RfAt.steps {w w' : World} {g : Nat} {v v' va : Value} {l : List Fl} {P : Nat → Prop} (h : RfAt (fun k => k = g ∨ v.ownBlock = some k ∨ P k) w va l) (st : Steps g v v' w w') : RfAt (fun k => k = g ∨ v'.ownBlock = some k ∨ P k) w' va l := by
  have h2 := (h.excl (E' := fun k => k = g ∨ (v.ownBlock = some k ∨ v'.ownBlock = some k) ∨ P k) (fun k hk he => by
    rcases he with he | he | he
    · exact .inl he
    · rcases he with he | he
      · exact .inr (.inl he)
      · rcases st.far k he with h3 | h3
        · exact .inr (.inl h3)
        · omega
    · exact .inr (.inr he))).same (w' := w') (fun k hk he => st.apart.block k hk (fun e => he (.inl e)) (fun e => he (.inr (.inl (.inl e.symm)))))
  exact h2.excl (fun k _ he => by
    rcases he with he | he | he
    · exact .inl he
    · exact .inr (.inl (.inr he))
    · exact .inr (.inr he))
end Go.Proofs.Ytoeedbimhihbhaa
