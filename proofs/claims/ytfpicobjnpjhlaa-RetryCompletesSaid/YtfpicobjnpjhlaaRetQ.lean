/- A row of slices that begins anywhere in its block: cut off in front, appended to behind. -/
import Derived.Test.YtfpicobjnpjhlaaCabA
import Derived.ArgAppend
import Derived.Maps.AppendAt
import Derived.Deep.Upon
import Derived.Deep.Onto
import Derived.Deep.MidRow
namespace Go.Proofs.Ytfpicobjnpjhlaa
open Go.RowKit

/-- A slice of the call's own, of elements of one cell, that begins anywhere in its block. -/
def QRow (B : Nat) (w : World) (v : Value) (xs : List Value) : Prop :=
  (v = .slice none 0 0 ∧ xs = []) ∨
  ∃ g i cap, v = .slice (some ⟨g, i, none⟩) xs.length cap ∧ B ≤ g ∧ g < w.heap.size ∧ xs.length ≤ cap ∧ cap ≤ maxLen ∧
    (∀ j u, xs[j]? = some u → w.cell? ⟨g, i + j, none⟩ = some u) ∧ ∀ j, j < cap → (w.cell? ⟨g, i + j, none⟩).isSome = true ∧ w.frozen? ⟨g, i + j, none⟩ = false

theorem QRow.nil (B : Nat) (w : World) : QRow B w (.slice none 0 0) [] := .inl ⟨rfl, rfl⟩
theorem QRow.blk {B : Nat} {w : World} {v : Value} {xs : List Value} (h : QRow B w v xs) : ∀ k, v.ownBlock = some k → B ≤ k ∧ k < w.heap.size := by
  intro k hk
  rcases h with ⟨rfl, _⟩ | ⟨g, i, cap, rfl, h1, h2, _⟩
  · cases hk
  · cases hk
    exact ⟨h1, h2⟩
theorem QRow.same {B : Nat} {w w' : World} {v : Value} {xs : List Value} (h : QRow B w v xs) (hs : w.heap.size ≤ w'.heap.size) (hk : ∀ k, v.ownBlock = some k → w'.heap[k]? = w.heap[k]?) : QRow B w' v xs := by
  rcases h with h | ⟨g, i, cap, rfl, h1, h2, h3, h4, h5, h6⟩
  · exact .inl h
  · have e := hk g rfl
    refine .inr ⟨g, i, cap, rfl, h1, by omega, h3, h4, fun j u hu => ?_, fun j hj => ⟨?_, ?_⟩⟩
    · rw [World.cell?_of_block (a := ⟨g, i + j, none⟩) e]; exact h5 j u hu
    · rw [World.cell?_of_block (a := ⟨g, i + j, none⟩) e]; exact (h6 j hj).1
    · rw [World.frozen?_of_block (a := ⟨g, i + j, none⟩) e]; exact (h6 j hj).2
theorem QRow.of_row {B : Nat} {w : World} {e : TypeId} {v : Value} {n : Nat} {xs : List Value} (h : w.ownsRow B e 1 v n xs) : QRow B w v xs := by
  have hx := h
  have hl : xs.length = n := by have := h.1; omega
  rcases h.2 with ⟨rfl, h0⟩ | ⟨g, cap, cur, rfl, hb, hh, hn, hm, hs, _⟩
  · exact .inl ⟨rfl, List.eq_nil_of_length_eq_zero (by omega)⟩
  · refine .inr ⟨g, 0, cap, by rw [hl], hb, (Array.getElem?_eq_some_iff.1 hh).1, by omega, hm, fun j u hu => ?_, fun j hj => ?_⟩
    · rw [Nat.zero_add, hx.cellAt j (by rw [← hx.1]; exact (List.getElem?_eq_some_iff.1 hu).1)]
      exact hu
    · rw [Nat.zero_add]
      constructor
      · have hj' : j < cur.size := by omega
        simp [World.cell?, hh, hj']
      · exact hx.frozenAt j
/-- Cut off in front. -/
theorem QRow.cut {B : Nat} {w : World} {g i cap n : Nat} {xs : List Value} (h : QRow B w (.slice (some ⟨g, i, none⟩) n cap) xs) (k : Nat) (hk : k ≤ xs.length) : QRow B w (.slice (some ⟨g, i + k, none⟩) (n - k) (cap - k)) (xs.drop k) := by
  rcases h with ⟨h, _⟩ | ⟨g', i', cap', h, h1, h2, h3, h4, h5, h6⟩
  · cases h
  · cases h
    refine .inr ⟨g, i + k, cap - k, by rw [List.length_drop], h1, h2, by rw [List.length_drop]; omega, by omega, fun j u hu => ?_, fun j hj => ?_⟩
    · rw [List.getElem?_drop] at hu
      rw [Nat.add_assoc]
      exact h5 _ u hu
    · rw [Nat.add_assoc]
      exact h6 _ (by omega)

/-- One element more. -/
theorem run_append_q {P : Program} {w : World} (t ot : TypeId) (B : Nat) (e : TypeId) (i : TypeInfo) (z : Value) (bytes : Nat)
    (ht : P.underlying t = some (.slice e)) (hi : P.info? e = some i) (hz : i.zero = some z) (hsize : i.size = 1) (hby : i.bytes = bytes) (hzs : z.cells.size = 1)
    (v : Value) (xs : List Value) (hq : QRow B w v xs)
    (ab ao c : Nat) (u : Value) (hu : w.cell? ⟨ab, ao, none⟩ = some u) (h1 : u.oneCell' = true)
    (h63 : xs.length + 1 ≤ 100000) (hbytes : 100000 * bytes ≤ 140737488355328) (hB : B ≤ w.heap.size) :
    ∃ va vc w', (Builtin.append_ #[t, t] ot #[v, .slice (some ⟨ab, ao, none⟩) 1 c]).run P w = .ok (.slice va (xs.length + 1) vc) w' ∧ QRow B w' (.slice va (xs.length + 1) vc) (xs ++ [u]) ∧ w.grownBy w' v.ownBlock ∧ ((Value.slice va (xs.length + 1) vc).ownBlock = v.ownBlock ∨ (Value.slice va (xs.length + 1) vc).ownBlock = some w.heap.size) := by
  have hb : (xs.length + 1) * bytes ≤ 140737488355328 := Nat.le_trans (Nat.mul_le_mul_right _ h63) hbytes
  have hnews : ∀ j u', [u][j]? = some u' → w.cell? ((⟨ab, ao, none⟩ : Addr).add j) = some u' := by
    intro j u' hj
    cases j with
    | zero => cases hj; rw [Addr.add_lit, Nat.add_zero]; exact hu
    | succ j => simp at hj
  have hne : ∀ y ∈ [u], y.oneCell' = true := by intro y hy; rw [List.mem_singleton] at hy; rw [hy]; exact h1
  rcases hq with ⟨rfl, rfl⟩ | ⟨g, k, cap, rfl, b1, b2, b3, b4, b5, b6⟩
  · obtain ⟨v', w', hrun, r1, r2, _, r3⟩ := run_append_own_at (P := P) w B t ot e i z 1 bytes ht hi hz hsize hby hzs (by omega) (.slice none 0 0) 0 [] (World.ownsRow_nil w _ e 1) ⟨ab, ao, none⟩ 1 c [u] rfl hnews hne (by unfold maxLen; omega) (by simpa using hb) hB
    rcases row_form r1 with ⟨_, h0, _⟩ | ⟨g', c', rfl, _⟩
    · omega
    · exact ⟨_, c', w', hrun, QRow.of_row r1, r2, r3⟩
  · have holds : ∀ j u', xs[j]? = some u' → w.cell? ((⟨g, k, none⟩ : Addr).add j) = some u' := fun j u' hj => by rw [Addr.add_lit]; exact b5 j u' hj
    by_cases hr : xs.length + 1 ≤ cap
    · have c1 := b6 xs.length (by omega)
      have hrun := run_append_room_cells (P := P) w t ot e i ht hi g k xs.length cap ⟨ab, ao, none⟩ 1 c [u] (by rw [hsize]; rfl) hnews hne hr
        (fun j hj => by rw [hsize, Nat.mul_one, show k + xs.length + j = k + xs.length by simp at hj; omega]; exact c1.1)
        (fun j hj => by rw [hsize, Nat.mul_one, show k + xs.length + j = k + xs.length by simp at hj; omega]; exact c1.2)
      rw [hsize, Nat.mul_one] at hrun
      refine ⟨_, _, _, hrun, .inr ⟨g, k, cap, by simp, b1, by rw [World.setCells, World.setCells]; simpa using b2, by simpa using hr, b4, fun j u' hj => ?_, fun j hj => ⟨?_, ?_⟩⟩, ?_, .inl rfl⟩
      · by_cases hjl : j < xs.length
        · rw [List.getElem?_append_left hjl] at hj
          rw [World.cell?_setCells_out g _ _ _ _ (fun _ _ => .inl (by show k + j < k + xs.length; omega))]
          exact b5 j u' hj
        · have : j = xs.length := by have := (List.getElem?_eq_some_iff.1 hj).1; simp at this; omega
          subst this
          have h2 := World.cell?_setCells_in g [u] (k + xs.length) w (fun j hj => by rw [show k + xs.length + j = k + xs.length by simp at hj; omega]; exact c1.1) 0 (by simp)
          rw [Nat.add_zero] at h2
          simp at hj
          rw [h2, ← hj]
          rfl
      · exact World.isSome_setCells g _ _ _ _ (b6 j hj).1
      · rw [World.frozen?_setCells]; exact (b6 j hj).2
      · exact ⟨rfl, rfl, rfl, by rw [World.setCells, World.setCells]; simp, fun q hq hne' => World.heap_setCells_other _ _ _ _ hq (fun e => hne' (by rw [e]; rfl))⟩
    · obtain ⟨v', w', hrun, r1, r2⟩ := run_append_arg_grows (P := P) w t ot e i z 1 bytes ht hi hz hsize hby hzs (by omega) ⟨g, k, none⟩ xs.length cap xs (by omega) holds ⟨ab, ao, none⟩ 1 c [u] rfl hnews (by omega) (by unfold maxLen; omega) hb
      have hg := run_append_grow (P := P) w t ot e i z ht hi hz ⟨g, k, none⟩ xs.length cap xs (by rw [hsize, Nat.mul_one]) holds ⟨ab, ao, none⟩ 1 c [u] (by rw [hsize]; rfl) hnews (by omega) (by omega) (by rw [hby]; exact growslice_fits (by omega) hb)
      have e1 := hrun.symm.trans hg
      injection e1 with e1 _
      rcases row_form r1 with ⟨_, h0, _⟩ | ⟨g', c', rfl, _⟩
      · omega
      · refine ⟨_, c', w', hrun, QRow.of_row (World.ownsRow.mono r1 hB), ⟨r2.os, r2.tape, r2.output, r2.size, fun q hq _ => r2.block q hq (by simp)⟩, .inr ?_⟩
        injection e1 with e1 _ _
        injection e1 with e1
        injection e1 with e1
        show some g' = some _
        rw [e1]
theorem wpList_append_q {P : Program} {w : World} {ops : Array Oper} {rest : List Oper} {o : Oper} {a : Act} {Q : Exit → Act → World → Prop} (hgd : o.guard = none) (s x : Operand) (t : TypeId)
    (ho : o.op = .call { callee := .builtin .append, args := #[s, x], argTypes := #[t, t] }) (B : Nat) (e : TypeId) (i : TypeInfo) (z : Value) (bytes : Nat)
    (ht : P.underlying t = some (.slice e)) (hi : P.info? e = some i) (hz : i.zero = some z) (hsize : i.size = 1) (hby : i.bytes = bytes) (hzs : z.cells.size = 1)
    (v : Value) (xs : List Value) (hs : a.eval s = v) (hq : QRow B w v xs)
    (ab ao c : Nat) (u : Value) (hx : a.eval x = .slice (some ⟨ab, ao, none⟩) 1 c) (hu : w.cell? ⟨ab, ao, none⟩ = some u) (h1 : u.oneCell' = true)
    (h63 : xs.length + 1 ≤ 100000) (hbytes : 100000 * bytes ≤ 140737488355328) (hB : B ≤ w.heap.size)
    (h : ∀ va vc w', Box (QRow B w' (.slice va (xs.length + 1) vc) (xs ++ [u])) → Box (w.grownBy w' v.ownBlock) → Box ((Value.slice va (xs.length + 1) vc).ownBlock = v.ownBlock ∨ (Value.slice va (xs.length + 1) vc).ownBlock = some w.heap.size) → wpList P ops Q rest (a.put o.dst (.slice va (xs.length + 1) vc)) w') : wpList P ops Q (o :: rest) a w := by
  obtain ⟨va, vc, w', hrun, q1, q2, q3⟩ := run_append_q (P := P) (w := w) t o.type B e i z bytes ht hi hz hsize hby hzs v xs hq ab ao c u hu h1 h63 hbytes hB
  refine wpList_plain hgd fun K hK' => ?_
  unfold Oper.wp
  simp [execOp, ho, resolve, invoke, builtin, hs, hx, hrun, Result.andThen]
  exact hK' _ _ (h va vc w' (box q1) (box q2) (box q3))

/-- .. as a step of a region that draws. -/
theorem step_append_q {P : Program} {ops : Array Oper} {o : Oper} {a : Act} {w : World} {K : Act → World → Prop} {Q : Exit → Act → World → Prop} {E : Prop} (hg : o.guard = none) (s x : Operand) (t : TypeId)
    (ho : o.op = .call { callee := .builtin .append, args := #[s, x], argTypes := #[t, t] }) (B : Nat) (e : TypeId) (i : TypeInfo) (z : Value) (bytes : Nat)
    (ht : P.underlying t = some (.slice e)) (hi : P.info? e = some i) (hz : i.zero = some z) (hsize : i.size = 1) (hby : i.bytes = bytes) (hzs : z.cells.size = 1)
    (v : Value) (xs : List Value) (hs : a.eval s = v) (hq : QRow B w v xs)
    (ab ao c : Nat) (u : Value) (hx : a.eval x = .slice (some ⟨ab, ao, none⟩) 1 c) (hu : w.cell? ⟨ab, ao, none⟩ = some u) (h1 : u.oneCell' = true)
    (h63 : xs.length + 1 ≤ 100000) (hbytes : 100000 * bytes ≤ 140737488355328) (hB : B ≤ w.heap.size)
    (h : ∀ va vc w', Box (QRow B w' (.slice va (xs.length + 1) vc) (xs ++ [u])) → Box (w.grownBy w' v.ownBlock) → Box ((Value.slice va (xs.length + 1) vc).ownBlock = v.ownBlock ∨ (Value.slice va (xs.length + 1) vc).ownBlock = some w.heap.size) → K (a.put o.dst (.slice va (xs.length + 1) vc)) w') :
    if Region.wanted o (yielded ops a.tmps) = true then Oper.wp P o a w K Q else E := by
  have hw : Region.wanted o (yielded ops a.tmps) = true := by simp [Region.wanted, hg]
  rw [if_pos hw]
  obtain ⟨va, vc, w', hrun, q1, q2, q3⟩ := run_append_q (P := P) (w := w) t o.type B e i z bytes ht hi hz hsize hby hzs v xs hq ab ao c u hu h1 h63 hbytes hB
  unfold Oper.wp
  simp [execOp, ho, resolve, invoke, builtin, hs, hx, hrun, Result.andThen]
  exact h _ _ _ (box q1) (box q2) (box q3)
end Go.Proofs.Ytfpicobjnpjhlaa
