/- Proved: for every input the law RationalSums returns true, panics never, and leaves what its arguments hold as it was. Conditions: none. -/
import Derived.Test.YtokcgfpnokeanaaRatK
import Derived.Test.YtokcgfpnokeanaaRatSum3
import Derived.Deep.SlicePairs
namespace Go.Proofs.Ytokcgfpnokeanaa
open Go.ChangeShapes Go.WideShapes Go.ChangeAt Go.RowKit Go.Joins

theorem Try.laidOut : laidOutB Try.prog = true := by kernel_rfl

theorem Addr.add_plain' (b off n : Nat) : (⟨b, off, none⟩ : Addr).add n = ⟨b, off + n, none⟩ := by
  unfold Addr.add
  split <;> simp_all

/-- What came in: nil, or a row of numbers. -/
def RatRow (w : World) (a : Option Addr) (len : Nat) : Prop :=
  len = 0 ∨
  ∃ (p off : Nat) (l : List (Int × Int)), a = some ⟨p, off, none⟩ ∧ len = l.length ∧ (∀ i (h : i < l.length), w.cell? ⟨p, off + i * 2, none⟩ = some (.int .i64 l[i].1) ∧ w.cell? ⟨p, off + i * 2 + 1, none⟩ = some (.int .i64 l[i].2)) ∧ ∀ x ∈ l, I64 x.1 ∧ I64 x.2

theorem ratRow_of {H : Type} {enc : TypeId × Value → H} {w : World} {base : Nat} {spare : Nat → Bool} {held : Bool} {fuel : Nat} {a : Option Addr} {len cap : Nat} {x : DataW H × List MemPlace}
    (h : DataW.trod enc Try.prog w base spare held fuel 46 [.slice a len cap] = some x) : RatRow w a len := by
  rcases Deep.open_slice_pairs Try.underlying46 Try.underlying23 Try.cellsRat rfl rfl Try.cellsInt Try.cellsInt h with ⟨hcs, _⟩ | ⟨b, l, c, m, n, V0, V1, D0, D1, P0, P1, hcs, _, hlc, _, hm, _, hcell⟩
  · simp at hcs
    obtain ⟨rfl, rfl, rfl⟩ := hcs
    exact .inl rfl
  · simp at hcs
    obtain ⟨rfl, rfl, rfl⟩ := hcs
    have hlm : len ≤ m := by rw [hm]; split <;> omega
    have each : ∀ i, i < len → ∃ q : Int × Int, V0 i = .int .i64 q.1 ∧ V1 i = .int .i64 q.2 ∧ I64 q.1 ∧ I64 q.2 := by
      intro i hi
      obtain ⟨_, _, h0, h1⟩ := hcell i (by omega)
      obtain ⟨u, e0, _, wa⟩ := DataW.trod_int Try.underlying3 h0
      obtain ⟨v, e1, _, wb⟩ := DataW.trod_int Try.underlying3 h1
      simp at e0 e1
      exact ⟨(u, v), e0, e1, i64_of_wf wa, i64_of_wf wb⟩
    obtain ⟨bb, off, spot⟩ := b
    rcases Nat.eq_zero_or_pos len with h0 | h0
    · exact .inl h0
    have hspot : spot = none := by simpa [Addr.add] using World.cell?_spot (hcell 0 (by omega)).1
    subst hspot
    have hex : ∃ f : Nat → Int × Int, ∀ i, i < len → V0 i = .int .i64 (f i).1 ∧ V1 i = .int .i64 (f i).2 ∧ I64 (f i).1 ∧ I64 (f i).2 :=
      ⟨fun i => if hi : i < len then (each i hi).choose else (0, 0), fun i hi => by simp only [dif_pos hi]; exact (each i hi).choose_spec⟩
    obtain ⟨f, hf⟩ := hex
    refine .inr ⟨bb, off, (List.range len).map f, rfl, by simp, ?_, ?_⟩
    · intro i hi
      simp at hi
      obtain ⟨c0, c1, _, _⟩ := hcell i (by omega)
      obtain ⟨e0, e1, _, _⟩ := hf i hi
      rw [e0] at c0
      rw [e1] at c1
      rw [Addr.add_plain'] at c0 c1
      simp only [List.getElem_map, List.getElem_range]
      exact ⟨c0, by rw [← c1, Nat.add_assoc]⟩
    · intro x hx
      simp at hx
      obtain ⟨i, hi, rfl⟩ := hx
      exact (hf i hi).2.2

theorem sums_any (a : Option Addr) (len cap : Nat) (w : World) (h : RatRow w a len) :
    Calls Try.prog 9 #[.slice a len cap] w fun e w' => e = .returned (.bool true) ∧ Below w.heap.size w w' := by
  by_cases hl : 50 < len
  · exact sums_long a len cap hl w
  rcases h with rfl | ⟨p, off, l, rfl, rfl, hc, hr⟩
  · exact sums_nil a cap w
  · exact sums_law l p off cap w hc hr (by omega)

set_option maxRecDepth 100000 in
theorem rationalSums_lifted (os : Os) (started : os.Started) (H : Type) (enc : TypeId × Value → H) :
    ReturnsInHanded {} Try.checked os 9 .any (Rows.rationalSumsSpec.pre6 enc Try.prog Try.f9 Rows.rationalSumsRow.domain false) (Rows.rationalSumsSpec.post enc Try.prog Try.f9 false true false false) := by
  refine returnsInHanded_of_change (C := Try.checked) Try.own started (by kernel_rfl) Try.func9
    (ChangeSpec.witness6 (enc := enc) (C := Try.checked) false ⟨#[], #[.slice none 0 0], []⟩ 8 (by kernel_rfl) (by kernel_rfl) (by kernel_rfl) (by kernel_rfl)) ?_
  intro W base args ds gs before hval0 hW hcnd _
  have hval : ∀ (j : Nat) t v, Try.f9.params[j]? = some t → args[j]? = some v → Value.okWide Try.prog W .any base t v := hval0
  have hW' := hW
  obtain ⟨p, q, hA0, hV, rfl, hfz, hnd⟩ := hW
  have hA : DataW.TrodAll enc Try.prog W 0 (fun _ => true) true Try.f9.params.toList args.toList ds p := hA0
  rw [Try.params9] at hA hval
  obtain ⟨v0, dd0, rfl, rfl, h0⟩ := trodAll_one hA
  obtain ⟨rfl, rfl⟩ := trodVars_none hV
  obtain ⟨a0, len0, cap0, rfl⟩ := okWide_slice Try.underlying46 (hval 0 46 v0 rfl rfl)
  have k0 := h0
  have lt0 : ∀ x ∈ p, x.block < W.heap.size := by obtain ⟨m, hm⟩ := k0; exact DataW.trod_lt m _ _ _ hm
  have hrow : RatRow W a0 len0 := by
    obtain ⟨fuel, hf⟩ := h0
    exact ratRow_of hf
  clear hA0 hval0
  refine (sums_any a0 len0 cap0 W hrow).mono fun e W' ⟨he, bel⟩ => ?_
  subst he
  exact ⟨_, rfl, _, _, _, [], _, [], hW', trodAll_mk1 (shut_bool Try.underlying4 _), trodAll_cons_mk (Below.trod Try.laidOut (by kernel_rfl) (of_decide_eq_true (by kernel_rfl)) k0 bel lt0) trodAll_mk0, rfl, bel.frame _, fun h => by cases h⟩

theorem rationalSums_holds : Rows.RationalSumsSaid :=
  OpenClaim.holds_of_wide 9 Try.f9 rfl rfl rfl rfl rfl rfl rfl ⟨rfl, rfl, rfl, rfl, rfl⟩ rfl rfl rfl rfl rfl (by kernel_rfl) Try.func9 (by kernel_rfl)
    (of_decide_eq_true (by kernel_rfl)) (by unfold Func.isWrapper; first | (rw [if_pos (by decide +kernel)]; kernel_rfl) | (rw [if_neg (by decide +kernel)]; exact ⟨rfl, rfl⟩))
    (fun os started H enc _ => rationalSums_lifted os started H enc)
#print axioms rationalSums_holds
end Go.Proofs.Ytokcgfpnokeanaa
