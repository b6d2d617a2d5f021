/- Proved: for every input the law RationalOrders returns true, panics never, and leaves what its arguments hold as it was. Conditions: none. -/
import Derived.Test.YtokcgfpnokeanaaRatK
import Derived.Test.YtokcgfpnokeanaaRatOd
namespace Go.Proofs.Ytokcgfpnokeanaa
open Go.ChangeShapes Go.WideShapes Go.ChangeAt Go.RowKit Go.Joins

set_option maxRecDepth 100000 in
theorem rationalOrders_lifted (os : Os) (started : os.Started) (H : Type) (enc : TypeId × Value → H) :
    ReturnsInHanded {} Try.checked os 7 .any (Rows.rationalOrdersSpec.pre6 enc Try.prog Try.f7 Rows.rationalOrdersRow.domain false) (Rows.rationalOrdersSpec.post enc Try.prog Try.f7 false true false false) := by
  refine returnsInHanded_of_change (C := Try.checked) Try.own started (by kernel_rfl) Try.func7
    (ChangeSpec.witness6 (enc := enc) (C := Try.checked) false ⟨#[], #[.agg #[.int .i64 0, .int .i64 0], .agg #[.int .i64 0, .int .i64 0], .agg #[.int .i64 0, .int .i64 0]], []⟩ 8 (by kernel_rfl) (by kernel_rfl) (by kernel_rfl) (by kernel_rfl)) ?_
  intro W base args ds gs before hval0 hW hcnd _
  have hval : ∀ (j : Nat) t v, Try.f7.params[j]? = some t → args[j]? = some v → Value.okWide Try.prog W .any base t v := hval0
  have hW' := hW
  obtain ⟨p, q, hA0, hV, rfl, hfz, hnd⟩ := hW
  have hA : DataW.TrodAll enc Try.prog W 0 (fun _ => true) true Try.f7.params.toList args.toList ds p := hA0
  rw [Try.params7] at hA hval
  obtain ⟨v0, v1, v2, dd0, dd1, dd2, p0, p1, p2, rfl, rfl, rfl, h0, h1, h2⟩ := trodAll_three hA
  obtain ⟨rfl, rfl⟩ := trodVars_none hV
  obtain ⟨n0, d0, rfl, rfl, rfl, wa0, wb0⟩ := rat_open (hval 0 23 v0 rfl rfl) h0
  obtain ⟨n1, d1, rfl, rfl, rfl, wa1, wb1⟩ := rat_open (hval 1 23 v1 rfl rfl) h1
  obtain ⟨n2, d2, rfl, rfl, rfl, wa2, wb2⟩ := rat_open (hval 2 23 v2 rfl rfl) h2
  clear hA0 hval0
  simp only [List.append_nil] at hW'
  refine (orders_any n0 d0 n1 d1 n2 d2 (i64_of_wf wa0) (i64_of_wf wb0) (i64_of_wf wa1) (i64_of_wf wb1) (i64_of_wf wa2) (i64_of_wf wb2) W).mono fun e W' ⟨he, hb⟩ => ?_
  subst he
  exact ⟨_, rfl, law_post (pa := []) (pv := []) hW' hb rfl (fun _ _ _ => trodAll_mk1 (shut_bool Try.underlying4 _)) (fun sp _ => trodAll_mk3 (rat_shut wa0 wb0) (rat_shut wa1 wb1) (rat_shut wa2 wb2)) (fun _ _ => rfl) (ok_one (by kernel_rfl) rfl (okWide_bool_mk Try.underlying4 _))⟩

theorem rationalOrders_holds : Rows.RationalOrdersSaid :=
  OpenClaim.holds_of_wide 7 Try.f7 rfl rfl rfl rfl rfl rfl rfl ⟨rfl, rfl, rfl, rfl, rfl⟩ rfl rfl rfl rfl rfl (by kernel_rfl) Try.func7 (by kernel_rfl)
    (of_decide_eq_true (by kernel_rfl)) (by unfold Func.isWrapper; first | (rw [if_pos (by decide +kernel)]; kernel_rfl) | (rw [if_neg (by decide +kernel)]; exact ⟨rfl, rfl⟩))
    (fun os started H enc _ => rationalOrders_lifted os started H enc)
#print axioms rationalOrders_holds
end Go.Proofs.Ytokcgfpnokeanaa
