/- Proved: for every input the law FrameStream returns true, panics never, and leaves what its arguments hold as it was; the table of symbols and the table of remainders read as the program's text lays them (the tied card). Other conditions: none. -/
import Derived.Test.YthfoakomapmkeaaDoorMrLK
import Derived.Test.YthfoakomapmkeaaDoorMrDo
import Derived.Test.YthfoakomapmkeaaDoorMrDs
namespace Go.Proofs.YthfoakomapmkeaaDoor
open Go.ChangeShapes Go.WideShapes Go.ChangeAt Go.RowKit Go.Joins

set_option maxHeartbeats 1000000 in
set_option maxRecDepth 100000 in
theorem frameStream_lifted (os : Os) (started : os.Started) (H : Type) (enc : TypeId × Value → H) :
    ReturnsInHanded {} Tryd.checked os 7 .any (fun w args => (Rows.frameStreamSpec.pre enc Tryd.prog Tryd.f7 [] false w args ∧ laidMetH Tryd.prog laids w) ∧ sizedMet enc Tryd.prog Tryd.f7 (OpenSpec.ofChange Rows.frameStreamSpec) false w args)
      (Rows.frameStreamSpec.post enc Tryd.prog Tryd.f7 false true false false) := by
  refine returnsInHanded_of_change_and (C := Tryd.checked) (X := fun w _ => laidMetH Tryd.prog laids w) (fun _ _ _ hh h => h.of_heap hh) Tryd.own started (by kernel_rfl) Tryd.func7
    (ChangeSpec.witness_shaped (enc := enc) (C := Tryd.checked) (os := os) (X := fun w _ => laidMetH Tryd.prog laids w) false (World.doorLaid Tryd.prog 28 os) #[.slice none 0 0, .slice none 0 0] 8 rfl (World.shaped_of_RefB (by kernel_rfl) (by kernel_rfl)) (by kernel_rfl) (by kernel_rfl) (by kernel_rfl) (door_met os _)) ?_
  intro W base args ds gs before hval0 hW _ _ hL _
  have hval : ∀ (j : Nat) t v, Tryd.f7.params[j]? = some t → args[j]? = some v → Value.okWide Tryd.prog W .any base t v := hval0
  have hT := hasTab_of hL
  have hTC := hasTabC_of hL
  have hW' := hW
  obtain ⟨p, q, hA0, hV, rfl, hfz, hnd⟩ := hW
  have hA : DataW.TrodAll enc Tryd.prog W 0 (fun _ => true) true Tryd.f7.params.toList args.toList ds p := hA0
  rw [Tryd.params7] at hA hval
  obtain ⟨v0, v1, dd0, dd1, p0, p1, rfl, rfl, rfl, h0, h1⟩ := trodAll_two hA
  obtain ⟨rfl, rfl⟩ := trodVars_none hV
  have k0 := h0
  have lt0 : ∀ x ∈ p0, x.block < W.heap.size := by obtain ⟨m, hm⟩ := k0; exact DataW.trod_lt m _ _ _ hm
  obtain ⟨b0, lb0, cb0, ee0⟩ := okWide_slice Tryd.underlying49 (hval 0 49 v0 rfl rfl)
  obtain ⟨a0, len0, cap0, ps0, rfl, hl0, hx0, hi0, hcap0, hnil0⟩ := (by subst ee0; obtain ⟨fuel, hf⟩ := h0; exact pks_of (by simpa [Value.cells] using hf) : ∃ (a : Option Addr) (len cap : Nat) (ps : List Pkt), v0 = .slice a len cap ∧ ps.length = len ∧ (∀ p ∈ ps, p.fine) ∧ ArgPks W a ps ∧ len ≤ cap ∧ (a = none → cap = 0))
  clear ee0 b0 lb0 cb0
  have k1 := h1
  have lt1 : ∀ x ∈ p1, x.block < W.heap.size := by obtain ⟨m, hm⟩ := k1; exact DataW.trod_lt m _ _ _ hm
  obtain ⟨b1, lb1, cb1, ee1⟩ := okWide_slice Tryd.underlying22 (hval 1 22 v1 rfl rfl)
  obtain ⟨a1, len1, cap1, xs1, rfl, hl1, hx1, hi1, hcap1, hnil1⟩ := (by subst ee1; obtain ⟨fuel, hf⟩ := h1; exact bytes_of (by simpa [Value.cells] using hf) : ∃ (a : Option Addr) (len cap : Nat) (xs : List Nat), v1 = .slice a len cap ∧ xs.length = len ∧ (∀ x ∈ xs, x < 256) ∧ In W a xs ∧ len ≤ cap ∧ (a = none → cap = 0))
  clear ee1 b1 lb1 cb1
  clear hA0 hval0
  refine (stream_walk a0 len0 cap0 ps0 hl0 hx0 a1 len1 cap1 xs1 hl1 hx1 W hi0 hi1 hTC hT).mono fun e W' ⟨he, bel⟩ => ?_
  subst he
  exact ⟨_, rfl, _, _, _, [], _, [], hW', trodAll_mk1 (shut_bool Tryd.underlying4 _), (trodAll_cons_mk (Below.trod Tryd.laidOut (by kernel_rfl) (of_decide_eq_true (by kernel_rfl)) k0 bel lt0) (trodAll_cons_mk (Below.trod Tryd.laidOut (by kernel_rfl) (of_decide_eq_true (by kernel_rfl)) k1 bel lt1) trodAll_mk0)), rfl, bel.frame _, fun h => by cases h⟩

theorem frameStream_said : Rows.FrameStreamSaid :=
  OpenClaim.holds_of_wide 7 Tryd.f7 rfl rfl rfl rfl rfl rfl rfl ⟨rfl, rfl, rfl, rfl, rfl⟩ rfl rfl rfl rfl rfl (by kernel_rfl) Tryd.func7 (by kernel_rfl)
    (of_decide_eq_true (by kernel_rfl)) (by unfold Func.isWrapper; first | (rw [if_pos (by decide +kernel)]; kernel_rfl) | (rw [if_neg (by decide +kernel)]; exact ⟨rfl, rfl⟩))
    (fun os started H enc _ => frameStream_lifted os started H enc)

theorem frameStream_holds : Rows.FrameStreamCardSaid :=
  Claim7.holds_tied_plain_at .later [] [.data, .data] true (true, "26482c9ba13f96428e028dc0fbfa0be66f6b907b8f00ed74def805bdbbe4490d") false
    frameStream_said (fun _ h => by cases h) (by kernel_rfl) (fun _ h => by cases h) frameStream_row_tie rfl ⟨rfl, rfl⟩ (by kernel_rfl) rfl
    (fun f fn hf hfn => by
      obtain rfl : f = 7 := Option.some.inj ((show Tryd.prog.funcNamed "fairlink/fairlinklaw04.FrameStream" = some 7 by kernel_rfl).symm.trans hf) |>.symm
      obtain rfl : fn = Tryd.f7 := (Option.some.inj (Tryd.func7.symm.trans hfn)).symm
      exact ⟨by kernel_rfl, fun j t ht => by
        rw [Tryd.params7] at ht
        have h3 : t = 49 ∨ t = 22 := by
          rcases j with _ | _ | _ | _ | j <;> simp at ht <;> simp [← ht]
        rcases h3 with rfl | rfl
        · exact (show Tryd.prog.wantsStandIn 49 = false by kernel_rfl)
        · exact (show Tryd.prog.wantsStandIn 22 = false by kernel_rfl)⟩)
    (by kernel_rfl)
#print axioms frameStream_holds
end Go.Proofs.YthfoakomapmkeaaDoor
