/- Mathematics of a conversation over two queues: what is on the way, what it means, and that it comes to its end. -/
namespace Go.Proofs.Ytfpicobjnpjhlaa
namespace Talk

/-- A conversation: acknowledged, position, highest sent, silence, offered, accepted (all counted from the first packet on). -/
structure St where
  A : Nat
  N : Nat
  H : Nat
  S : Nat
  T : Nat
  R : Nat

/-- What is on the way there (the packet; the highest sent when it went off) and back (what is expected; whether it is a Nak). -/
structure Inv (W : Nat) (s : St) (pt : List (Nat × Nat)) (pb : List (Nat × Bool)) : Prop where
  ar : s.A ≤ s.R
  rh : s.R ≤ s.H
  ht : s.H ≤ s.T
  tw : s.T ≤ s.A + W
  an : s.A ≤ s.N
  nh : s.N ≤ s.H
  there : ∀ x ∈ pt, x.1 < x.2 ∧ x.2 ≤ x.1 + W ∧ s.R ≤ x.2 ∧ x.2 ≤ s.H
  order : pt.Pairwise (fun x y => x.2 ≤ y.2)
  back : ∀ y ∈ pb, s.A ≤ y.1 ∧ y.1 ≤ s.R
  border : pb.Pairwise (fun x y => x.1 ≤ y.1)

theorem Inv.start (W : Nat) : Inv W ⟨0, 0, 0, 0, 0, 0⟩ [] [] :=
  ⟨Nat.le_refl _, Nat.le_refl _, Nat.le_refl _, by simp, Nat.le_refl _, Nat.le_refl _, (fun x h => by cases h), List.Pairwise.nil, (fun x h => by cases h), List.Pairwise.nil⟩

theorem Inv.offer {W : Nat} {s : St} {pt : List (Nat × Nat)} {pb : List (Nat × Bool)} (h : Inv W s pt pb) (hw : s.T - s.A < W) : Inv W { s with T := s.T + 1 } pt pb :=
  ⟨h.ar, h.rh, Nat.le_succ_of_le h.ht, (by have := h.ar; have := h.rh; have := h.ht; show s.T + 1 ≤ s.A + W; omega), h.an, h.nh, h.there, h.order, h.back, h.border⟩

theorem Inv.silent {W : Nat} {s : St} {pt : List (Nat × Nat)} {pb : List (Nat × Bool)} (h : Inv W s pt pb) (S : Nat) : Inv W { s with S := S } pt pb :=
  ⟨h.ar, h.rh, h.ht, h.tw, h.an, h.nh, h.there, h.order, h.back, h.border⟩

/-- The sender sends the packet i, which is kept. -/
theorem Inv.send {W : Nat} {s : St} {pt : List (Nat × Nat)} {pb : List (Nat × Bool)} (h : Inv W s pt pb) (i S n : Nat) (h0 : s.A ≤ i) (h1 : i ≤ s.H) (h2 : i < s.T) :
    Inv W { s with N := i + 1, H := max s.H (i + 1), S := S } (pt ++ List.replicate n (i, max s.H (i + 1))) pb := by
  have a1 := h.ar; have a2 := h.rh; have a3 := h.ht; have a4 := h.tw; have a5 := h.an; have a6 := h.nh
  refine ⟨h.ar, (by show s.R ≤ max s.H (i + 1); omega), (by show max s.H (i + 1) ≤ s.T; omega), h.tw, (by show s.A ≤ i + 1; omega), (by show i + 1 ≤ max s.H (i + 1); omega), ?_, ?_, h.back, h.border⟩
  · intro x hx
    rcases List.mem_append.1 hx with hx | hx
    · have := h.there x hx
      refine ⟨this.1, this.2.1, this.2.2.1, ?_⟩
      show x.2 ≤ max s.H (i + 1)
      omega
    · have e := List.eq_of_mem_replicate hx
      subst e
      show i < max s.H (i + 1) ∧ max s.H (i + 1) ≤ i + W ∧ s.R ≤ max s.H (i + 1) ∧ max s.H (i + 1) ≤ max s.H (i + 1)
      omega
  · refine List.pairwise_append.2 ⟨h.order, ?_, ?_⟩
    · exact List.pairwise_replicate.2 (.inr (Nat.le_refl _))
    · intro x hx y hy
      have e := List.eq_of_mem_replicate hy
      subst e
      have := h.there x hx
      show x.2 ≤ max s.H (i + 1)
      omega

/-- What arrives is the packet that is expected if and only if its number is the expected one. -/
theorem Inv.number {W : Nat} {s : St} {x : Nat × Nat} {pt : List (Nat × Nat)} {pb : List (Nat × Bool)} (h : Inv W s (x :: pt) pb) (hW : W ≤ 128) : x.1 % 256 = s.R % 256 ↔ x.1 = s.R := by
  have h1 := h.there x (List.mem_cons_self ..)
  have := h.ar; have := h.rh; have := h.ht; have := h.tw
  omega

/-- A packet that is expected arrives. -/
theorem Inv.accept {W : Nat} {s : St} {x : Nat × Nat} {pt : List (Nat × Nat)} {pb : List (Nat × Bool)} (h : Inv W s (x :: pt) pb) (hx : x.1 = s.R) : Inv W { s with R := s.R + 1 } pt pb := by
  have h1 := h.there x (List.mem_cons_self ..)
  have ho := List.pairwise_cons.1 h.order
  have := h.ar; have := h.rh; have := h.ht; have := h.tw
  refine ⟨(by show s.A ≤ s.R + 1; omega), (by show s.R + 1 ≤ s.H; omega), h.ht, h.tw, h.an, h.nh, ?_, ho.2, ?_, h.border⟩
  · intro y hy
    have h2 := h.there y (List.mem_cons_of_mem _ hy)
    have h3 := ho.1 y hy
    refine ⟨h2.1, h2.2.1, ?_, h2.2.2.2⟩
    show s.R + 1 ≤ y.2
    omega
  · intro y hy
    have h2 := h.back y hy
    refine ⟨h2.1, ?_⟩
    show y.1 ≤ s.R + 1
    omega

/-- Another packet arrives. -/
theorem Inv.refuse {W : Nat} {s : St} {x : Nat × Nat} {pt : List (Nat × Nat)} {pb : List (Nat × Bool)} (h : Inv W s (x :: pt) pb) : Inv W s pt pb :=
  ⟨h.ar, h.rh, h.ht, h.tw, h.an, h.nh, fun y hy => h.there y (List.mem_cons_of_mem _ hy), (List.pairwise_cons.1 h.order).2, h.back, h.border⟩

/-- The receiver answers. -/
theorem Inv.answer {W : Nat} {s : St} {pt : List (Nat × Nat)} {pb : List (Nat × Bool)} (h : Inv W s pt pb) (n : Nat) (b : Bool) : Inv W s pt (pb ++ List.replicate n (s.R, b)) := by
  refine ⟨h.ar, h.rh, h.ht, h.tw, h.an, h.nh, h.there, h.order, ?_, ?_⟩
  · intro y hy
    rcases List.mem_append.1 hy with hy | hy
    · exact h.back y hy
    · have e := List.eq_of_mem_replicate hy
      subst e
      exact ⟨h.ar, Nat.le_refl _⟩
  · refine List.pairwise_append.2 ⟨h.border, List.pairwise_replicate.2 (.inr (Nat.le_refl _)), ?_⟩
    intro x hx y hy
    have e := List.eq_of_mem_replicate hy
    subst e
    exact (h.back x hx).2

/-- An acknowledgment is valid, and acknowledges what its number says. -/
theorem Inv.count {W : Nat} {s : St} {y : Nat × Bool} {pt : List (Nat × Nat)} {pb : List (Nat × Bool)} (h : Inv W s pt (y :: pb)) (hW : W ≤ 128) :
    ((y.1 % 256 : Nat) - ((s.A : Nat) : Int) % 256 + 256) % 256 = ((y.1 - s.A : Nat) : Int) ∧ s.A ≤ y.1 ∧ y.1 ≤ s.H := by
  have h1 := h.back y (List.mem_cons_self ..)
  have := h.rh; have := h.ht; have := h.tw
  omega

/-- What an acknowledgment does. -/
def ack (s : St) (y : Nat × Bool) : St :=
  { s with A := y.1, N := if y.2 then y.1 else max s.N y.1, S := if y.2 = true ∨ y.1 ≠ s.A then 0 else s.S }

theorem Inv.ack {W : Nat} {s : St} {y : Nat × Bool} {pt : List (Nat × Nat)} {pb : List (Nat × Bool)} (h : Inv W s pt (y :: pb)) : Inv W (ack s y) pt pb := by
  have h1 := h.back y (List.mem_cons_self ..)
  have ho := List.pairwise_cons.1 h.border
  have a1 := h.rh; have a2 := h.ht; have a3 := h.tw; have a4 := h.an; have a5 := h.nh
  refine ⟨h1.2, h.rh, h.ht, (by show s.T ≤ y.1 + W; omega), ?_, ?_, h.there, h.order, fun z hz => ⟨ho.1 z hz, (h.back z (List.mem_cons_of_mem _ hz)).2⟩, ho.2⟩
  · show y.1 ≤ if y.2 then y.1 else max s.N y.1
    split <;> omega
  · show (if y.2 then y.1 else max s.N y.1) ≤ s.H
    split <;> omega

end Talk
end Go.Proofs.Ytfpicobjnpjhlaa
