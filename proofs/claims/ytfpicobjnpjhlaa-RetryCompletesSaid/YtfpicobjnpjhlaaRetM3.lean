/- Mathematics of a conversation, its end: when nothing is lost any more, everything is accepted and acknowledged. -/
import Derived.Test.YtfpicobjnpjhlaaRetM2
namespace Go.Proofs.Ytfpicobjnpjhlaa
namespace Talk

/-- A conversation: its window, timeout, delay, Naks; in which turn how much is offered, and how often it arrives there and back. -/
structure Par where
  W : Nat
  τ : Nat
  d : Nat
  nk : Bool
  o : Nat → Nat
  n : Nat → Nat
  m : Nat → Nat
def run (p : Par) : Nat → Run
  | 0 => ⟨⟨0, 0, 0, 0, 0, 0⟩, [], []⟩
  | t + 1 => turn p.W p.τ p.d p.nk (p.o t) (p.n t) (p.m t) (run p t)
/-- The sender behind its tick. -/
def mid (p : Par) (t : Nat) : St × Option Nat := tick p.τ (offers p.W (run p t).s (p.o t))
/-- Both ends behind what arrived there. -/
def got (p : Par) (t : Nat) : St × Bool := (pop p.d ((run p t).ht ++ [out (mid p t).1 (mid p t).2 (p.n t)])).foldl recv ((mid p t).1, false)
theorem run_ht (p : Par) (t : Nat) : (run p (t + 1)).ht = (run p t).ht ++ [out (mid p t).1 (mid p t).2 (p.n t)] := rfl
theorem run_hb (p : Par) (t : Nat) : (run p (t + 1)).hb = (run p t).hb ++ [List.replicate (p.m t) ((got p t).1.R, (got p t).2 && p.nk)] := rfl
theorem run_s (p : Par) (t : Nat) : (run p (t + 1)).s = (pop p.d (run p (t + 1)).hb).foldl ack (got p t).1 := rfl
theorem run_ok (p : Par) (t : Nat) : (run p t).Ok p.W p.d := by
  induction t with
  | zero =>
    show Inv p.W ⟨0, 0, 0, 0, 0, 0⟩ (pend p.d []) (pend p.d [])
    simp only [pend, List.drop_nil, List.flatten_nil]
    exact Inv.start p.W
  | succ t ih => exact ih.turn _ _ _
theorem ht_len (p : Par) (t : Nat) : (run p t).ht.length = t := by
  induction t with
  | zero => rfl
  | succ t ih => rw [run_ht, List.length_append, ih]; rfl
theorem hb_len (p : Par) (t : Nat) : (run p t).hb.length = t := by
  induction t with
  | zero => rfl
  | succ t ih => rw [run_hb, List.length_append, ih]; rfl
theorem ht_at (p : Par) (t i : Nat) (hi : i < t) : (run p t).ht.getD i [] = out (mid p i).1 (mid p i).2 (p.n i) := by
  induction t with
  | zero => omega
  | succ t ih =>
    rw [run_ht, List.getD_eq_getElem?_getD]
    by_cases h : i < t
    · rw [List.getElem?_append_left (by rw [ht_len]; exact h), ← List.getD_eq_getElem?_getD, ih h]
    · have : i = t := by omega
      subst this
      rw [List.getElem?_append_right (by rw [ht_len]; omega), ht_len]
      simp
theorem hb_at (p : Par) (t i : Nat) (hi : i < t) : (run p t).hb.getD i [] = List.replicate (p.m i) ((got p i).1.R, (got p i).2 && p.nk) := by
  induction t with
  | zero => omega
  | succ t ih =>
    rw [run_hb, List.getD_eq_getElem?_getD]
    by_cases h : i < t
    · rw [List.getElem?_append_left (by rw [hb_len]; exact h), ← List.getD_eq_getElem?_getD, ih h]
    · have : i = t := by omega
      subst this
      rw [List.getElem?_append_right (by rw [hb_len]; omega), hb_len]
      simp
theorem ht_pop (p : Par) (t : Nat) : pop p.d (run p (p.d + t + 1)).ht = out (mid p t).1 (mid p t).2 (p.n t) := by
  unfold pop
  rw [ht_len, if_neg (by omega), show p.d + t + 1 - 1 - p.d = t by omega, ht_at p _ _ (by omega)]
theorem hb_pop (p : Par) (t : Nat) : pop p.d (run p (p.d + t + 1)).hb = List.replicate (p.m t) ((got p t).1.R, (got p t).2 && p.nk) := by
  unfold pop
  rw [hb_len, if_neg (by omega), show p.d + t + 1 - 1 - p.d = t by omega, hb_at p _ _ (by omega)]

theorem recvs_same (l : List (Nat × Nat)) : ∀ x : St × Bool, (l.foldl recv x).1.A = x.1.A ∧ (l.foldl recv x).1.N = x.1.N ∧ (l.foldl recv x).1.H = x.1.H ∧ (l.foldl recv x).1.S = x.1.S ∧ (l.foldl recv x).1.T = x.1.T ∧ x.1.R ≤ (l.foldl recv x).1.R := by
  induction l with
  | nil => intro x; exact ⟨rfl, rfl, rfl, rfl, rfl, Nat.le_refl _⟩
  | cons y l ih =>
    intro x
    have h := ih (recv x y)
    have h2 : (recv x y).1.A = x.1.A ∧ (recv x y).1.N = x.1.N ∧ (recv x y).1.H = x.1.H ∧ (recv x y).1.S = x.1.S ∧ (recv x y).1.T = x.1.T ∧ x.1.R ≤ (recv x y).1.R := by
      unfold recv
      split
      · exact ⟨rfl, rfl, rfl, rfl, rfl, Nat.le_succ _⟩
      · exact ⟨rfl, rfl, rfl, rfl, rfl, Nat.le_refl _⟩
    show ((l.foldl recv (recv x y)).1.A = x.1.A ∧ _)
    simp only [List.foldl_cons]
    omega
theorem acks_same (l : List (Nat × Bool)) : ∀ s : St, (l.foldl ack s).T = s.T ∧ (l.foldl ack s).R = s.R ∧ (l.foldl ack s).H = s.H := by
  induction l with
  | nil => intro s; exact ⟨rfl, rfl, rfl⟩
  | cons y l ih => intro s; exact ih (ack s y)
theorem tick_same (τ : Nat) (s : St) : (tick τ s).1.A = s.A ∧ (tick τ s).1.T = s.T ∧ (tick τ s).1.R = s.R := by
  unfold tick
  repeat' split
  all_goals exact ⟨rfl, rfl, rfl⟩
theorem offers_same (W : Nat) (s : St) (n : Nat) : (offers W s n).A = s.A ∧ (offers W s n).R = s.R ∧ s.T ≤ (offers W s n).T := by
  induction n with
  | zero => exact ⟨rfl, rfl, Nat.le_refl _⟩
  | succ n ih =>
    show (offer W (offers W s n)).A = s.A ∧ (offer W (offers W s n)).R = s.R ∧ s.T ≤ (offer W (offers W s n)).T
    unfold offer
    split
    · exact ⟨ih.1, ih.2.1, Nat.le_succ_of_le ih.2.2⟩
    · exact ih
theorem got_R (p : Par) (t : Nat) : (got p t).1.R = (run p (t + 1)).s.R := by rw [run_s]; exact ((acks_same _ _).2.1).symm
theorem run_R (p : Par) (t : Nat) : (run p t).s.R ≤ (run p (t + 1)).s.R := by
  rw [← got_R]
  have h := (recvs_same (pop p.d ((run p t).ht ++ [out (mid p t).1 (mid p t).2 (p.n t)])) ((mid p t).1, false)).2.2.2.2.2
  have h2 : (mid p t).1.R = (run p t).s.R := by unfold mid; rw [(tick_same _ _).2.2, (offers_same _ _ _).2.1]
  exact h2 ▸ h
theorem run_R_le (p : Par) (t k : Nat) : (run p t).s.R ≤ (run p (t + k)).s.R := by
  induction k with
  | zero => exact Nat.le_refl _
  | succ k ih => exact Nat.le_trans ih (run_R p (t + k))
theorem run_T (p : Par) (t : Nat) (h : p.o t = 0) : (run p (t + 1)).s.T = (run p t).s.T := by
  rw [run_s, (acks_same _ _).1]
  have h1 := (recvs_same (pop p.d ((run p t).ht ++ [out (mid p t).1 (mid p t).2 (p.n t)])) ((mid p t).1, false)).2.2.2.2.1
  have h2 : (mid p t).1.T = (run p t).s.T := by unfold mid; rw [(tick_same _ _).2.1, h]; rfl
  exact h1.trans h2
/-- What is acknowledged is what was expected d turns ago. -/
theorem run_A (p : Par) (t : Nat) (h : p.m t = 1) : (run p (p.d + t + 1)).s.A = (run p (t + 1)).s.R := by
  rw [run_s, hb_pop, h, ← got_R]
  rfl
/-- A packet that was sent d turns ago, and is expected, is accepted. -/
theorem run_got (p : Par) (t i : Nat) (h : p.n t = 1) (hs : (mid p t).2 = some i) (hi : i = (run p (p.d + t)).s.R) : (run p (p.d + t + 1)).s.R = (run p (p.d + t)).s.R + 1 := by
  rw [← got_R]
  have h1 : (run p (p.d + t)).ht ++ [out (mid p (p.d + t)).1 (mid p (p.d + t)).2 (p.n (p.d + t))] = (run p (p.d + t + 1)).ht := rfl
  have h2 : (mid p (p.d + t)).1.R = (run p (p.d + t)).s.R := by unfold mid; rw [(tick_same _ _).2.2, (offers_same _ _ _).2.1]
  unfold got
  rw [h1, ht_pop, hs, h]
  show (recv ((mid p (p.d + t)).1, false) (i, _)).1.R = _
  unfold recv
  rw [if_pos (by rw [h2]; exact hi), ← h2]

/-- How long it takes at most until the oldest kept packet is sent. -/
def wait (τ : Nat) (s : St) : Nat := if s.N < s.T then s.T - s.N + τ else τ - s.S
/-- One turn in which nothing new is acknowledged: the oldest packet is sent, or is about to be, or the time until then is shorter. -/
theorem turn_wait (p : Par) (t : Nat) (ho : p.o (p.d + t) = 0) (hm : p.m t = 1) (hA : (run p (p.d + t + 1)).s.A = (run p (p.d + t)).s.A) (hT : (run p (p.d + t)).s.A < (run p (p.d + t)).s.T) :
    (mid p (p.d + t)).2 = some (run p (p.d + t)).s.A ∨ (run p (p.d + t + 1)).s.N = (run p (p.d + t)).s.A ∨ wait p.τ (run p (p.d + t + 1)).s < wait p.τ (run p (p.d + t)).s := by
  have hI := run_ok p (p.d + t)
  have e : mid p (p.d + t) = tick p.τ (run p (p.d + t)).s := by unfold mid; rw [ho]; rfl
  have hs := run_s p (p.d + t)
  rw [hb_pop, hm] at hs
  have hg := recvs_same (pop p.d ((run p (p.d + t)).ht ++ [out (mid p (p.d + t)).1 (mid p (p.d + t)).2 (p.n (p.d + t))])) ((mid p (p.d + t)).1, false)
  have hg : (got p (p.d + t)).1.A = (mid p (p.d + t)).1.A ∧ (got p (p.d + t)).1.N = (mid p (p.d + t)).1.N ∧ (got p (p.d + t)).1.H = (mid p (p.d + t)).1.H ∧ (got p (p.d + t)).1.S = (mid p (p.d + t)).1.S ∧ (got p (p.d + t)).1.T = (mid p (p.d + t)).1.T ∧ _ := hg
  obtain ⟨g1, g2, -, g4, g5, -⟩ := hg
  have hs : (run p (p.d + t + 1)).s = ack (got p (p.d + t)).1 ((got p t).1.R, (got p t).2 && p.nk) := hs
  have hA1 : (run p (p.d + t + 1)).s.A = (got p t).1.R := by rw [hs]; rfl
  have hN1 : (run p (p.d + t + 1)).s.N = if ((got p t).2 && p.nk) = true then (got p t).1.R else max (got p (p.d + t)).1.N (got p t).1.R := by rw [hs]; rfl
  have hT1 : (run p (p.d + t + 1)).s.T = (got p (p.d + t)).1.T := by rw [hs]; rfl
  have hS1 : (run p (p.d + t + 1)).s.S = if ((got p t).2 && p.nk) = true ∨ (got p t).1.R ≠ (got p (p.d + t)).1.A then 0 else (got p (p.d + t)).1.S := by rw [hs]; rfl
  rw [hA] at hA1
  have hAN := hI.an
  generalize run p (p.d + t) = r at *
  generalize run p (p.d + t + 1) = r2 at *
  generalize got p (p.d + t) = g at *
  generalize (got p t).1.R = R at *
  by_cases hb : ((got p t).2 && p.nk) = true
  · rw [if_pos hb] at hN1
    exact .inr (.inl (by omega))
  · rw [if_neg hb] at hN1
    have hS1 : r2.s.S = g.1.S := by
      rw [hS1, if_neg]
      rintro (h | h)
      · exact hb h
      · have := (tick_same p.τ r.s).1
        rw [← e] at this
        omega
    have hta := (tick_same p.τ r.s)
    rw [e] at g1 g2 g4 g5 ⊢
    unfold wait
    unfold tick at g1 g2 g4 g5 hta ⊢
    by_cases h1 : r.s.N < r.s.T
    · rw [if_pos h1] at g1 g2 g4 g5 ⊢
      simp only at g1 g2 g4 g5 ⊢
      right; right
      rw [if_pos h1]
      split <;> omega
    · rw [if_neg h1, if_neg (show ¬ r.s.T = r.s.A by omega)] at g1 g2 g4 g5 ⊢
      by_cases h2 : r.s.S + 1 < p.τ
      · rw [if_pos h2] at g1 g2 g4 g5 ⊢
        simp only at g1 g2 g4 g5 ⊢
        right; right
        rw [if_neg h1]
        split <;> omega
      · rw [if_neg h2]
        exact .inl rfl

/-- The oldest packet is sent before long. -/
theorem sent_soon (p : Par) (r K : Nat) : ∀ (w t : Nat), (∀ j, j ≤ w + 1 → p.o (p.d + t + j) = 0 ∧ p.m (t + j) = 1 ∧ (run p (p.d + t + j)).s.A = r ∧ (run p (p.d + t + j)).s.T = K) → r < K →
    (wait p.τ (run p (p.d + t)).s ≤ w ∨ ((run p (p.d + t)).s.N = r)) → ∃ j, j ≤ w + 1 ∧ (mid p (p.d + t + j)).2 = some r := by
  have now : ∀ t, p.o (p.d + t) = 0 → (run p (p.d + t)).s.T = K → r < K → (run p (p.d + t)).s.N = r → (mid p (p.d + t)).2 = some r := by
    intro t h0 hT hr hN
    unfold mid
    rw [h0]
    show (tick p.τ (run p (p.d + t)).s).2 = some r
    unfold tick
    rw [if_pos (by omega), hN]
  intro w
  induction w with
  | zero =>
    intro t h hr hw
    have a0 := h 0 (by omega)
    have a1 := h 1 (by omega)
    rcases hw with hw | hw
    · simp only [Nat.add_zero] at a0
      have hx := turn_wait p t a0.1 a0.2.1 (a1.2.2.1.trans a0.2.2.1.symm) (by rw [a0.2.2.1, a0.2.2.2]; exact hr)
      rw [a0.2.2.1] at hx
      rcases hx with hx | hx | hx
      · exact ⟨0, by omega, hx⟩
      · refine ⟨1, by omega, ?_⟩
        have := now (t + 1) a1.1 a1.2.2.2 hr hx
        exact this
      · omega
    · exact ⟨0, by omega, now t a0.1 a0.2.2.2 hr hw⟩
  | succ w ih =>
    intro t h hr hw
    have a0 := h 0 (by omega)
    have a1 := h 1 (by omega)
    rcases hw with hw | hw
    · simp only [Nat.add_zero] at a0
      have hx := turn_wait p t a0.1 a0.2.1 (a1.2.2.1.trans a0.2.2.1.symm) (by rw [a0.2.2.1, a0.2.2.2]; exact hr)
      rw [a0.2.2.1] at hx
      rcases hx with hx | hx
      · exact ⟨0, by omega, hx⟩
      · have h2 : wait p.τ (run p (p.d + (t + 1))).s ≤ w ∨ (run p (p.d + (t + 1))).s.N = r := by
          rcases hx with hx | hx
          · exact .inr hx
          · exact .inl (by show wait p.τ (run p (p.d + t + 1)).s ≤ w; omega)
        obtain ⟨j, hj, hs⟩ := ih (t + 1) (fun j hj => by
          have := h (j + 1) (by omega)
          rw [show p.d + (t + 1) + j = p.d + t + (j + 1) by omega, show t + 1 + j = t + (j + 1) by omega]
          exact this) hr h2
        exact ⟨j + 1, by omega, by rw [show p.d + t + (j + 1) = p.d + (t + 1) + j by omega]; exact hs⟩
    · exact ⟨0, by omega, now t a0.1 a0.2.2.2 hr hw⟩

/-- From the turn b on nothing new is offered, and everything arrives once. -/
def Calm (p : Par) (b : Nat) : Prop := ∀ t, b ≤ t → p.o t = 0 ∧ p.n t = 1 ∧ p.m t = 1
theorem Calm.T {p : Par} {b : Nat} (h : Calm p b) (t : Nat) (ht : b ≤ t) (k : Nat) : (run p (t + k)).s.T = (run p t).s.T := by
  induction k with
  | zero => rfl
  | succ k ih => exact (run_T p (t + k) (h (t + k) (by omega)).1).trans ih
/-- Within so many turns the next packet is accepted. -/
theorem Calm.next {p : Par} {b : Nat} (h : Calm p b) (t : Nat) (ht : b ≤ t) (hr : (run p t).s.R < (run p t).s.T) : (run p t).s.R < (run p (t + (2 * p.d + p.W + p.τ + 3))).s.R := by
  obtain ⟨r, hR⟩ : ∃ r, (run p t).s.R = r := ⟨_, rfl⟩
  obtain ⟨K, hK⟩ : ∃ K, (run p t).s.T = K := ⟨_, rfl⟩
  rw [hR, hK] at hr
  rw [hR]
  refine Classical.byContradiction fun hn => ?_
  have hle : ∀ j k, j ≤ k → (run p (t + j)).s.R ≤ (run p (t + k)).s.R := by
    intro j k hjk
    have := run_R_le p (t + j) (k - j)
    rwa [show t + j + (k - j) = t + k by omega] at this
  have hc : ∀ j, j ≤ 2 * p.d + p.W + p.τ + 3 → (run p (t + j)).s.R = r := by
    intro j hj
    have h1 := hle 0 j (by omega)
    have h2 := hle j _ hj
    rw [Nat.add_zero, hR] at h1
    omega
  have hA : ∀ j, j ≤ 2 * p.d + p.W + p.τ + 2 → (run p (p.d + (t + 1) + j)).s.A = r := by
    intro j hj
    have h1 := run_A p (t + j) (h _ (by omega)).2.2
    rw [show p.d + (t + j) + 1 = p.d + (t + 1) + j by omega] at h1
    rw [h1, show t + j + 1 = t + (j + 1) by omega]
    exact hc (j + 1) (by omega)
  have hT : ∀ j, (run p (p.d + (t + 1) + j)).s.T = K := by
    intro j
    rw [show p.d + (t + 1) + j = t + (p.d + 1 + j) by omega, h.T t ht, hK]
  have hI := run_ok p (p.d + (t + 1))
  have hA0 := hA 0 (by omega)
  have hT0 := hT 0
  rw [Nat.add_zero] at hA0 hT0
  have hw : wait p.τ (run p (p.d + (t + 1))).s ≤ p.W + p.τ := by
    have h1 := hI.tw
    have h2 := hI.an
    unfold wait
    split <;> omega
  obtain ⟨j, hj, hs⟩ := sent_soon p r K (p.W + p.τ) (t + 1) (fun j hj => ⟨(h _ (by omega)).1, (h _ (by omega)).2.2, hA j (by omega), hT j⟩) hr (.inl hw)
  have hg := run_got p (p.d + (t + 1) + j) r (h _ (by omega)).2.1 hs
  rw [show p.d + (p.d + (t + 1) + j) + 1 = t + (2 * p.d + 2 + j) by omega, show p.d + (p.d + (t + 1) + j) = t + (2 * p.d + 1 + j) by omega, hc _ (by omega), hc _ (by omega)] at hg
  have := hg rfl
  omega
theorem Calm.most {p : Par} {b : Nat} (h : Calm p b) (k : Nat) : (run p b).s.T ≤ (run p (b + k * (2 * p.d + p.W + p.τ + 3))).s.R ∨ (run p b).s.R + k ≤ (run p (b + k * (2 * p.d + p.W + p.τ + 3))).s.R := by
  induction k with
  | zero => right; rw [Nat.zero_mul]; exact Nat.le_refl _
  | succ k ih =>
    rw [Nat.succ_mul, ← Nat.add_assoc]
    generalize hq : k * (2 * p.d + p.W + p.τ + 3) = q at ih ⊢
    have hT := h.T b (Nat.le_refl _) q
    have h1 := run_R_le p (b + q) (2 * p.d + p.W + p.τ + 3)
    rcases Nat.lt_or_ge (run p (b + q)).s.R (run p (b + q)).s.T with hl | hl
    · have := h.next (b + q) (by omega) hl
      omega
    · left; omega
/-- In the end everything that was offered is accepted and acknowledged. -/
theorem Calm.ends {p : Par} {b : Nat} (h : Calm p b) (t : Nat) (ht : b + p.W * (2 * p.d + p.W + p.τ + 3) + p.d + 1 ≤ t) :
    (run p t).s.R = (run p t).s.T ∧ (run p t).s.A = (run p t).s.T := by
  obtain ⟨q, hq⟩ : ∃ q, p.W * (2 * p.d + p.W + p.τ + 3) = q := ⟨_, rfl⟩
  have hm := h.most p.W
  rw [hq] at hm ht
  have hb := run_ok p b
  have b1 := hb.ar; have b2 := hb.tw
  have all : ∀ u, b + q ≤ u → (run p u).s.R = (run p u).s.T := by
    intro u hu
    have hI := run_ok p u
    have i1 := hI.rh; have i2 := hI.ht
    have hR := run_R_le p (b + q) (u - (b + q))
    rw [show b + q + (u - (b + q)) = u by omega] at hR
    have hT := h.T b (Nat.le_refl _) (u - b)
    rw [show b + (u - b) = u by omega] at hT
    omega
  refine ⟨all t (by omega), ?_⟩
  have hA := run_A p (t - p.d - 1) (h _ (by omega)).2.2
  rw [show p.d + (t - p.d - 1) + 1 = t by omega] at hA
  rw [hA, all _ (by omega)]
  have h1 := h.T b (Nat.le_refl _) (t - p.d - 1 + 1 - b)
  have h2 := h.T b (Nat.le_refl _) (t - b)
  rw [show b + (t - p.d - 1 + 1 - b) = t - p.d - 1 + 1 by omega] at h1
  rw [show b + (t - b) = t by omega] at h2
  rw [h1, h2]

end Talk
end Go.Proofs.Ytfpicobjnpjhlaa
