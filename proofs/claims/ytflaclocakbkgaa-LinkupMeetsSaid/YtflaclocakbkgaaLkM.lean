/- Two sides of a link over two ways with a delay: the mathematics of 'both come up'. -/
import Derived.Below
namespace Go.Proofs.Ytflaclocakbkgaa
namespace Meet

/-- A side: its incarnation, its peer's, the greatest seen, the state (0 Down, 1 Greeted, 2 Up), the silent ticks. -/
structure Sd where
  mine : Nat
  peer : Nat
  seen : Nat
  state : Nat
  silent : Nat
def fresh (m : Nat) : Sd := ⟨m, 0, 0, 0, 0⟩
def tick (n : Nat) (s : Sd) : Sd := if s.peer = 0 then s else if n ≤ s.silent + 1 then ⟨s.mine, 0, s.seen, 0, 0⟩ else ⟨s.mine, s.peer, s.seen, s.state, s.silent + 1⟩
def recv (s : Sd) (g : Nat × Nat) : Sd := if g.1 < s.seen then s else ⟨s.mine, g.1, g.1, if g.2 = s.mine then 2 else 1, 0⟩
def rst (r : Bool) (s : Sd) : Sd := if r then fresh (s.mine + 1) else s
def take (s : Sd) : Option (Nat × Nat) → Sd
  | none => s
  | some g => recv s g
def sent (k : Bool) (s : Sd) : Option (Nat × Nat) := if k then some (s.mine, s.peer) else none
/-- What arrives: the entry d before the last one of a history. -/
def arr (d : Nat) (h : List (Option (Nat × Nat))) : Option (Nat × Nat) := if h.length ≤ d then none else (h[h.length - 1 - d]?).getD none
structure Par where
  n : Nat
  d : Nat
  ma : Nat
  mb : Nat
  ra : Nat → Bool
  rb : Nat → Bool
  ka : Nat → Bool
  kb : Nat → Bool
structure Run where
  a : Sd
  b : Sd
  ha : List (Option (Nat × Nat))
  hb : List (Option (Nat × Nat))
def midA (p : Par) (t : Nat) (r : Run) : Sd := tick p.n (rst (p.ra t) r.a)
def midB (p : Par) (t : Nat) (r : Run) : Sd := tick p.n (rst (p.rb t) r.b)
def turn (p : Par) (t : Nat) (r : Run) : Run :=
  let ha := r.ha ++ [sent (p.ka t) (midA p t r)]
  let hb := r.hb ++ [sent (p.kb t) (midB p t r)]
  ⟨take (midA p t r) (arr p.d hb), take (midB p t r) (arr p.d ha), ha, hb⟩
def run (p : Par) : Nat → Run
  | 0 => ⟨fresh p.ma, fresh p.mb, [], []⟩
  | t + 1 => turn p t (run p t)

theorem len (p : Par) : ∀ t, (run p t).ha.length = t ∧ (run p t).hb.length = t
  | 0 => ⟨rfl, rfl⟩
  | t + 1 => by
    have h := len p t
    exact ⟨by show ((run p t).ha ++ [_]).length = t + 1; simp [h.1], by show ((run p t).hb ++ [_]).length = t + 1; simp [h.2]⟩
theorem tick_mine (n : Nat) (s : Sd) : (tick n s).mine = s.mine ∧ (tick n s).seen = s.seen := by
  unfold tick
  split
  · exact ⟨rfl, rfl⟩
  · split <;> exact ⟨rfl, rfl⟩
theorem take_mine (s : Sd) (o : Option (Nat × Nat)) : (take s o).mine = s.mine := by
  cases o with
  | none => rfl
  | some g =>
    show (recv s g).mine = s.mine
    unfold recv
    split <;> rfl
/-- What holds at any time: nothing that is on its way, and nothing seen, is beyond the other's incarnation. -/
structure Ok (r : Run) : Prop where
  sa : r.a.seen ≤ r.b.mine
  sb : r.b.seen ≤ r.a.mine
  ha : ∀ g, some g ∈ r.ha → g.1 ≤ r.a.mine
  hb : ∀ g, some g ∈ r.hb → g.1 ≤ r.b.mine
theorem rst_mine (r : Bool) (s : Sd) : s.mine ≤ (rst r s).mine ∧ (rst r s).seen ≤ s.seen := by
  unfold rst fresh
  split
  · exact ⟨Nat.le_succ _, Nat.zero_le _⟩
  · exact ⟨Nat.le_refl _, Nat.le_refl _⟩
theorem arr_mem {d : Nat} {h : List (Option (Nat × Nat))} {g : Nat × Nat} (e : arr d h = some g) : some g ∈ h := by
  unfold arr at e
  split at e
  · cases e
  · cases hx : h[h.length - 1 - d]? with
    | none => rw [hx] at e; cases e
    | some o =>
      rw [hx] at e
      have e : o = some g := e
      subst e
      exact List.mem_of_getElem? hx
theorem take_seen {s : Sd} {o : Option (Nat × Nat)} {M : Nat} (h1 : s.seen ≤ M) (h2 : ∀ g, o = some g → g.1 ≤ M) : (take s o).seen ≤ M := by
  cases o with
  | none => exact h1
  | some g =>
    show (recv s g).seen ≤ M
    unfold recv
    split
    · exact h1
    · exact h2 g rfl
theorem ok (p : Par) : ∀ t, Ok (run p t)
  | 0 => ⟨Nat.zero_le _, Nat.zero_le _, (fun g h => by cases h), (fun g h => by cases h)⟩
  | t + 1 => by
    have h := ok p t
    obtain ⟨h1, h2, h3, h4⟩ := h
    have ra := rst_mine (p.ra t) (run p t).a
    have rb := rst_mine (p.rb t) (run p t).b
    have ma : (midA p t (run p t)).mine = (rst (p.ra t) (run p t).a).mine := (tick_mine _ _).1
    have mb : (midB p t (run p t)).mine = (rst (p.rb t) (run p t).b).mine := (tick_mine _ _).1
    have sa : (midA p t (run p t)).seen = (rst (p.ra t) (run p t).a).seen := (tick_mine _ _).2
    have sb : (midB p t (run p t)).seen = (rst (p.rb t) (run p t).b).seen := (tick_mine _ _).2
    have ea : (run p (t + 1)).a.mine = (midA p t (run p t)).mine := take_mine _ _
    have eb : (run p (t + 1)).b.mine = (midB p t (run p t)).mine := take_mine _ _
    have HA : ∀ g, some g ∈ (run p (t + 1)).ha → g.1 ≤ (run p (t + 1)).a.mine := by
      intro g hg
      rw [ea]
      have hg : some g ∈ (run p t).ha ++ [sent (p.ka t) (midA p t (run p t))] := hg
      rcases List.mem_append.1 hg with hg | hg
      · have := h3 g hg; omega
      · simp at hg
        unfold sent at hg
        split at hg
        · cases hg; exact Nat.le_refl _
        · cases hg
    have HB : ∀ g, some g ∈ (run p (t + 1)).hb → g.1 ≤ (run p (t + 1)).b.mine := by
      intro g hg
      rw [eb]
      have hg : some g ∈ (run p t).hb ++ [sent (p.kb t) (midB p t (run p t))] := hg
      rcases List.mem_append.1 hg with hg | hg
      · have := h4 g hg; omega
      · simp at hg
        unfold sent at hg
        split at hg
        · cases hg; exact Nat.le_refl _
        · cases hg
    exact ⟨take_seen (by omega) (fun g hg => HB g (arr_mem hg)), take_seen (by omega) (fun g hg => HA g (arr_mem hg)), HA, HB⟩

/-- From the turn L on nothing is lost and nobody restarts. -/
def Calm (p : Par) (L : Nat) : Prop := ∀ t, L ≤ t → p.ra t = false ∧ p.rb t = false ∧ p.ka t = true ∧ p.kb t = true
section
variable {p : Par} {L : Nat}
theorem mine_step (h : Calm p L) (t : Nat) (ht : L ≤ t) : (run p (t + 1)).a.mine = (run p t).a.mine ∧ (run p (t + 1)).b.mine = (run p t).b.mine := by
  obtain ⟨r1, r2, _, _⟩ := h t ht
  refine ⟨(take_mine _ _).trans ((tick_mine _ _).1.trans ?_), (take_mine _ _).trans ((tick_mine _ _).1.trans ?_)⟩
  · rw [r1]; rfl
  · rw [r2]; rfl
theorem mine_same (h : Calm p L) (t : Nat) (ht : L ≤ t) : ∀ k, (run p (t + k)).a.mine = (run p t).a.mine ∧ (run p (t + k)).b.mine = (run p t).b.mine
  | 0 => ⟨rfl, rfl⟩
  | k + 1 => by
    have ih := mine_same h t ht k
    have s := mine_step h (t + k) (by omega)
    exact ⟨s.1.trans ih.1, s.2.trans ih.2⟩
/-- The history's entry of a turn. -/
theorem hist (p : Par) (u : Nat) : ∀ k, (run p (u + 1 + k)).ha[u]? = some (sent (p.ka u) (midA p u (run p u))) ∧ (run p (u + 1 + k)).hb[u]? = some (sent (p.kb u) (midB p u (run p u)))
  | 0 => by
    have l := len p u
    constructor
    · show ((run p u).ha ++ [_])[u]? = _
      rw [List.getElem?_append_right (by omega), l.1]; simp
    · show ((run p u).hb ++ [_])[u]? = _
      rw [List.getElem?_append_right (by omega), l.2]; simp
  | k + 1 => by
    have ih := hist p u k
    have l := len p (u + 1 + k)
    constructor
    · show ((run p (u + 1 + k)).ha ++ [_])[u]? = _
      rw [List.getElem?_append_left (by omega)]; exact ih.1
    · show ((run p (u + 1 + k)).hb ++ [_])[u]? = _
      rw [List.getElem?_append_left (by omega)]; exact ih.2
/-- What arrives at the turn t is what was sent at the turn t - d. -/
theorem arrives (h : Calm p L) (t : Nat) (ht : L + p.d ≤ t) :
    arr p.d (run p (t + 1)).ha = some ((midA p (t - p.d) (run p (t - p.d))).mine, (midA p (t - p.d) (run p (t - p.d))).peer) ∧ arr p.d (run p (t + 1)).hb = some ((midB p (t - p.d) (run p (t - p.d))).mine, (midB p (t - p.d) (run p (t - p.d))).peer) := by
  have l := len p (t + 1)
  obtain ⟨_, _, k1, k2⟩ := h (t - p.d) (by omega)
  have hh := hist p (t - p.d) p.d
  rw [show t - p.d + 1 + p.d = t + 1 by omega] at hh
  unfold arr
  rw [l.1, l.2, if_neg (by omega), if_neg (by omega), show t + 1 - 1 - p.d = t - p.d by omega, hh.1, hh.2, k1, k2]
  exact ⟨rfl, rfl⟩
theorem mid_mine (h : Calm p L) (t : Nat) (ht : L ≤ t) : (midA p t (run p t)).mine = (run p t).a.mine ∧ (midB p t (run p t)).mine = (run p t).b.mine := by
  obtain ⟨r1, r2, _, _⟩ := h t ht
  refine ⟨(tick_mine _ _).1.trans ?_, (tick_mine _ _).1.trans ?_⟩
  · rw [r1]; rfl
  · rw [r2]; rfl
theorem recv_new {s : Sd} {g : Nat × Nat} (h : s.seen ≤ g.1) : recv s g = ⟨s.mine, g.1, g.1, if g.2 = s.mine then 2 else 1, 0⟩ := if_neg (by omega)
/-- Behind the turn t each side has heard the other, and its state says whether the other had heard it. -/
theorem heard (h : Calm p L) (t : Nat) (ht : L + p.d ≤ t) :
    (run p (t + 1)).a = ⟨(run p t).a.mine, (run p t).b.mine, (run p t).b.mine, if (midB p (t - p.d) (run p (t - p.d))).peer = (run p t).a.mine then 2 else 1, 0⟩ ∧ (run p (t + 1)).b = ⟨(run p t).b.mine, (run p t).a.mine, (run p t).a.mine, if (midA p (t - p.d) (run p (t - p.d))).peer = (run p t).b.mine then 2 else 1, 0⟩ := by
  have A := arrives h t ht
  have M := mid_mine h t (by omega)
  have M2 := mid_mine h (t - p.d) (by omega)
  have S := mine_same h (t - p.d) (by omega) p.d
  rw [show t - p.d + p.d = t by omega] at S
  have O := ok p t
  have e1 : (run p (t + 1)).a = take (midA p t (run p t)) (arr p.d (run p (t + 1)).hb) := rfl
  have e2 : (run p (t + 1)).b = take (midB p t (run p t)) (arr p.d (run p (t + 1)).ha) := rfl
  obtain ⟨r1, r2, _, _⟩ := h t (by omega)
  have s1 : (midA p t (run p t)).seen = (run p t).a.seen := (tick_mine _ _).2.trans (by rw [r1]; rfl)
  have s2 : (midB p t (run p t)).seen = (run p t).b.seen := (tick_mine _ _).2.trans (by rw [r2]; rfl)
  have o1 := O.sa
  have o2 := O.sb
  constructor
  · rw [e1, A.2]
    show recv _ _ = _
    rw [recv_new (by show (midA p t (run p t)).seen ≤ (midB p (t - p.d) (run p (t - p.d))).mine; rw [s1, M2.2, ← S.2]; exact o1)]
    simp only [M.1, M2.2, ← S.2]
  · rw [e2, A.1]
    show recv _ _ = _
    rw [recv_new (by show (midB p t (run p t)).seen ≤ (midA p (t - p.d) (run p (t - p.d))).mine; rw [s2, M2.1, ← S.1]; exact o2)]
    simp only [M.2, M2.1, ← S.1]
theorem ma_pos (p : Par) (h1 : 1 ≤ p.ma) (h2 : 1 ≤ p.mb) : ∀ t, 1 ≤ (run p t).a.mine ∧ 1 ≤ (run p t).b.mine
  | 0 => ⟨h1, h2⟩
  | t + 1 => by
    have ih := ma_pos p h1 h2 t
    have ra := rst_mine (p.ra t) (run p t).a
    have rb := rst_mine (p.rb t) (run p t).b
    have e1 : (run p (t + 1)).a.mine = (rst (p.ra t) (run p t).a).mine := (take_mine _ _).trans (tick_mine _ _).1
    have e2 : (run p (t + 1)).b.mine = (rst (p.rb t) (run p t).b).mine := (take_mine _ _).trans (tick_mine _ _).1
    omega
/-- A side that has just heard the other keeps its peer at the next tick. -/
theorem mid_peer (h : Calm p L) (hn : 2 ≤ p.n) (h1 : 1 ≤ p.ma) (h2 : 1 ≤ p.mb) (t : Nat) (ht : L + p.d + 1 ≤ t) :
    (midA p t (run p t)).peer = (run p t).b.mine ∧ (midB p t (run p t)).peer = (run p t).a.mine ∧ (midA p t (run p t)).state = (run p t).a.state ∧ (midB p t (run p t)).state = (run p t).b.state := by
  obtain ⟨u, rfl⟩ : ∃ u, t = u + 1 := ⟨t - 1, by omega⟩
  have H := heard h u (by omega)
  have P := ma_pos p h1 h2 u
  have S := mine_step h u (by omega)
  obtain ⟨r1, r2, _, _⟩ := h (u + 1) (by omega)
  have ea : midA p (u + 1) (run p (u + 1)) = tick p.n (run p (u + 1)).a := by unfold midA; rw [r1]; rfl
  have eb : midB p (u + 1) (run p (u + 1)) = tick p.n (run p (u + 1)).b := by unfold midB; rw [r2]; rfl
  have qa : (run p (u + 1)).a.peer = (run p u).b.mine ∧ (run p (u + 1)).a.silent = 0 := by rw [H.1]; exact ⟨rfl, rfl⟩
  have qb : (run p (u + 1)).b.peer = (run p u).a.mine ∧ (run p (u + 1)).b.silent = 0 := by rw [H.2]; exact ⟨rfl, rfl⟩
  have ta : tick p.n (run p (u + 1)).a = ⟨(run p (u + 1)).a.mine, (run p (u + 1)).a.peer, (run p (u + 1)).a.seen, (run p (u + 1)).a.state, (run p (u + 1)).a.silent + 1⟩ := by
    unfold tick; rw [if_neg (by omega), if_neg (by omega)]
  have tb : tick p.n (run p (u + 1)).b = ⟨(run p (u + 1)).b.mine, (run p (u + 1)).b.peer, (run p (u + 1)).b.seen, (run p (u + 1)).b.state, (run p (u + 1)).b.silent + 1⟩ := by
    unfold tick; rw [if_neg (by omega), if_neg (by omega)]
  rw [ea, eb, ta, tb]
  exact ⟨by show (run p (u + 1)).a.peer = _; omega, by show (run p (u + 1)).b.peer = _; omega, rfl, rfl⟩
/-- Both are Up and know each other. -/
theorem meets (h : Calm p L) (hn : 2 ≤ p.n) (h1 : 1 ≤ p.ma) (h2 : 1 ≤ p.mb) (t : Nat) (ht : L + 2 * p.d + 1 ≤ t) :
    (run p (t + 1)).a.state = 2 ∧ (run p (t + 1)).b.state = 2 ∧ (run p (t + 1)).a.peer = (run p (t + 1)).b.mine ∧ (run p (t + 1)).b.peer = (run p (t + 1)).a.mine := by
  have H := heard h t (by omega)
  have Q := mid_peer h hn h1 h2 (t - p.d) (by omega)
  have S := mine_same h (t - p.d) (by omega) p.d
  rw [show t - p.d + p.d = t by omega] at S
  rw [H.1, H.2]
  refine ⟨if_pos (by rw [Q.2.1, S.1]), if_pos (by rw [Q.1, S.2]), rfl, rfl⟩
end
end Meet
end Go.Proofs.Ytflaclocakbkgaa
