/- Mathematics of a conversation, continued: one turn of it, all that is on the way, and what holds from turn to turn. -/
import Derived.Test.YtfpicobjnpjhlaaRetM
namespace Go.Proofs.Ytfpicobjnpjhlaa
namespace Talk

/-- One packet is offered; it is taken if the window is not full. -/
def offer (W : Nat) (s : St) : St := if s.T - s.A < W then { s with T := s.T + 1 } else s
def offers (W : Nat) (s : St) : Nat → St
  | 0 => s
  | n + 1 => offer W (offers W s n)
/-- A tick, and the packet that it sends. -/
def tick (τ : Nat) (s : St) : St × Option Nat :=
  if s.N < s.T then ({ s with N := s.N + 1, H := max s.H (s.N + 1), S := 0 }, some s.N)
  else if s.T = s.A then (s, none)
  else if s.S + 1 < τ then ({ s with S := s.S + 1 }, none)
  else ({ s with N := s.A + 1, H := max s.H (s.A + 1), S := 0 }, some s.A)
/-- What is put on the way there. -/
def out (s : St) (o : Option Nat) (n : Nat) : List (Nat × Nat) :=
  match o with
  | none => []
  | some i => List.replicate n (i, s.H)
/-- Something arrives at the receiver; whether something was refused. -/
def recv (s : St × Bool) (x : Nat × Nat) : St × Bool := if x.1 = s.1.R then ({ s.1 with R := s.1.R + 1 }, s.2) else (s.1, true)
/-- What was put in d turns ago, behind the last putting in. -/
def pop {α : Type} (d : Nat) (h : List (List α)) : List α := if h.length ≤ d then [] else h.getD (h.length - 1 - d) []
/-- What is on the way. -/
def pend {α : Type} (d : Nat) (h : List (List α)) : List α := (h.drop (h.length - d)).flatten
theorem pend_push {α : Type} (d : Nat) (h : List (List α)) (x : List α) : pend d h ++ x = pop d (h ++ [x]) ++ pend d (h ++ [x]) := by
  unfold pend pop
  by_cases hd : (h ++ [x]).length ≤ d
  · have h1 : h.length + 1 ≤ d := by simpa using hd
    rw [if_pos hd, show h.length - d = 0 by omega, show (h ++ [x]).length - d = 0 by omega]
    simp
  · have h1 : d < h.length + 1 := by simpa using hd
    rw [if_neg hd]
    have hl : (h ++ [x]).length = h.length + 1 := by simp
    rw [hl, show h.length + 1 - 1 - d = h.length - d by omega, show h.length + 1 - d = h.length - d + 1 by omega]
    have h2 : h.drop (h.length - d) ++ [x] = (h ++ [x]).drop (h.length - d) := by rw [List.drop_append_of_le_length (by omega)]
    have h3 : (h ++ [x]).drop (h.length - d) = (h ++ [x]).getD (h.length - d) [] :: (h ++ [x]).drop (h.length - d + 1) := by
      rw [List.drop_eq_getElem_cons (by rw [hl]; omega), List.getD_eq_getElem?_getD, List.getElem?_eq_getElem (by rw [hl]; omega)]
      rfl
    have h4 : (h.drop (h.length - d)).flatten ++ x = (h.drop (h.length - d) ++ [x]).flatten := by simp
    rw [h4, h2, h3]
    rfl

/-- A conversation between two turns: the two ends, and all that was ever put on the way. -/
structure Run where
  s : St
  ht : List (List (Nat × Nat))
  hb : List (List (Nat × Bool))
/-- One turn: so many offers; so often arrives what is sent there, and back; whether there are Naks. -/
def turn (W τ d : Nat) (nk : Bool) (o n m : Nat) (r : Run) : Run :=
  let s2 := tick τ (offers W r.s o)
  let ht := r.ht ++ [out s2.1 s2.2 n]
  let s3 := (pop d ht).foldl recv (s2.1, false)
  let hb := r.hb ++ [List.replicate m (s3.1.R, s3.2 && nk)]
  ⟨(pop d hb).foldl ack s3.1, ht, hb⟩

theorem Inv.offer_any {W : Nat} {s : St} {pt : List (Nat × Nat)} {pb : List (Nat × Bool)} (h : Inv W s pt pb) : Inv W (Talk.offer W s) pt pb := by
  unfold Talk.offer
  split
  · next hw => exact h.offer hw
  · exact h
theorem Inv.offers {W : Nat} {s : St} {pt : List (Nat × Nat)} {pb : List (Nat × Bool)} (h : Inv W s pt pb) (n : Nat) : Inv W (Talk.offers W s n) pt pb := by
  induction n with
  | zero => exact h
  | succ n ih => exact ih.offer_any
theorem Inv.tick {W τ : Nat} {s : St} {pt : List (Nat × Nat)} {pb : List (Nat × Bool)} (h : Inv W s pt pb) (n : Nat) : Inv W (Talk.tick τ s).1 (pt ++ out (Talk.tick τ s).1 (Talk.tick τ s).2 n) pb := by
  have a1 := h.ar; have a2 := h.rh; have a3 := h.ht; have a4 := h.tw; have a5 := h.an; have a6 := h.nh
  unfold Talk.tick
  split
  · exact h.send s.N 0 n a5 a6 (by assumption)
  · split
    · simpa [out] using h
    · split
      · have := h.silent (s.S + 1)
        simpa [out] using this
      · exact h.send s.A 0 n (Nat.le_refl _) (by omega) (by omega)
theorem Inv.recv {W : Nat} {s : St} {f : Bool} {x : Nat × Nat} {pt : List (Nat × Nat)} {pb : List (Nat × Bool)} (h : Inv W s (x :: pt) pb) : Inv W (Talk.recv (s, f) x).1 pt pb := by
  unfold Talk.recv
  split
  · next hx => exact h.accept hx
  · exact h.refuse
theorem Inv.recvs {W : Nat} {pt : List (Nat × Nat)} {pb : List (Nat × Bool)} (l : List (Nat × Nat)) : ∀ {s : St} {f : Bool}, Inv W s (l ++ pt) pb → Inv W (l.foldl Talk.recv (s, f)).1 pt pb := by
  induction l with
  | nil => exact fun h => h
  | cons x l ih =>
    intro s f h
    have h1 := Inv.recv (f := f) h
    show Inv W (l.foldl Talk.recv (Talk.recv (s, f) x)).1 pt pb
    exact ih (s := (Talk.recv (s, f) x).1) (f := (Talk.recv (s, f) x).2) h1
theorem Inv.acks {W : Nat} {pt : List (Nat × Nat)} {pb : List (Nat × Bool)} (l : List (Nat × Bool)) : ∀ {s : St}, Inv W s pt (l ++ pb) → Inv W (l.foldl Talk.ack s) pt pb := by
  induction l with
  | nil => exact fun h => h
  | cons x l ih => exact fun h => ih (Inv.ack h)

/-- What holds between two turns. -/
def Run.Ok (W d : Nat) (r : Run) : Prop := Inv W r.s (pend d r.ht) (pend d r.hb)
theorem Run.Ok.turn {W τ d : Nat} {nk : Bool} {r : Run} (h : r.Ok W d) (o n m : Nat) : (Talk.turn W τ d nk o n m r).Ok W d := by
  unfold Run.Ok at h ⊢
  have h1 := (h.offers o).tick (τ := τ) n
  rw [pend_push] at h1
  have h2 := Inv.recvs (f := false) _ h1
  have h3 := h2.answer m (((pop d (r.ht ++ [out (Talk.tick τ (Talk.offers W r.s o)).1 (Talk.tick τ (Talk.offers W r.s o)).2 n])).foldl Talk.recv ((Talk.tick τ (Talk.offers W r.s o)).1, false)).2 && nk)
  rw [pend_push] at h3
  exact Inv.acks _ h3

end Talk
end Go.Proofs.Ytfpicobjnpjhlaa
