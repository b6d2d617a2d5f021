/- A conversation: what its queues hold, item by item; strings of packets. -/
import Derived.Test.YtfpicobjnpjhlaaRetPb
import Derived.Lib.ConvBytes
namespace Go.Proofs.Ytfpicobjnpjhlaa
open Go.RowKit

namespace Talk
/-- What a queue holds. -/
def lastD {α : Type} (d : Nat) (h : List (List α)) : List (List α) := h.drop (h.length - d)
theorem lastD_len {α : Type} (d : Nat) (h : List (List α)) : (lastD d h).length = min h.length d := by unfold lastD; rw [List.length_drop]; omega
theorem last_push {α : Type} (m : α → It) (d : Nat) (h : List (List α)) (x : List α) :
    carL d ((lastD d h).map (List.map m)) (x.map m) = (lastD d (h ++ [x])).map (List.map m) ∧ carO d ((lastD d h).map (List.map m)) (x.map m) = (pop d (h ++ [x])).map m := by
  have hl := lastD_len d h
  unfold carL carO pop
  rw [List.length_map, hl]
  by_cases hd : h.length < d
  · rw [if_pos (by omega), if_pos (by omega), if_pos (by simp; omega)]
    refine ⟨?_, rfl⟩
    unfold lastD
    rw [show h.length - d = 0 by omega, show (h ++ [x]).length - d = 0 by simp; omega]
    simp
  · rw [if_neg (by omega), if_neg (by omega), if_neg (by simp; omega)]
    have e : (h ++ [x]).drop (h.length - d) = lastD d h ++ [x] := by unfold lastD; rw [List.drop_append_of_le_length (by omega)]
    have e2 : (lastD d h).map (List.map m) ++ [x.map m] = ((h ++ [x]).drop (h.length - d)).map (List.map m) := by rw [e]; simp
    rw [e2]
    constructor
    · unfold lastD
      rw [← List.map_drop, List.drop_drop, show h.length - d + 1 = (h ++ [x]).length - d by simp; omega]
    · have h3 : (h ++ [x]).drop (h.length - d) = (h ++ [x]).getD (h.length - d) [] :: (h ++ [x]).drop (h.length - d + 1) := by
        rw [List.drop_eq_getElem_cons (by simp; omega), List.getD_eq_getElem?_getD, List.getElem?_eq_getElem (by simp; omega)]
        rfl
      rw [h3, show (h ++ [x]).length - 1 - d = h.length - d by simp]
      rfl

/-- There, item by item. -/
def there (p : Par) (t j : Nat) : St × Bool := ((pop p.d (run p (t + 1)).ht).take j).foldl recv ((mid p t).1, false)
theorem there_zero (p : Par) (t : Nat) : there p t 0 = ((mid p t).1, false) := rfl
theorem there_end (p : Par) (t : Nat) : there p t (pop p.d (run p (t + 1)).ht).length = got p t := by unfold there got; rw [List.take_length]; rfl
theorem there_succ (p : Par) (t j : Nat) (hj : j < (pop p.d (run p (t + 1)).ht).length) : there p t (j + 1) = recv (there p t j) ((pop p.d (run p (t + 1)).ht)[j]) := by
  unfold there
  rw [List.take_succ_eq_append_getElem hj, List.foldl_append]
  rfl
theorem mid_inv (p : Par) (t : Nat) : Inv p.W (mid p t).1 (pop p.d (run p (t + 1)).ht ++ pend p.d (run p (t + 1)).ht) (pend p.d (run p t).hb) := by
  have h1 := ((run_ok p t).offers (p.o t)).tick (τ := p.τ) (p.n t)
  rw [pend_push] at h1
  exact h1
theorem there_inv (p : Par) (t j : Nat) : Inv p.W (there p t j).1 ((pop p.d (run p (t + 1)).ht).drop j ++ pend p.d (run p (t + 1)).ht) (pend p.d (run p t).hb) := by
  have h1 := mid_inv p t
  rw [← List.take_append_drop j (pop p.d (run p (t + 1)).ht), List.append_assoc] at h1
  exact Inv.recvs (f := false) _ h1
theorem there_number (p : Par) (t j : Nat) (hW : p.W ≤ 128) (hj : j < (pop p.d (run p (t + 1)).ht).length) : ((pop p.d (run p (t + 1)).ht)[j].1 % 256 = (there p t j).1.R % 256 ↔ (pop p.d (run p (t + 1)).ht)[j].1 = (there p t j).1.R) := by
  have h1 := there_inv p t j
  rw [List.drop_eq_getElem_cons hj, List.cons_append] at h1
  exact h1.number hW
/-- Back, item by item. -/
def back (p : Par) (t j : Nat) : St := ((pop p.d (run p (t + 1)).hb).take j).foldl ack (got p t).1
theorem back_zero (p : Par) (t : Nat) : back p t 0 = (got p t).1 := rfl
theorem back_end (p : Par) (t : Nat) : back p t (pop p.d (run p (t + 1)).hb).length = (run p (t + 1)).s := by unfold back; rw [List.take_length]; rfl
theorem back_succ (p : Par) (t j : Nat) (hj : j < (pop p.d (run p (t + 1)).hb).length) : back p t (j + 1) = ack (back p t j) ((pop p.d (run p (t + 1)).hb)[j]) := by
  unfold back
  rw [List.take_succ_eq_append_getElem hj, List.foldl_append]
  rfl
theorem back_inv (p : Par) (t j : Nat) : Inv p.W (back p t j) (pend p.d (run p (t + 1)).ht) ((pop p.d (run p (t + 1)).hb).drop j ++ pend p.d (run p (t + 1)).hb) := by
  have h1 := there_inv p t (pop p.d (run p (t + 1)).ht).length
  rw [there_end, List.drop_length, List.nil_append] at h1
  have h2 := h1.answer (p.m t) ((got p t).2 && p.nk)
  rw [pend_push] at h2
  have h3 : Inv p.W (got p t).1 (pend p.d (run p (t + 1)).ht) (pop p.d (run p (t + 1)).hb ++ pend p.d (run p (t + 1)).hb) := h2
  rw [← List.take_append_drop j (pop p.d (run p (t + 1)).hb), List.append_assoc] at h3
  exact Inv.acks _ h3
/-- The silence is shorter than the timeout. -/
theorem tick_S {τ : Nat} {s : St} (h : s.S < τ) : (tick τ s).1.S < τ := by
  unfold tick
  split
  · show 0 < τ; omega
  · split
    · exact h
    · split
      · assumption
      · show 0 < τ; omega
theorem offers_S (W : Nat) (s : St) (n : Nat) : (offers W s n).S = s.S := by
  induction n with
  | zero => rfl
  | succ n ih => show (offer W (offers W s n)).S = s.S; unfold offer; split <;> exact ih
theorem ack_S {τ : Nat} {s : St} (y : Nat × Bool) (h : s.S < τ) : (ack s y).S < τ := by
  show (if y.2 = true ∨ y.1 ≠ s.A then 0 else s.S) < τ
  split
  · omega
  · exact h
theorem acks_S {τ : Nat} (l : List (Nat × Bool)) : ∀ s : St, s.S < τ → (l.foldl ack s).S < τ := by
  induction l with
  | nil => exact fun s h => h
  | cons y l ih => exact fun s h => ih _ (ack_S y h)
theorem there_S {τ : Nat} (p : Par) (t j : Nat) (h : (mid p t).1.S < τ) : (there p t j).1.S < τ := by
  unfold there
  rw [(recvs_same _ _).2.2.2.1]; exact h
theorem run_S (p : Par) (hτ : 1 ≤ p.τ) (t : Nat) : (run p t).s.S < p.τ := by
  induction t with
  | zero => show 0 < p.τ; omega
  | succ t ih =>
    rw [run_s]
    refine acks_S _ _ ?_
    have h := there_S (τ := p.τ) p t (pop p.d (run p (t + 1)).ht).length (tick_S (by rw [offers_S]; exact ih))
    rwa [there_end] at h
theorem mid_S (p : Par) (hτ : 1 ≤ p.τ) (t : Nat) : (mid p t).1.S < p.τ := tick_S (by rw [offers_S]; exact run_S p hτ t)
theorem back_S (p : Par) (hτ : 1 ≤ p.τ) (t j : Nat) : (back p t j).S < p.τ := by
  refine acks_S _ _ ?_
  have h := there_S (τ := p.τ) p t (pop p.d (run p (t + 1)).ht).length (mid_S p hτ t)
  rwa [there_end] at h
/-- How much is offered. -/
theorem offers_T (W : Nat) (s : St) (n : Nat) : (offers W s n).T ≤ s.T + n := by
  induction n with
  | zero => exact Nat.le_refl _
  | succ n ih =>
    show (offer W (offers W s n)).T ≤ s.T + (n + 1)
    unfold offer
    split
    · show (offers W s n).T + 1 ≤ _; omega
    · omega
theorem back_same (p : Par) (t j : Nat) : (back p t j).T = (offers p.W (run p t).s (p.o t)).T ∧ (back p t j).R = (got p t).1.R := by
  unfold back
  have h := acks_same ((pop p.d (run p (t + 1)).hb).take j) (got p t).1
  have h2 := (recvs_same (pop p.d (run p (t + 1)).ht) ((mid p t).1, false)).2.2.2.2.1
  exact ⟨h.1.trans (h2.trans (tick_same _ _).2.1), h.2.1⟩
theorem there_T (p : Par) (t j : Nat) : (there p t j).1.T = (offers p.W (run p t).s (p.o t)).T := by
  unfold there
  rw [(recvs_same _ _).2.2.2.2.1]; exact (tick_same _ _).2.1
theorem run_T_le (p : Par) (ho : ∀ t, p.o t ≤ 3) (t : Nat) : (run p t).s.T ≤ 3 * t := by
  induction t with
  | zero => exact Nat.le_refl _
  | succ t ih =>
    have h := (back_same p t (pop p.d (run p (t + 1)).hb).length).1
    rw [back_end] at h
    have h2 := offers_T p.W (run p t).s (p.o t)
    have h3 := ho t
    omega
theorem popT_len (p : Par) (t : Nat) (hn : ∀ q, p.n q ≤ 2) : (pop p.d (run p (t + 1)).ht).length ≤ 2 := by
  unfold pop
  split
  · simp
  · rw [ht_len, ht_at p (t + 1) _ (by omega)]
    unfold out
    split
    · simp
    · rw [List.length_replicate]; exact hn _
theorem popB_len (p : Par) (t : Nat) (hm : ∀ q, p.m q ≤ 2) : (pop p.d (run p (t + 1)).hb).length ≤ 2 := by
  unfold pop
  split
  · simp
  · rw [hb_len, hb_at p (t + 1) _ (by omega), List.length_replicate]
    exact hm _
end Talk

def NAK : ByteArray := ⟨#[110, 97, 107]⟩
/-- The items of packets and of answers. -/
def mT (x : Nat × Nat) : It := (x.1 % 256, strOf (dat x.1))
def mB (y : Nat × Bool) : It := (y.1 % 256, if y.2 then NAK else ⟨#[]⟩)
theorem rep_map {α : Type} (m : α → It) (n : Nat) (x : α) : (List.replicate n x).map m = rep n [m x] := by
  unfold rep
  rw [List.map_replicate]
  induction n with
  | zero => rfl
  | succ n ih => rw [List.replicate_succ, List.replicate_succ, List.flatten_cons, ih]; rfl
theorem rep_nil (n : Nat) : rep n [] = [] := by unfold rep; simp
/-- The one-letter strings. -/
theorem enc_small (n : Nat) (h : n < 128) : Utf8.encode (n : Int) = strOf [n] := by
  unfold Utf8.encode strOf strOfNums
  have hv : Utf8.valid (n : Int) = true := by unfold Utf8.valid; simp; omega
  simp [hv, h]
theorem str_two (a b : Nat) : strOf [a] ++ strOf [b] = strOf [a, b] := by
  unfold strOf strOfNums
  apply ByteArray.ext
  rw [ByteArray.data_append]
  simp
theorem strOf_size (xs : List Nat) : (strOf xs).size = xs.length := by unfold strOf; rw [strOfNums_size]; simp
/-- A string's bytes in a fresh row. -/
theorem bytes_new (w : World) (xs : List Nat) (hx : ∀ x ∈ xs, x < 256) : Below w.heap.size w (Lib.bytesWorld w 5 (strOf xs)) ∧ In (Lib.bytesWorld w 5 (strOf xs)) (some ⟨w.heap.size, 0, none⟩) xs := by
  refine ⟨⟨rfl, rfl, rfl, by rw [Lib.bytesWorld_size]; omega, fun k hk => Lib.bytesWorld_at_old _ _ _ _ hk⟩, .inr ⟨_, rfl, fun i hi => ?_⟩⟩
  rw [add_off, Lib.bytesWorld_cell w 5 (strOf xs) i (by rw [strOf_size]; exact hi)]
  have e : (strOf xs).data.toList = xs.map (fun x => UInt8.ofNat x) := by unfold strOf; rw [strOfNums_data, List.map_map]; rfl
  rw [e]
  have h2 := getD_lt hx hi
  simp [List.getD_eq_getElem?_getD, List.getElem?_eq_getElem hi] at h2 ⊢
  omega
theorem dat_lt (i : Nat) : ∀ x ∈ dat i, x < 256 := by
  intro x hx
  simp [dat] at hx
  omega
end Go.Proofs.Ytfpicobjnpjhlaa
