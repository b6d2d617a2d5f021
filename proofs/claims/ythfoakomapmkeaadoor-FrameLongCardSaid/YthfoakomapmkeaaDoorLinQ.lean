/- The walk of LinecodeFlips. -/
import Derived.Test.YthfoakomapmkeaaDoorLinP
namespace Go.Proofs.YthfoakomapmkeaaDoor
open Go.RowKit

/-- Each symbol of an encoding is a data symbol. -/
theorem enc_sym {xs : List Nat} (hx : ∀ x ∈ xs, x < 256) (j : Nat) (hj : j < 2 * xs.length) : ∃ i < 16, (enc xs).getD j 0 = syms.getD i 0 := by
  have hl := enc_length xs
  have h := enc_ok hx j hj
  refine ⟨idx ((enc xs).getD j 0), h, (syms_of_idx ?_ h).symm⟩
  have : ∀ y ∈ enc xs, y < 256 := by
    intro y hy
    obtain ⟨x, hxm, hy⟩ := List.mem_flatMap.1 hy
    have h1 := hx x hxm
    have a := syms_lt (x / 16) (by omega)
    have b := syms_lt (x % 16) (by omega)
    simp only [List.mem_cons, List.not_mem_nil, or_false] at hy
    rcases hy with rfl | rfl <;> omega
  rw [List.getD_eq_getElem?_getD, List.getElem?_eq_getElem (by omega)]
  exact this _ (List.getElem_mem _)

/-- Decoding an encoding with an inverted bit. -/
theorem decode_flipped (a : Option Addr) (n c k : Nat) (xs : List Nat) (hn : xs.length = n) (hx : ∀ x ∈ xs, x < 256) (hbig : n ≤ 400) (hk : k < 12 * n) (w : World) (hc : In w a (flipS (enc xs) k)) (hT : HasTab w) :
    Calls Tryd.prog 63 #[.slice a (2 * n) c] w fun e w' => e = .returned (.tuple #[.slice none 0 0, .int .i64 ((k / 6 : Nat) : Int), .int .i64 3]) ∧ Below w.heap.size w w' := by
  have hl : (enc xs).length = 2 * n := by rw [enc_length, hn]
  have hq : k / 6 < (enc xs).length := by omega
  have hbad : idx ((flipS (enc xs) k).getD (k / 6) 0) = 20 := by
    rw [flipS_getD hq, if_pos rfl]
    obtain ⟨i, hi, e⟩ := enc_sym hx (k / 6) (by omega)
    rw [e]
    exact flip_bad i (by omega) _ (by omega)
  have hok : ∀ j < 2 * n, j ≠ k / 6 → idx ((flipS (enc xs) k).getD j 0) < 16 := by
    intro j hj hne
    rw [flipS_getD hq, if_neg hne]
    exact enc_ok hx j (by omega)
  refine (decode_any a (2 * n) c _ (by rw [flipS_length, hl]) (flipS_lt (enc_lt hx) hq) (by omega) w hc hT).mono fun e w' h => ?_
  obtain ⟨hb, h⟩ := h
  rcases h with ⟨i, h1, h2, h3, he⟩ | ⟨h2, _⟩ | ⟨h2, _⟩
  · have hik : i = k / 6 := by
      rcases Nat.lt_trichotomy i (k / 6) with h | h | h
      · exact absurd (hok i h1 (by omega)) (by omega)
      · exact h
      · exact absurd (h2 (k / 6) h) (by omega)
    exact ⟨by rw [he, hik], hb⟩
  · exact absurd (h2 (k / 6) (by omega)) (by omega)
  · exact absurd (h2 (k / 6) (by omega)) (by omega)

end Go.Proofs.YthfoakomapmkeaaDoor
