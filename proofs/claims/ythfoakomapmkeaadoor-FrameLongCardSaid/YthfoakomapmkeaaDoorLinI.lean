/- The walk of LinecodeCodes. -/
import Derived.Test.YthfoakomapmkeaaDoorLinH
namespace Go.Proofs.YthfoakomapmkeaaDoor
open Go.RowKit

theorem enc_lt {xs : List Nat} (hx : ∀ x ∈ xs, x < 256) : ∀ y ∈ enc xs, y < 256 := by
  intro y hy
  obtain ⟨x, hxm, hy⟩ := List.mem_flatMap.1 hy
  have h1 := hx x hxm
  have a := syms_lt (x / 16) (by omega)
  have b := syms_lt (x % 16) (by omega)
  simp only [List.mem_cons, List.not_mem_nil, or_false] at hy
  rcases hy with rfl | rfl <;> omega

/-- Decoding an encoding. -/
theorem decode_enc (a : Option Addr) (n c : Nat) (xs : List Nat) (hn : xs.length = n) (hx : ∀ x ∈ xs, x < 256) (hbig : n ≤ 500) (w : World) (hc : In w a (enc xs)) (hT : HasTab w) :
    Calls Tryd.prog 63 #[.slice a (2 * n) c] w fun e w' => ∃ v, e = .returned (.tuple #[v, .int .i64 (-1), .int .i64 0]) ∧ Own w.heap.size w' v n xs ∧ Below w.heap.size w w' := by
  refine (decode_any a (2 * n) c (enc xs) (by rw [enc_length, hn]) (enc_lt hx) (by omega) w hc hT).mono fun e w' h => ?_
  obtain ⟨hb, h⟩ := h
  have hok : okTo (enc xs) (2 * n) := hn ▸ enc_ok hx
  rcases h with ⟨i, h1, _, h2, _⟩ | ⟨_, h2, _⟩ | ⟨_, _, v, he, ho⟩
  · exact absurd (hok i h1) (by omega)
  · omega
  · refine ⟨v, he, ?_, hb⟩
    rw [show 2 * n / 2 = n by omega, ← hn, dec_enc hx, hn] at ho
    exact ho

end Go.Proofs.YthfoakomapmkeaaDoor
