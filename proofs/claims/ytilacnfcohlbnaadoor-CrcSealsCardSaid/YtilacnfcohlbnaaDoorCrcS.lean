/- Bytes as strings; one inverted bit in memory. -/
import Derived.Test.YtilacnfcohlbnaaDoorCrcQ
import Derived.Test.YtilacnfcohlbnaaDoorCrcX
import Derived.Laws.BytesArg
namespace Go.Proofs.YtilacnfcohlbnaaDoor
open Go.RowKit

/-- The string of some bytes. -/
def strOf (xs : List Nat) : ByteArray := strOfNums (xs.map fun x : Nat => (x : Int))
theorem conv_any {w : World} {a : Option Addr} {n c : Nat} {xs : List Nat} (hn : xs.length = n) (h : In w a xs) :
    (convert 22 9 (.slice a n c)).run Tryd.prog w = .ok (.string (strOf xs)) w := by
  by_cases h0 : n = 0
  · subst h0
    obtain rfl := List.length_eq_zero_iff.1 hn
    rw [run_convert_bytes_string w 22 9 _ a 0 c Tryd.underlying22 Tryd.underlying5 Tryd.underlying9]
    cases a <;> simp [Conv.bytesToString, loadCells] <;> rfl
  · rcases h with rfl | ⟨⟨b, off, spot⟩, rfl, hat⟩
    · exact absurd hn.symm h0
    have hspot : spot = none := by simpa [Addr.add] using World.cell?_spot (hat 0 (by omega))
    subst hspot
    have hplain : ∀ j, (⟨b, off, none⟩ : Addr).add j = ⟨b, off + j, none⟩ := fun j => by unfold Addr.add; split <;> simp_all
    refine run_convert_bytes_arg w 22 5 Tryd.underlying22 Tryd.underlying5 b off n c _ (by simpa using hn) (fun i hi => ?_) 9 Tryd.underlying9
    have := hat i (by omega)
    rw [hplain] at this
    rw [this]
    simp [List.getD_eq_getElem?_getD, List.getElem?_eq_getElem (show i < xs.length by omega)]

theorem own_shape {w : World} {base size n : Nat} {e : TypeId} {v : Value} {xs : List Value} (h : w.ownsRow base e size v n xs) (hn : 0 < n) : ∃ g cap, v = .slice (some ⟨g, 0, none⟩) n cap := by
  rcases h.2 with ⟨_, h0⟩ | ⟨g, cap, _, hv, _⟩
  · omega
  · exact ⟨g, cap, hv⟩
theorem own_block {w : World} {base size n : Nat} {e : TypeId} {g cap : Nat} {xs : List Value} (h : w.ownsRow base e size (.slice (some ⟨g, 0, none⟩) n cap) n xs) : base ≤ g ∧ g < w.heap.size ∧ n ≤ cap := by
  rcases h.2 with ⟨h0, _⟩ | ⟨g', cap', cur, hv, hg, hh, hnc, _⟩
  · cases h0
  · cases hv
    exact ⟨hg, (Array.getElem?_eq_some_iff.1 hh).1, hnc⟩
theorem own_in {w : World} {B g m cap : Nat} {zs : List Nat} (hzl : zs.length = m) (h : w.ownsRow B 5 1 (.slice (some ⟨g, 0, none⟩) m cap) m (zs.map nU8)) : In w (some ⟨g, 0, none⟩) zs := by
  refine .inr ⟨_, rfl, fun j hj => ?_⟩
  rw [add_off, h.cellAt j (by omega)]
  simp [List.getD_eq_getElem?_getD, List.getElem?_eq_getElem hj]

/-- What the walk over 'bad[k/8] ^= 1 << (k%8)' asks, and what it leaves. -/
theorem flip_facts {B g m cap : Nat} {wr : World} {zs : List Nat} {k : Nat} (hzo : wr.ownsRow B 5 1 (.slice (some ⟨g, 0, none⟩) m cap) m (zs.map nU8)) (hzl : zs.length = m) (hz : ∀ v ∈ zs, v < 256) (lk : k < 8 * m) :
    ∃ kq kr yv nv : Nat, (k : Int).tdiv 8 = (kq : Int) ∧ (k : Int).tmod 8 = (kr : Int) ∧ kq < m ∧ kr < 8 ∧ wr.cell? ⟨g, kq, none⟩ = some (.int .u8 (yv : Int)) ∧ wr.frozen? ⟨g, kq, none⟩ = false ∧
      bits .xor .u8 (yv : Int) (2 ^ kr % 256) = (nv : Int) ∧ flip zs k = zs.set kq nv ∧ ((wr.setCell ⟨g, kq, none⟩ (nU8 nv)).drew).ownsRow B 5 1 (.slice (some ⟨g, 0, none⟩) m cap) m ((flip zs k).map nU8) := by
  have lkr : k % 8 < 8 := Nat.mod_lt _ (by decide)
  have lyv : zs.getD (k / 8) 0 < 256 := getD_lt hz (by omega)
  have lpw : (2 : Nat) ^ (k % 8) < 256 := Nat.lt_of_lt_of_le (Nat.pow_lt_pow_right (by decide) lkr) (by decide)
  have hxor : bits .xor .u8 ((zs.getD (k / 8) 0 : Nat) : Int) (2 ^ (k % 8) % 256) = ((zs.getD (k / 8) 0 ^^^ 2 ^ (k % 8) : Nat) : Int) := by
    have h := u8_xor_nat (zs.getD (k / 8) 0) (2 ^ (k % 8)) lyv lpw
    have hcast : ((2 ^ (k % 8) : Nat) : Int) = (2 : Int) ^ (k % 8) := Int.natCast_pow 2 (k % 8)
    have h2 : (2 : Int) ^ (k % 8) % 256 = ((2 ^ (k % 8) : Nat) : Int) := by
      rw [hcast]
      exact Int.emod_eq_of_lt (by rw [← hcast]; exact Int.natCast_nonneg _) (by rw [← hcast]; exact Int.ofNat_lt.2 lpw)
    rw [h2]; exact h
  refine ⟨k / 8, k % 8, zs.getD (k / 8) 0, zs.getD (k / 8) 0 ^^^ 2 ^ (k % 8), ?_, ?_, by omega, lkr, ?_, hzo.frozenAt _, hxor, rfl, ?_⟩
  · rw [Int.tdiv_eq_ediv_of_nonneg (by omega)]; push_cast; rfl
  · rw [Int.tmod_eq_emod_of_nonneg (by omega)]; push_cast; rfl
  · rw [hzo.cellAt _ (by omega)]
    simp [List.getD_eq_getElem?_getD, List.getElem?_eq_getElem (show k / 8 < zs.length by omega)]
  · unfold flip
    rw [List.map_set]
    exact (hzo.stored (k / 8) _).1.drew

theorem flip_flip {zs : List Nat} {k : Nat} (h : k < 8 * zs.length) : flip (flip zs k) k = zs := by
  unfold flip
  rw [List.set_set, List.getD_eq_getElem?_getD, List.getElem?_set_self (by omega), Option.getD_some, Nat.xor_assoc, Nat.xor_self, Nat.xor_zero, List.getD_eq_getElem?_getD, List.getElem?_eq_getElem (by omega), Option.getD_some]
  exact List.set_getElem_self (by omega)
end Go.Proofs.YtilacnfcohlbnaaDoor
