/- Packets that came in; the symbols of a stream; what a scanner makes of them. -/
import Derived.Test.YthfoakomapmkeaaDoorMrE
import Derived.Test.YthfoakomapmkeaaDoorMrD
namespace Go.Proofs.YthfoakomapmkeaaDoor
open Go.RowKit

/-- A packet lies in five cells; its payload may be appended to. -/
def ArgAt (w : World) (g i : Nat) (p : Pkt) : Prop := ∃ (a : Option Addr) (l cap : Nat), w.cell? ⟨g, i, none⟩ = some (nU8 p.k) ∧ w.cell? ⟨g, i + 1, none⟩ = some (.int .i64 p.c) ∧ w.cell? ⟨g, i + 2, none⟩ = some (.int .i64 p.n) ∧ w.cell? ⟨g, i + 3, none⟩ = some (.int .i64 p.v) ∧ w.cell? ⟨g, i + 4, none⟩ = some (.slice a l cap) ∧ p.pay.length = l ∧ In w a p.pay ∧ (a = none → cap = 0)
theorem ArgAt.pk {w : World} {g i : Nat} {p : Pkt} (h : ArgAt w g i p) : PkAt w g i p := by
  obtain ⟨a, l, cap, h0, h1, h2, h3, h4, h5, h6, _⟩ := h
  exact ⟨a, l, cap, h0, h1, h2, h3, h4, h5, h6⟩
theorem ArgAt.below {w w' : World} {g i : Nat} {p : Pkt} (h : ArgAt w g i p) (hb : Below w.heap.size w w') : ArgAt w' g i p := by
  obtain ⟨a, l, cap, h0, h1, h2, h3, h4, h5, h6, h7⟩ := h
  exact ⟨a, l, cap, keepc hb h0, keepc hb h1, keepc hb h2, keepc hb h3, keepc hb h4, h5, h6.below hb, h7⟩
def ArgPks (w : World) (a : Option Addr) (ps : List Pkt) : Prop := ps = [] ∨ ∃ g i, a = some ⟨g, i, none⟩ ∧ ∀ j (h : j < ps.length), ArgAt w g (i + j * 5) ps[j]
theorem ArgPks.pks {w : World} {a : Option Addr} {ps : List Pkt} (h : ArgPks w a ps) : PksIn w a ps := by
  rcases h with h | ⟨g, i, e, h⟩
  · exact .inl h
  · exact .inr ⟨g, i, e, fun j hj => (h j hj).pk⟩
theorem ArgPks.below {w w' : World} {a : Option Addr} {ps : List Pkt} (h : ArgPks w a ps) (hb : Below w.heap.size w w') : ArgPks w' a ps := by
  rcases h with h | ⟨g, i, e, h⟩
  · exact .inl h
  · exact .inr ⟨g, i, e, fun j hj => (h j hj).below hb⟩

def Pkt.fine (p : Pkt) : Prop := p.k < 256 ∧ ∀ x ∈ p.pay, x < 256
abbrev okK (p : Pkt) : Bool := okP p.k p.c p.n p.v p.pay.length
def symsK (p : Pkt) : List Nat := symsP p.k p.c.toNat p.n.toNat p.v.toNat p.pay
instance : Inhabited Pkt := ⟨⟨0, 0, 0, 0, []⟩⟩
/-- How many idles the law lays ahead of packet k. -/
def idleN (idle : List Nat) (k : Nat) : Nat := if k < idle.length then idle.getD k 0 % 16 else 0
/-- The symbols of the first packets of a stream. -/
def strTo (ps : List Pkt) (idle : List Nat) : Nat → List Nat
  | 0 => []
  | k + 1 => strTo ps idle k ++ List.replicate (idleN idle k) 52 ++ symsK (ps.getD k default)
theorem idleN_lt (idle : List Nat) (k : Nat) : idleN idle k < 16 := by unfold idleN; split <;> omega

theorem symsK_run (p : Pkt) (hf : p.fine) (hok : okK p = true) (b : Nat) : runS ⟨false, [], b⟩ (symsK p) = (⟨false, [], b⟩, [p]) := by
  obtain ⟨k, c, n, v, pay⟩ := p
  have hok : okP k c n v pay.length = true := hok
  obtain ⟨_, c0, c1, n0, n1, v0, v1, l1⟩ := of_decide_eq_true hok
  obtain ⟨C, rfl⟩ := Int.eq_ofNat_of_zero_le c0
  obtain ⟨N, rfl⟩ := Int.eq_ofNat_of_zero_le n0
  obtain ⟨V, rfl⟩ := Int.eq_ofNat_of_zero_le v0
  have h := run_packet k C N V pay hf.1 hf.2 hok ⟨false, [], b⟩
  exact h
theorem symsK_lt (p : Pkt) (hf : p.fine) (hok : okK p = true) : ∀ x ∈ symsK p, x < 256 := by
  obtain ⟨k, c, n, v, pay⟩ := p
  have hok : okP k c n v pay.length = true := hok
  obtain ⟨_, c0, c1, n0, n1, v0, v1, l1⟩ := of_decide_eq_true hok
  exact symsP_lt hf.1 (by show c.toNat < 256; omega) hf.2 (by show pay.length < 256; omega)
theorem symsK_length (p : Pkt) : (symsK p).length = 36 + 2 * p.pay.length := symsP_length _ _ _ _ _

theorem str_run {ps : List Pkt} {idle : List Nat} (hf : ∀ p ∈ ps, p.fine) : ∀ k, k ≤ ps.length → (∀ j, j < k → okK (ps.getD j default) = true) →
    runS sc0 (strTo ps idle k) = (sc0, ps.take k) ∧ (strTo ps idle k).length ≤ 180 * k ∧ ∀ x ∈ strTo ps idle k, x < 256
  | 0, _, _ => ⟨by simp [strTo, runS], by simp [strTo], fun x hx => by cases hx⟩
  | k + 1, hk, hok => by
    obtain ⟨h1, h2, h3⟩ := str_run hf k (by omega) (fun j hj => hok j (by omega))
    have ho := hok k (by omega)
    have hg : ps[k]? = some (ps.getD k default) := by rw [List.getD_eq_getElem?_getD, List.getElem?_eq_getElem (by omega)]; rfl
    have hfp : (ps.getD k default).fine := hf _ (List.mem_of_getElem? hg)
    have ht : ps.take (k + 1) = ps.take k ++ [ps.getD k default] := by rw [List.take_add_one, hg]; rfl
    generalize ps.getD k default = p at ho hg hfp ht
    have hi := idleN_lt idle k
    have e : strTo ps idle (k + 1) = strTo ps idle k ++ List.replicate (idleN idle k) 52 ++ symsK p := by
      rw [strTo]; congr 2; rw [List.getD_eq_getElem?_getD, hg]; rfl
    have hpl : p.pay.length ≤ 64 := (of_decide_eq_true ho).2.2.2.2.2.2.2
    refine ⟨?_, ?_, ?_⟩
    · rw [e, runS_append, runS_append, h1]
      simp only [run_out 0 (List.replicate (idleN idle k) 52) (fun z hz => by rw [List.eq_of_mem_replicate hz]; omega), symsK_run p hfp ho]
      rw [ht]
      simp
    · rw [e, List.length_append, List.length_append, List.length_replicate, symsK_length]
      omega
    · intro x hx
      rw [e] at hx
      rcases List.mem_append.1 hx with hx | hx
      · rcases List.mem_append.1 hx with hx | hx
        · exact h3 x hx
        · rw [List.eq_of_mem_replicate hx]; omega
      · exact symsK_lt p hfp ho x hx
end Go.Proofs.YthfoakomapmkeaaDoor
