/- A packet more in a sender's memory. -/
import Derived.Test.YtfpicobjnpjhlaaRetTb
namespace Go.Proofs.Ytfpicobjnpjhlaa
open Go.RowKit

theorem added_core {B : Nat} {E : Nat → Prop} {w w5 w6 : World} {g : Nat} {v v6 : Value} {ks : List Kp} {a : Option Addr} {c : Nat} {xs : List Nat} (hg : g < w.heap.size) (row : QRow B w v (ks.map kpV)) (far : v.ownBlock ≠ some g) (out : ¬ E g ∧ ∀ k, v.ownBlock = some k → ¬ E k)
    (syms : ∀ x ∈ ks, SymIn (fun k => E k ∨ k = g ∨ v.ownBlock = some k) w x.a x.c x.xs) (hE : ∀ k, E k → k < w.heap.size) (kb : Below w.heap.size w w5) (o : Own w.heap.size w5 (.slice a xs.length c) xs.length xs)
    (q : QRow B w6 v6 (ks.map kpV ++ [.slice a xs.length c])) (gb : w5.grownBy w6 v.ownBlock) (hv : v6.ownBlock = v.ownBlock ∨ v6.ownBlock = some w5.heap.size) :
    w6.heap[g]? = w.heap[g]? ∧ QRow B (w6.setCell ⟨g, 2, none⟩ v6) v6 ((ks ++ [(⟨a, xs, c⟩ : Kp)]).map kpV) ∧ v6.ownBlock ≠ some g ∧ (¬ E g ∧ ∀ k, v6.ownBlock = some k → ¬ E k) ∧
      (∀ x ∈ ks ++ [(⟨a, xs, c⟩ : Kp)], SymIn (fun k => E k ∨ k = g ∨ v6.ownBlock = some k) (w6.setCell ⟨g, 2, none⟩ v6) x.a x.c x.xs) ∧ Steps g v v6 w (w6.setCell ⟨g, 2, none⟩ v6) := by
  have hs := kb.size
  have hvl := row.blk
  have hf : v6.ownBlock ≠ some g := by
    rcases hv with h | h
    · rw [h]; exact far
    · rw [h]; intro e; have := Option.some.inj e; omega
  have ap : Apart g v.ownBlock w (w6.setCell ⟨g, 2, none⟩ v6) := ((Apart.ofBelow kb).trans (Apart.ofGrown gb)).setCell 2 v6
  refine ⟨(gb.block g (by omega) (fun e => far e.symm)).trans (kb.block g hg), ?_, hf, ⟨out.1, fun k hk => ?_⟩, fun x hx => ?_, ⟨ap, fun k hk => ?_⟩⟩
  · rw [List.map_append]
    exact q.same (by simp) (fun k hk => oth_set (fun e => hf (by rw [← e]; exact hk)) _ _ _)
  · rcases hv with h | h
    · exact out.2 k (h ▸ hk)
    · intro he; have := hE k he; rw [h] at hk; have := Option.some.inj hk; omega
  · rcases List.mem_append.1 hx with hx | hx
    · have s := syms x hx
      have hb : x.xs ≠ [] → ∀ q, x.a = some q → q.block < w.heap.size ∧ ¬ (E q.block ∨ q.block = g ∨ v.ownBlock = some q.block) := fun h q hq => ⟨by have hi := s.inn; rw [hq] at hi; exact in_lt hi h, s.blk h q hq⟩
      refine ⟨in_same s.inn (fun h q hq => ?_), fun h q hq => ?_, s.nil⟩
      · obtain ⟨h1, h2⟩ := hb h q hq
        exact ap.block _ h1 (fun e => h2 (.inr (.inl e))) (fun e => h2 (.inr (.inr e.symm)))
      · obtain ⟨h1, h2⟩ := hb h q hq
        rintro (e | e | e)
        · exact h2 (.inl e)
        · exact h2 (.inr (.inl e))
        · rcases hv with h | h
          · exact h2 (.inr (.inr (h ▸ e)))
          · rw [h] at e; have := Option.some.inj e; omega
    · obtain rfl := List.mem_singleton.1 hx
      obtain ⟨a', c', he, hin, hnil, -, hblk⟩ := own_any o
      cases he
      have hb : xs ≠ [] → ∀ q, a = some q → w.heap.size ≤ q.block ∧ q.block < w5.heap.size := fun h q hq => ⟨(hblk q hq).1, by rw [hq] at hin; exact in_lt hin h⟩
      refine ⟨in_same hin (fun h q hq => ?_), fun h q hq => ?_, hnil⟩
      · obtain ⟨h1, h2⟩ := hb h q hq
        rw [oth_set (by omega)]
        exact gb.block _ h2 (fun e => by have := hvl _ e.symm; omega)
      · obtain ⟨h1, h2⟩ := hb h q hq
        rintro (e | e | e)
        · have := hE _ e; omega
        · omega
        · rcases hv with h | h
          · have := hvl _ (h ▸ e); omega
          · rw [h] at e; have := Option.some.inj e; omega
  · rcases hv with h | h
    · exact .inl (h ▸ hk)
    · rw [h] at hk; have := Option.some.inj hk; exact .inr (by omega)

/-- What Offer answers; what it leaves. -/
def offC (s : Rs) (xs : List Nat) : Int := if 64 < xs.length then 2 else if s.W ≤ s.ks.length then 5 else 0
def offS (s : Rs) (k : Kp) : Rs := if offC s k.xs = 0 then ⟨s.W, s.τ, s.ks ++ [k], s.ta + 1, s.ac, s.nx, s.hi, s.si⟩ else s
theorem Rs.Ok.off {s : Rs} (h : s.Ok) (k : Kp) : (offS s k).Ok := by
  unfold offS
  by_cases h0 : offC s k.xs = 0
  · rw [if_pos h0]
    obtain ⟨g1, g2⟩ : k.xs.length ≤ 64 ∧ s.ks.length < s.W := by
      unfold offC at h0
      by_cases h1 : 64 < k.xs.length
      · rw [if_pos h1] at h0; cases h0
      · rw [if_neg h1] at h0
        by_cases h2 : s.W ≤ s.ks.length
        · rw [if_pos h2] at h0; cases h0
        · exact ⟨by omega, by omega⟩
    have := h.hi
    refine ⟨h.nx, by show s.hi ≤ (s.ks ++ [k]).length; simp; omega, by show (s.ks ++ [k]).length ≤ s.W; simp; omega, h.w1, h.w2, h.t1, h.t2, h.si, fun y hy => ?_⟩
    rcases List.mem_append.1 hy with hy | hy
    · exact h.xs y hy
    · rw [List.mem_singleton.1 hy]; exact g1
  · rw [if_neg h0]
    exact h

theorem PsAt.added {B : Nat} {E : Nat → Prop} {w w5 w6 : World} {g : Nat} {v v6 : Value} {s : Rs} {a : Option Addr} {c : Nat} {xs : List Nat} (x : PsAt B E w g v s) (hE : ∀ k, E k → k < w.heap.size) (kb : Below w.heap.size w w5) (o : Own w.heap.size w5 (.slice a xs.length c) xs.length xs)
    (q : QRow B w6 v6 (s.ks.map kpV ++ [.slice a xs.length c])) (gb : w5.grownBy w6 v.ownBlock) (hv : v6.ownBlock = v.ownBlock ∨ v6.ownBlock = some w5.heap.size) :
    PsAt B E (w6.setCell ⟨g, 2, none⟩ v6) g v6 ⟨s.W, s.τ, s.ks ++ [⟨a, xs, c⟩], s.ta + 1, s.ac, s.nx, s.hi, s.si⟩ ∧ Steps g v v6 w (w6.setCell ⟨g, 2, none⟩ v6) := by
  obtain ⟨h1, h2, h3, h4, h5, h6⟩ := added_core x.m.lt x.row x.far x.out x.syms hE kb o q gb hv
  exact ⟨⟨(x.m.same h1).set2 v6, h2, h3, x.bg, h4, h5⟩, h6⟩
theorem RsAt.added {B : Nat} {E : Nat → Prop} {w w5 w6 : World} {g : Nat} {v v6 : Value} {s : Rs} {a : Option Addr} {c : Nat} {xs : List Nat} (x : RsAt B E w g v s) (hE : ∀ k, E k → k < w.heap.size) (kb : Below w.heap.size w w5) (o : Own w.heap.size w5 (.slice a xs.length c) xs.length xs)
    (q : QRow B w6 v6 (s.ks.map kpV ++ [.slice a xs.length c])) (gb : w5.grownBy w6 v.ownBlock) (hv : v6.ownBlock = v.ownBlock ∨ v6.ownBlock = some w5.heap.size) :
    RsAt B E (w6.setCell ⟨g, 2, none⟩ v6) g v6 ⟨s.W, s.τ, s.ks ++ [⟨a, xs, c⟩], s.ta, s.ac, s.nx, s.hi, s.si⟩ ∧ Steps g v v6 w (w6.setCell ⟨g, 2, none⟩ v6) := by
  obtain ⟨h1, h2, h3, h4, h5, h6⟩ := added_core x.m.lt x.row x.far x.out x.syms hE kb o q gb hv
  exact ⟨⟨(x.m.same h1).set2 v6, h2, h3, x.bg, h4, h5⟩, h6⟩

theorem Try.infoSl : (Try.prog.info? 32).map (fun i => (i.zero, i.size, i.bytes)) = some (some (.slice none 0 0), 1, 24) := by kernel_rfl
end Go.Proofs.Ytfpicobjnpjhlaa
