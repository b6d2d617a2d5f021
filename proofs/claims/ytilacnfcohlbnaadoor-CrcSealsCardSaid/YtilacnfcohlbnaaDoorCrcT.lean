/- A slice appended to a slice of the call's own, whatever came in. -/
import Derived.Test.YtilacnfcohlbnaaDoorCrcS
import Derived.Laws.AppendOwnNone
namespace Go.Proofs.YtilacnfcohlbnaaDoor
open Go.RowKit

theorem own_below {w w' : World} {B base : Nat} {v : Value} {n : Nat} {xs : List Value} {w0 : World} (hown : w.ownsRow base 5 1 v n xs) (hB : B ≤ base) (hb : Below B w0 w) (hs : B ≤ w.heap.size) (hg : w.grownBy w' v.ownBlock) : Below B w0 w' := by
  refine hb.grown hg hs (fun k hk => ?_)
  rcases hown.2 with ⟨rfl, _⟩ | ⟨g, cap, cur, rfl, hg', _⟩
  · cases hk
  · cases hk
    exact Nat.le_trans hB hg'

theorem wpList_append_in {w : World} {ops : Array Oper} {rest : List Oper} {o : Oper} {a : Act} {Q : Exit → Act → World → Prop} (hgd : o.guard = none) (s x : Operand)
    (ho : o.op = .call { callee := .builtin .append, args := #[s, x], argTypes := #[22, 22] })
    (base : Nat) (i : TypeInfo) (hi : Tryd.prog.info? 5 = some i) (hz : i.zero = some (.int .u8 0)) (hsize : i.size = 1) (hby : i.bytes = 1)
    (v : Value) (n : Nat) (xs : List Value) (hs : a.eval s = v) (hown : w.ownsRow base 5 1 v n xs)
    (p : Option Addr) (m c : Nat) (news : List Nat) (hx : a.eval x = .slice p m c) (hl : news.length = m) (hin : In w p news) (hnil : p = none → c = 0)
    (h63 : n + m ≤ 10000) (B : Nat) (w0 : World) (hB : B ≤ base) (hb : Below B w0 w) (hbase : base ≤ w.heap.size)
    (h : ∀ v' w', Box (w'.ownsRow base 5 1 v' (n + m) (xs ++ news.map nU8)) → Below B w0 w' → base ≤ w'.heap.size → wpList Tryd.prog ops Q rest (a.put o.dst v') w') : wpList Tryd.prog ops Q (o :: rest) a w := by
  rcases p with _ | ad
  · obtain rfl := hnil rfl
    obtain rfl : news = [] := by
      rcases hin with h | ⟨b, h, _⟩
      · exact h
      · cases h
    obtain rfl : m = 0 := by simpa using hl.symm
    refine wpList_append_own_none hgd s x 22 ho base 5 i 1 Tryd.underlying22 hi v n xs hs hown hx ?_
    exact h v w (box (by simpa using hown)) hb hbase
  · have hcell : ∀ j u, (news.map nU8)[j]? = some u → w.cell? (ad.add j) = some u := by
      intro j u hj
      rcases hin with rfl | ⟨b, hb', hat⟩
      · simp at hj
      · cases hb'
        simp at hj
        obtain ⟨y, hy, rfl⟩ := hj
        have hjl : j < news.length := (List.getElem?_eq_some_iff.1 hy).1
        rw [hat j hjl]
        simp [List.getD_eq_getElem?_getD, hy]
    refine wpList_append_own w hgd s x 22 ho base 5 i (.int .u8 0) 1 1 Tryd.underlying22 hi hz hsize hby rfl (by decide) v n xs hs hown ad m c (news.map nU8) hx (by simp [hl]) hcell (nU8_one _) (by unfold maxLen; omega) (by omega) hbase ?_
    intro v' w' h1 h2 _
    exact h v' w' (box h1) (own_below hown hB hb (Nat.le_trans hB hbase) h2) (Nat.le_trans hbase h2.size)
end Go.Proofs.YtilacnfcohlbnaaDoor
