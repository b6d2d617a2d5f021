/- slices.Delete of the first transmissions of a row. -/
import Derived.Test.YtoeedbimhihbhaaCabI
import Derived.Lib.SliceRun
namespace Go.Proofs.Ytoeedbimhihbhaa
open Go.RowKit

/-- An append in place to a row whose cells are known, as a step of a region that draws. -/
theorem step_append_row {P : Program} {ops : Array Oper} {o : Oper} {a : Act} {w : World} {K : Act → World → Prop} {Q : Exit → Act → World → Prop} {E : Prop} (hg : o.guard = none) (s x : Operand) (t : TypeId)
    (hop : o.op = .call { callee := .builtin .append, args := #[s, x], argTypes := #[t, t] })
    (e : TypeId) (i : TypeInfo) (size : Nat) (ht : P.underlying t = some (.slice e)) (hi : P.info? e = some i) (hsize : i.size = size)
    (g sLen sCap : Nat) (cur : Array Value) (hcur : w.heap[g]? = some (.cells cur e (0, 0))) (hs : a.eval s = .slice (some ⟨g, 0, none⟩) sLen sCap)
    (ad : Addr) (m c : Nat) (news : List Value) (hx : a.eval x = .slice (some ad) m c) (hl : news.length = m * size) (hnews : ∀ j u, news[j]? = some u → w.cell? (ad.add j) = some u) (h1 : ∀ u ∈ news, u.oneCell' = true)
    (hroom : sLen + m ≤ sCap) (hfit : sLen * size + news.length ≤ cur.size)
    (hK : ∀ w', w' = w.setRow g (cur.toList.take (sLen * size) ++ news ++ cur.toList.drop (sLen * size + news.length)).toArray → K (a.put o.dst (.slice (some ⟨g, 0, none⟩) (sLen + m) sCap)) w') :
    if Region.wanted o (yielded ops a.tmps) = true then Oper.wp P o a w K Q else E := by
  have hw : Region.wanted o (yielded ops a.tmps) = true := by simp [Region.wanted, hg]
  rw [if_pos hw]
  subst hsize
  have hrun := run_append_room (P := P) w t o.type e i ht hi g sLen sCap cur hcur ad m c news hl hnews h1 hroom hfit
  unfold Oper.wp
  simp [execOp, hop, resolve, invoke, builtin, hs, hx, hrun, Result.andThen]
  exact hK _ (by simp)

/-- clear of a part of a row. -/
theorem run_clear_row {P : Program} (w : World) (t e ty : TypeId) (z : Value) (ht : P.underlying t = some (.slice e)) (hv : ∀ w, (zeroValue e).run P w = .ok z w) (g o n c : Nat) (hn : 0 < n) (zs : List Value) (hzs : (Builtin.zeroCells z.cells n).toList = zs) (h1 : ∀ u ∈ zs, u.oneCell' = true)
    (cur : Array Value) (hcur : w.heap[g]? = some (.cells cur e (0, 0))) (hfit : o + zs.length ≤ cur.size) :
    (Builtin.clear_ #[t] ty #[.slice (some ⟨g, o, none⟩) n c]).run P w = .ok (.tuple #[]) (w.setRow g (cur.toList.take o ++ zs ++ cur.toList.drop (o + zs.length)).toArray) := by
  have hst := run_storeCells_at P g o e zs 0 cur w hcur (by omega) h1
  simp only [Nat.add_zero] at hst
  obtain ⟨m, rfl⟩ : ∃ m, n = m + 1 := ⟨n - 1, by omega⟩
  simp [Builtin.clear_, run_underlying ht, hv, hzs, hst]
/-- The zero value of a transmission. -/
abbrev trZ : Value := .agg #[.slice none 0 0, .int .i64 0]
theorem trZ_one (n : Nat) : ∀ u ∈ (Builtin.zeroCells trZ.cells n).toList, u.oneCell' = true := by
  intro u hu
  simp [Builtin.zeroCells] at hu
  obtain ⟨i, hi, rfl⟩ := hu
  have h2 : ∀ j, j < 2 → ((trZ.cells)[j]!).oneCell' = true := by
    intro j hj
    match j, hj with
    | 0, _ => rfl
    | 1, _ => rfl
  exact h2 (i % 2) (Nat.mod_lt _ (by decide))

set_option maxRecDepth 100000 in
set_option maxHeartbeats 8000000 in
theorem delete_none (a : Option Addr) (n c : Nat) (hc : n ≤ c) (_hcm : c ≤ maxLen) (w : World) :
    Calls Try.prog 32 #[.slice a n c, .int .i64 0, .int .i64 0] w fun e w' => e = .returned (.slice a n c) ∧ w' = w := by
  go_enter Try.func32, Try.ntmps32
  go_wp2_with fail
  go_ret
  exact ⟨rfl, rfl⟩

set_option maxRecDepth 100000 in
set_option maxHeartbeats 8000000 in
theorem delete_some (B g n cap k : Nat) (fl : List Fl) (hl : fl.length = n) (hk0 : 0 < k) (hk : k ≤ n) (hbig : n ≤ 64) (w : World) (hown : w.ownsRow B 70 2 (.slice (some ⟨g, 0, none⟩) n cap) n (flCells fl)) :
    Calls Try.prog 32 #[.slice (some ⟨g, 0, none⟩) n cap, .int .i64 0, .int .i64 k] w fun e w' => e = .returned (.slice (some ⟨g, 0, none⟩) (n - k) cap) ∧ w'.ownsRow B 70 2 (.slice (some ⟨g, 0, none⟩) (n - k) cap) (n - k) (flCells (fl.drop k)) ∧ w.grownBy w' (some g) := by
  obtain ⟨hlen, hcase⟩ := hown
  rcases hcase with ⟨h0, _⟩ | ⟨g', cap', cur, hv, hBg, hcur, hnc, hcm, hsz, htake⟩
  · cases h0
  cases hv
  have hmx : cap ≤ 9223372036854775807 := by unfold maxLen at hcm; omega
  have HCUR := box hcur
  have HCELL := box (show ∀ j u, (flCells fl)[j]? = some u → w.cell? ⟨g, j, none⟩ = some u from fun j u hu => by
    have hj : j < n * 2 := by rw [← hlen]; exact (List.getElem?_eq_some_iff.1 hu).1
    rw [cell_of_row w g j cur 70 (0, 0) hcur, ← hu, ← htake, List.getElem?_take, if_pos hj, Array.getElem?_toList])
  have HSZ := box hsz
  have HTAKE := box htake
  have HLEN := box hlen
  clear hcur hsz htake hlen
  go_enter Try.func32, Try.ntmps32
  go_wp2_with fail
  obtain ⟨i0, hi0, hz0, hz1, hz2⟩ := info_parts Try.infoTr
  obtain ⟨A, hA, hsrc⟩ : ∃ A : Addr, (if cap = k then (some (⟨g, 0, none⟩ : Addr)) else some ⟨g, k * 2, none⟩) = some A ∧ Box (∀ t u, (flCells (fl.drop k))[t]? = some u → w.drew.cell? (A.add t) = some u) := by
    by_cases h : cap = k
    · refine ⟨⟨g, 0, none⟩, by simp [h], box (fun t u hu => ?_)⟩
      rw [show fl.drop k = [] from List.drop_eq_nil_of_le (by omega)] at hu
      simp [flCells] at hu
    · refine ⟨⟨g, k * 2, none⟩, by simp [h], box (fun t u hu => ?_)⟩
      rw [add_at]
      exact HCELL.out _ u (by rw [← flCells_drop, List.getElem?_drop] at hu; exact hu)
  have HNL := box (show (flCells (fl.drop k)).length = (n - k) * 2 by rw [flCells_length, List.length_drop, hl])
  have HNO := box (flCells_one (fl.drop k))
  generalize hnews : flCells (fl.drop k) = news at hsrc HNL HNO ⊢
  have HFIT := box (show 0 * 2 + news.length ≤ cur.size by rw [HNL.out, HSZ.out]; omega)
  go_region_law (refine step_append_row (o := ⟨some 26, _, _, _, _, _⟩) rfl (.tmp 22) (.tmp 25) 60 rfl 70 i0 2 Try.underlying60 hi0 hz1 g 0 cap cur HCUR.out rfl A (n - k) (cap - k) news (by simp [Act.eval, Act.put]) HNL.out hsrc.out HNO.out (by omega) HFIT.out ?_; intro w1 hw1; have HW1 := box hw1; clear hw1)
  all_goals
    have HC1 := box (show ∃ cur1, w1 = w.drew.setRow g cur1 ∧ cur1.size = cur.size ∧ w1.heap[g]? = some (.cells cur1 70 (0, 0)) ∧ cur1.toList.take ((n - k) * 2) = news from by
      refine ⟨_, HW1.out, ?_, ?_, ?_⟩
      · have := HFIT.out
        simp only [List.size_toArray, List.length_append, List.length_take, List.length_drop, Array.length_toList]
        omega
      · rw [HW1.out]
        exact setRow_heap w.drew g cur _ _ (0, 0) HCUR.out
      · simp only [Nat.zero_mul, List.take_zero, List.nil_append]
        rw [← HNL.out]; exact List.take_left)
    obtain ⟨cur1, hc1, hc2, hc3, hc4⟩ := HC1.out
    have HZ := box (trZ_one (n - (n - k)))
    have HZL := box (show (Builtin.zeroCells trZ.cells (n - (n - k))).toList.length = (n - (n - k)) * 2 by rw [Array.length_toList, size_zeroCells]; rfl)
    generalize hzs : (Builtin.zeroCells trZ.cells (n - (n - k))).toList = zs at HZ HZL
    have HF2 := box (show (n - k) * 2 + zs.length ≤ cur1.size by rw [HZL.out, hc2, HSZ.out]; omega)
    have hclr : ∀ ty, (Builtin.clear_ #[60] ty #[.slice (some ⟨g, (n - k) * 2, none⟩) (n - (n - k)) (cap - (n - k))]).run Try.prog w1 = .ok (.tuple #[]) (w1.setRow g (cur1.toList.take ((n - k) * 2) ++ zs ++ cur1.toList.drop ((n - k) * 2 + zs.length)).toArray) :=
      fun ty => run_clear_row w1 60 70 ty trZ Try.underlying60 Try.zeroValue70 g ((n - k) * 2) (n - (n - k)) (cap - (n - k)) (by omega) zs hzs HZ.out cur1 hc3 HF2.out
    have HR := box (show ((w1.setRow g (cur1.toList.take ((n - k) * 2) ++ zs ++ cur1.toList.drop ((n - k) * 2 + zs.length)).toArray)).ownsRow B 70 2 (.slice (some ⟨g, 0, none⟩) (n - k) cap) (n - k) news ∧ w.grownBy (w1.setRow g (cur1.toList.take ((n - k) * 2) ++ zs ++ cur1.toList.drop ((n - k) * 2 + zs.length)).toArray) (some g) from by
      have h1 := HZL.out
      have h2 := HSZ.out
      have h3 := HNL.out
      refine ⟨⟨h3, .inr ⟨g, cap, _, rfl, hBg, setRow_heap w1 g cur1 _ _ (0, 0) hc3, by omega, hcm, ?_, ?_⟩⟩, ⟨?_, ?_, ?_, ?_, fun q hq hne => ?_⟩⟩
      · simp only [List.size_toArray, List.length_append, List.length_take, List.length_drop, Array.length_toList]
        omega
      · rw [hc4, List.append_assoc]
        show List.take ((n - k) * 2) (news ++ _) = news
        rw [← h3]; exact List.take_left
      · rw [hc1]; rfl
      · rw [hc1]; rfl
      · rw [hc1]; rfl
      · rw [hc1]; simp [World.setRow]
      · have hqg : q ≠ g := fun e => hne (by rw [e])
        rw [setRow_other _ _ _ _ hqg, hc1, setRow_other _ _ _ _ hqg]; rfl)
    obtain ⟨w2, hw2⟩ : ∃ w2, w1.setRow g (cur1.toList.take ((n - k) * 2) ++ zs ++ cur1.toList.drop ((n - k) * 2 + zs.length)).toArray = w2 := ⟨_, rfl⟩
    rw [hw2] at HR
    simp only [hw2] at hclr
    clear hw2 hc1 hc2 hc3 hc4 HC1 HW1 HF2 HZ HZL hzs
    have hcapk : ¬ (cap = n - k) := by omega
    go_wp2_with fail
    go_ret
    exact ⟨rfl, by rw [hnews]; exact HR.out⟩
end Go.Proofs.Ytoeedbimhihbhaa
