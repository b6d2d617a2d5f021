/- Inverting a bit; an append to a row as a step of a region that draws; Cut. -/
import Derived.Test.YtoeedbimhihbhaaCabG
namespace Go.Proofs.Ytoeedbimhihbhaa
open Go.RowKit

/-- Symbols of which one bit is inverted. -/
def flipS (xs : List Nat) (k : Nat) : List Nat := xs.set (k / 6) (xs.getD (k / 6) 0 ^^^ 2 ^ (k % 6))
def flipA (xs : List Nat) (k : Nat) : List Nat := if xs.length = 0 then xs else flipS xs (k % (6 * xs.length))
theorem flipA_length (xs : List Nat) (k : Nat) : (flipA xs k).length = xs.length := by unfold flipA flipS; split <;> simp
theorem pow_lt (k : Nat) : 2 ^ (k % 6) < 256 := by
  have h : k % 6 < 6 := Nat.mod_lt _ (by decide)
  have : k % 6 = 0 ∨ k % 6 = 1 ∨ k % 6 = 2 ∨ k % 6 = 3 ∨ k % 6 = 4 ∨ k % 6 = 5 := by omega
  rcases this with h | h | h | h | h | h <;> rw [h] <;> decide
theorem flipS_lt {xs : List Nat} (hx : ∀ x ∈ xs, x < 256) (k : Nat) : ∀ x ∈ flipS xs k, x < 256 := by
  intro x h
  unfold flipS at h
  rcases List.mem_or_eq_of_mem_set h with h | rfl
  · exact hx x h
  · refine Nat.xor_lt_two_pow (n := 8) ?_ (pow_lt k)
    by_cases hk : k / 6 < xs.length
    · exact getD_lt hx hk
    · rw [List.getD_eq_getElem?_getD, List.getElem?_eq_none (by omega)]; decide
theorem flipA_lt {xs : List Nat} (hx : ∀ x ∈ xs, x < 256) (k : Nat) : ∀ x ∈ flipA xs k, x < 256 := by
  unfold flipA
  split
  · exact hx
  · exact flipS_lt hx _

set_option maxRecDepth 100000 in
set_option maxHeartbeats 8000000 in
theorem invert_any (B : Nat) (v : Value) (n : Nat) (xs : List Nat) (hn : xs.length = n) (hx : ∀ x ∈ xs, x < 256) (hbig : n ≤ 1000) (k : Nat) (w0 w : World) (kb : Below B w0 w) (hown : Own B w v n xs) :
    Calls Try.prog 37 #[v, .int .i64 k] w fun e w' => e = .returned (.tuple #[]) ∧ Own B w' v n (flipA xs k) ∧ Below B w0 w' := by
  by_cases h0 : n = 0
  · obtain ⟨a, c, rfl, _⟩ := own_any hown
    have HO := box hown
    have HF := box (show flipA xs k = xs by unfold flipA; rw [if_pos (by omega)])
    clear hown
    subst h0
    go_enter Try.func37, Try.ntmps37
    go_wp2_with fail
    (try simp only [Exit.inBlock, Exit.then])
    refine bodyPost_ret (results_none rfl _ _ _) rfl ⟨rfl, ?_, kb⟩
    rw [HF.out]; exact HO.out
  · obtain ⟨g, cap, rfl⟩ : ∃ g cap, v = .slice (some ⟨g, 0, none⟩) n cap := by
      rcases hown.2 with ⟨_, h0⟩ | ⟨g, cap, _, hv, _⟩
      · omega
      · exact ⟨g, cap, hv⟩
    have hg : B ≤ g := (row_blk hown g rfl).1
    have HF := box (show flipA xs k = flipS xs (k % (6 * n)) by unfold flipA; rw [if_neg (by omega), hn])
    have hK : (k : Int) % (6 * (n : Int)) = ((k % (6 * n) : Nat) : Int) := by push_cast; rfl
    have hK1 : k % (6 * n) < 6 * n := Nat.mod_lt _ (by omega)
    obtain ⟨M, hM⟩ : ∃ M, 6 * n = M := ⟨_, rfl⟩
    have hK2 : (6 : Int) * (n : Int) = (M : Int) := by omega
    generalize k % (6 * n) = K at HF hK hK1
    rw [hK2] at hK
    have hM0 : ¬ ((M : Int) = 0) := by omega
    have hM1 : M ≤ 6000 := by omega
    have hq : K / 6 < n := by omega
    have ly : xs.getD (K / 6) 0 < 256 := getD_lt hx (by omega)
    have c1 : w.cell? ⟨g, K / 6, none⟩ = some (nU8 (xs.getD (K / 6) 0)) := by
      rw [hown.cellAt _ (by omega)]
      simp [List.getD_eq_getElem?_getD, List.getElem?_eq_getElem (show K / 6 < xs.length by omega)]
    have f1 := hown.frozenAt (K / 6)
    have lpw := pow_lt K
    have hxor : bits .xor .u8 ((xs.getD (K / 6) 0 : Nat) : Int) (IntKind.u8.wrap (2 ^ (K % 6))) = ((xs.getD (K / 6) 0 ^^^ 2 ^ (K % 6) : Nat) : Int) := by
      have h := u8_xor_nat (xs.getD (K / 6) 0) (2 ^ (K % 6)) ly lpw
      have hcast : ((2 ^ (K % 6) : Nat) : Int) = (2 : Int) ^ (K % 6) := Int.natCast_pow 2 (K % 6)
      have h2 : IntKind.u8.wrap ((2 : Int) ^ (K % 6)) = ((2 ^ (K % 6) : Nat) : Int) := by
        rw [IntKind.wrap_u8, hcast]
        exact Int.emod_eq_of_lt (by rw [← hcast]; exact Int.natCast_nonneg _) (by rw [← hcast]; exact Int.ofNat_lt.2 lpw)
      rw [h2]; exact h
    have HST := box (hown.stored (K / 6) (nU8 (xs.getD (K / 6) 0 ^^^ 2 ^ (K % 6)))).1
    rw [← List.map_set, show xs.set (K / 6) (xs.getD (K / 6) 0 ^^^ 2 ^ (K % 6)) = flipS xs K from rfl] at HST
    have e1 : (K : Int).tdiv 6 = ((K / 6 : Nat) : Int) := by rw [Int.tdiv_eq_ediv_of_nonneg (by omega)]; push_cast; rfl
    have e3 : (K : Int).tmod 6 = ((K % 6 : Nat) : Int) := by rw [Int.tmod_eq_emod_of_nonneg (by omega)]; push_cast; rfl
    have lr : K % 6 < 6 := by omega
    have HX := box hx
    have KB := box kb
    clear hown lpw hx
    generalize xs.getD (K / 6) 0 ^^^ 2 ^ (K % 6) = nv at hxor HST
    generalize xs.getD (K / 6) 0 = yv at hxor c1 ly
    generalize K % 6 = r at hxor lr e3
    generalize K / 6 = q at c1 f1 e1 HST hq
    have w1' : IntKind.i64.wrap (q : Int) = (q : Int) := by rw [IntKind.wrap_i64]; omega
    have w2' : IntKind.i64.wrap (K : Int) = (K : Int) := by rw [IntKind.wrap_i64]; omega
    have q0 : (0 : Int) ≤ (q : Int) := by omega
    have q1 : (q : Int) < (n : Int) := by omega
    have r0 : (0 : Int) ≤ (r : Int) := by omega
    have n0 : ((n : Int) == 0) = false := by simp; omega
    have HMB := box hM
    have hKM : K < 6000 := by omega
    clear hM hK1
    go_enter Try.func37, Try.ntmps37
    go_wp2_with fail
    go_region
    all_goals
      go_end0
      have hx2 : bits .xor .u8 (yv : Int) (2 ^ r % 256) = (nv : Int) := by rw [← IntKind.wrap_u8]; exact hxor
      rw [hx2, HF.out]
      exact ⟨rfl, HST.out.drew, (KB.out.setCell (p := ⟨g, q, none⟩) hg _).drew⟩

/-- An append to a row of the call's own, as a step of a region that draws. -/
theorem step_row {P : Program} {ops : Array Oper} {o : Oper} {a : Act} {w : World} {K : Act → World → Prop} {Q : Exit → Act → World → Prop} {E : Prop} (hg : o.guard = none) (s x : Operand) (t : TypeId)
    (hop : o.op = .call { callee := .builtin .append, args := #[s, x], argTypes := #[t, t] })
    (base : Nat) (e : TypeId) (i : TypeInfo) (z : Value) (size bytes : Nat) (ht : P.underlying t = some (.slice e)) (hi : P.info? e = some i) (hz : i.zero = some z)
    (hsize : i.size = size) (hby : i.bytes = bytes) (hzs : z.cells.size = size) (hsz : 0 < size)
    (v : Value) (n : Nat) (xs : List Value) (hs : a.eval s = v) (hown : w.ownsRow base e size v n xs)
    (ad : Addr) (m c : Nat) (news : List Value) (hx : a.eval x = .slice (some ad) m c) (hl : news.length = m * size) (hnews : ∀ j u, news[j]? = some u → w.cell? (ad.add j) = some u) (h1 : ∀ u ∈ news, u.oneCell' = true)
    (h63 : n + m ≤ maxLen) (hbytes : (n + m) * bytes ≤ 140737488355328) (hbase : base ≤ w.heap.size)
    (hK : ∀ va' vc' w', Box (w'.ownsRow base e size (.slice va' (n + m) vc') (n + m) (xs ++ news)) → Box (w.grownBy w' v.ownBlock) → Box ((Value.slice va' (n + m) vc').ownBlock = v.ownBlock ∨ (Value.slice va' (n + m) vc').ownBlock = some w.heap.size) → K (a.put o.dst (.slice va' (n + m) vc')) w') :
    if Region.wanted o (yielded ops a.tmps) = true then Oper.wp P o a w K Q else E := by
  have hw : Region.wanted o (yielded ops a.tmps) = true := by simp [Region.wanted, hg]
  rw [if_pos hw]
  obtain ⟨v', w', hrun, r1, r2, _, r5⟩ := run_append_own_at (P := P) w base t o.type e i z size bytes ht hi hz hsize hby hzs hsz v n xs hown ad m c news hl hnews h1 h63 hbytes hbase
  unfold Oper.wp
  simp [execOp, hop, resolve, invoke, builtin, hs, hx, hrun, Result.andThen]
  obtain ⟨va, vc, rfl⟩ : ∃ a c, v' = .slice a (n + m) c := by
    rcases row_form r1 with ⟨h, h0, _⟩ | ⟨g', c, h, _⟩
    · exact ⟨none, 0, by rw [h, h0]⟩
    · exact ⟨_, c, h⟩
  exact hK va vc w' (box r1) (box r2) (box r5)

set_option maxRecDepth 100000 in
set_option maxHeartbeats 4000000 in
theorem cut_any (B : Nat) (Z : Nat → Prop) (g : Nat) (v : Value) (s : Cab) (hl : s.lost < 1000000) (w : World) (x : CabAt B Z w g v s) :
    Calls Try.prog 24 #[.pointer (some ⟨g, 0, none⟩)] w fun e w' => e = .returned (.tuple #[]) ∧ CabAt B Z w' g (.slice none 0 0) ⟨s.d, s.fa, s.fc, s.fs, false, s.time, s.sent, [], s.lost + s.fl.length⟩ ∧ Steps g v (.slice none 0 0) w w' := by
  have X := box x
  obtain ⟨a, c, hv⟩ : ∃ a c, v = .slice a s.fl.length c := by
    rcases row_form x.row with ⟨h, h0, _⟩ | ⟨g', c, h, _⟩
    · exact ⟨none, 0, by rw [h, h0]⟩
    · exact ⟨_, c, h⟩
  have hll := x.fll
  obtain ⟨c0, c1, c2, c3, c4, c5, c6, fr, _, _, _, _, _, _, _, _, _, _, _, _⟩ := x
  rw [hv] at c5
  go_enter Try.func24, Try.ntmps24
  go_wp2_with fail
  go_region
  all_goals
    go_wp2_with fail
    go_end0
    refine ⟨rfl, X.out.mod0 (fun k hk => ?_) (cell_else (by decide) (cell_else (by decide) (cell_else (by decide) c0 _) _) _) (cell_else (by decide) (cell_else (by decide) (cell_else (by decide) c1 _) _) _) (cell_else (by decide) (cell_else (by decide) (cell_put c2 _) _) _) (cell_else (by decide) (cell_else (by decide) (cell_else (by decide) c3 _) _) _) (cell_else (by decide) (cell_else (by decide) (cell_else (by decide) c4 _) _) _) (cell_put (cell_else (by decide) (cell_else (by decide) c5 _) _) _) ?_ (fr_put (fr_put (fr_put fr _ _) _ _) _ _), ⟨?_, fun _ h => by cases h⟩⟩
    · show (((w.setCell _ _).setCell _ _).setCell _ _).heap[k]? = _
      rw [heap_else (fun e => hk e.symm), heap_else (fun e => hk e.symm), heap_else (fun e => hk e.symm)]
    · rw [show ((s.lost + s.fl.length : Nat) : Int) = (s.lost : Int) + (s.fl.length : Int) by push_cast; rfl]
      exact cell_else (by decide) (cell_put (cell_else (by decide) c6 _) _) _
    · exact (((((Apart.refl _ _ _).setCell 2 _).setCell 6 _).setCell 5 _).drew)
end Go.Proofs.Ytoeedbimhihbhaa
