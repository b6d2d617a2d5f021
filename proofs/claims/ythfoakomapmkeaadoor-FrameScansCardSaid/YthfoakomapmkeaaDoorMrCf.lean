/- The reference's Decode, its main case: its contract. -/
import Derived.Test.YthfoakomapmkeaaDoorMrD
import Derived.Maps.AppendAt
import Derived.Deep.RegionHeld3
import Derived.Deep.CutRange
namespace Go.Proofs.YthfoakomapmkeaaDoor
open Go.RowKit

/-- An append of bytes that lie in memory to an empty slice of the call's own, and where the outcome lies. -/
theorem step_app0 {ops : Array Oper} {o : Oper} {a : Act} {w : World} {K : Act → World → Prop} {Q : Exit → Act → World → Prop} {E : Prop} (hg : o.guard = none) (s x : Operand)
    (hop : o.op = .call { callee := .builtin .append, args := #[s, x], argTypes := #[22, 22] })
    (base eb : Nat) (hs : a.eval s = .slice (some ⟨eb, 0, none⟩) 0 0) (hown : Own base w (.slice (some ⟨eb, 0, none⟩) 0 0) 0 []) (ad : Addr) (m c : Nat) (news : List Nat) (hl : news.length = m)
    (hx : a.eval x = .slice (some ad) m c) (hat : At w ad news) (h63 : m ≤ 10000) (w0 : World) (hb : Below base w0 w) (hbase : base ≤ w.heap.size)
    (hK : ∀ a3 c3 w', Box (In w' a3 news) → Box (a3 = none → c3 = 0) → m ≤ c3 → Box (∀ q, a3 = some q → base ≤ q.block ∧ (q.block = eb ∨ q.block = w.heap.size) ∧ q.block < w'.heap.size) → Below base w0 w' → base ≤ w'.heap.size → w.grownBy w' (some eb) → K (a.put o.dst (.slice a3 m c3)) w') :
    if Region.wanted o (yielded ops a.tmps) = true then Oper.wp Tryd.prog o a w K Q else E := by
  have hw : Region.wanted o (yielded ops a.tmps) = true := by simp [Region.wanted, hg]
  rw [if_pos hw]
  obtain ⟨i0, hi, hz0, hz1, hz2⟩ := info_parts Tryd.infoU8
  obtain ⟨v', w', hrun, r1, r2, _, r5⟩ := run_append_own_at (P := Tryd.prog) w base 22 o.type 5 i0 (.int .u8 0) 1 1 Tryd.underlying22 hi hz0 hz1 hz2 rfl (by decide) (.slice (some ⟨eb, 0, none⟩) 0 0) 0 [] hown ad m c (news.map nU8) (by simp [hl]) (fun j u hj => by
    simp at hj
    obtain ⟨y, hy, rfl⟩ := hj
    have hjl : j < news.length := (List.getElem?_eq_some_iff.1 hy).1
    rw [hat j hjl]
    simp [List.getD_eq_getElem?_getD, hy]) (nU8_one _) (by unfold maxLen; omega) (by omega) hbase
  have own' : Own base w' v' m news := by simpa using r1
  obtain ⟨a3, c3, rfl, h1, h2, h3, h4⟩ := own_form2 hl own'
  unfold Oper.wp
  simp [execOp, hop, resolve, invoke, builtin, hs, hx, hrun, Result.andThen]
  refine hK a3 c3 w' (box h1) (box h2) h3 (box (fun q hq => ⟨h4 q hq, ?_, ?_⟩)) (own_below hown (Nat.le_refl _) hb hbase r2) (Nat.le_trans hbase r2.size) r2
  · subst hq
    rcases r5 with h5 | h5
    · exact .inl (Option.some.inj h5)
    · exact .inr (Option.some.inj h5)
  · subst hq
    obtain ⟨_, hc⟩ := own'
    rcases hc with ⟨h0, _⟩ | ⟨g', cap, cur, hv, _, hh, _⟩
    · cases h0
    · cases hv
      exact (Array.getElem?_eq_some_iff.1 hh).1
theorem Apart.ofGrown' {e : Nat} {w w' : World} (hb : w.grownBy w' (some e)) : Apart e e w w' := ⟨hb.os, hb.tape, hb.output, hb.size, fun k hk h1 _ => hb.block k hk (fun h => h1 (Option.some.inj h))⟩
theorem Pk5.grown {w w' : World} {g e : Nat} {y0 y1 y2 y3 y4 : Value} (x : Pk5 w g y0 y1 y2 y3 y4) (hg : w.grownBy w' (some e)) (hne : g ≠ e) : Pk5 w' g y0 y1 y2 y3 y4 :=
  x.apart (g := e) (h := e) (Apart.ofGrown' hg) hne hne
/-- What lies in memory behind the packet's reading. -/
def DecCut (w1 : World) (m : Nat) (ys : List Nat) (p0 p1 p2 p3 : Nat) (t : Value) (wx : World) : Prop :=
  ∃ (p : Nat) (a3 : Option Addr) (c3 : Nat), t = .pointer (some ⟨p, 0, none⟩) ∧ Pk5 wx p (nU8 p0) (.int .i64 p1) (.int .i64 p2) (.int .i64 p3) (.slice a3 m c3) ∧ In wx a3 ys ∧ (a3 = none → c3 = 0) ∧ m ≤ c3 ∧ (∀ q, a3 = some q → w1.heap.size ≤ q.block) ∧ w1.heap.size ≤ p ∧ Below w1.heap.size w1 wx
theorem decCut_put {w1 wx : World} {m : Nat} {ys : List Nat} (p0 p1 p2 p3 : Nat) {p : Nat} {a3 : Option Addr} {c3 : Nat} {v0 v1 v2 v3 v4 : Value} (hz : Pk5 wx p v0 v1 v2 v3 v4) (hi : In wx a3 ys) (hn : a3 = none → c3 = 0) (hc : m ≤ c3) (hq : ∀ q, a3 = some q → w1.heap.size ≤ q.block ∧ p ≠ q.block) (hp : w1.heap.size ≤ p) (hb : Below w1.heap.size w1 wx) :
    DecCut w1 m ys p0 p1 p2 p3 (.pointer (some ⟨p, 0, none⟩)) (put5 wx p (nU8 p0) (.int .i64 p1) (.int .i64 p2) (.int .i64 p3) (.slice a3 m c3)) :=
  ⟨p, a3, c3, rfl, pk5_put hz _ _ _ _ _, put5_in hi p _ _ _ _ _ (fun q h => (hq q h).2), hn, hc, fun q h => (hq q h).1, hp, put5_below hb hp _ _ _ _ _⟩

theorem le4_at (s : Nat) : ∀ k < 4, (Crc.le4 s).getD k 0 = s / 2 ^ (8 * k) % 256 := by
  intro k hk
  rcases (by omega : k = 0 ∨ k = 1 ∨ k = 2 ∨ k = 3) with rfl | rfl | rfl | rfl <;> simp [Crc.le4]
theorem own_empty (w : World) (B g : Nat) (hB : B ≤ w.heap.size) (hg : g = w.heap.size) : Own B (w.alloc (.cells #[] 5)) (.slice (some ⟨g, 0, none⟩) 0 0) 0 [] := own_lit w B 0 [] rfl hB (by omega) g hg
theorem pk5_newz (w : World) (g : Nat) (hg : g = w.heap.size) : Pk5 (w.alloc (.cells #[.int .u8 0, .int .i64 0, .int .i64 0, .int .i64 0, .slice none 0 0] 24)) g (nU8 0) (.int .i64 0) (.int .i64 0) (.int .i64 0) (.slice none 0 0) := pk5_new w 0 0 0 0 none 0 0 g hg

set_option maxRecDepth 100000 in
set_option maxHeartbeats 8000000 in
theorem rdec_main (b : Addr) (n c : Nat) (xs : List Nat) (hn : xs.length = n) (hx : ∀ x ∈ xs, x < 256) (hcap : n ≤ c) (h17 : ¬ n < 17) (hf : ¬ (64 < xs.getD 12 0 ∨ xs.getD 12 0 + 17 ≠ n)) (w : World) (hc : At w b xs) :
    Calls Tryd.prog 23 #[.slice (some b) n c] w (RDec xs w) := by
  have hn81 : n ≤ 81 := by omega
  have hlen : xs.getD 12 0 + 17 = n := by omega
  have d1 : decide ((n : Int) < 17) = false := decide_eq_false (by omega)
  have kb : Below w.heap.size w (w.alloc (.cells (pkC 0 0 0 0 none 0 0) 24)) := (Below.refl _ _).alloc (Nat.le_refl _) _
  have c12 := at_pos hc 12 (by omega) (by omega)
  have lb : b.block < w.heap.size := World.block_lt_of_cell? w ⟨b.block, b.off + 12, none⟩ c12
  have c0 := at_zero hc (by omega)
  have c1 := at_pos hc 1 (by omega) (by omega)
  have HX := box hx
  have HC := box hc
  have z1 : (12 : Int) < (n : Int) := by omega
  have d2 : decide ((64 : Int) < (xs.getD 12 0 : Int)) = false := decide_eq_false (by omega)
  have d3 : ((xs.getD 12 0 : Int) + 17 != (n : Int)) = false := by rw [bne_eq_false_iff_eq]; omega
  have HL := box hlen
  have lx : xs.getD 12 0 ≤ 64 := by omega
  clear hx hc hf hlen
  obtain ⟨x, hx12⟩ : ∃ x, xs.getD 12 0 = x := ⟨_, rfl⟩
  have HX12 := box hx12
  rw [hx12] at c12 d2 d3 HL lx
  clear hx12
  go_enter Tryd.func23, Tryd.ntmps23
  go_wp2_with fail
  have kz : (w.alloc (.cells (pkC 0 0 0 0 none 0 0) 24)).heap.size = w.heap.size + 1 := by show (w.heap.push _).size = _; rw [Array.size_push]
  have zc := fun j => World.cell?_alloc_mark w (pkC 0 0 0 0 none 0 0) 24 (0, 0) j
  have zf := (pk5_new w 0 0 0 0 none 0 0 w.heap.size rfl).zq
  have ZF := box zf
  clear zf
  generalize w.alloc (.cells (pkC 0 0 0 0 none 0 0) 24) = w1 at kb kz zc ZF ⊢
  have HC1 := box (show At w1 b xs from fun i hi => keepc kb (HC.out i hi))
  have e0 := at_zero HC1.out (show 0 < xs.length by omega)
  have e1 := at_pos HC1.out 1 (by omega) (by omega)
  have lb1 : b.block < w1.heap.size := by omega
  have x0 := getD_lt HX.out (show 0 < xs.length by omega)
  have x1 := getD_lt HX.out (show 1 < xs.length by omega)
  have lt5 : ∀ i, ∀ x ∈ (xs.drop i).take 5, x < 256 := fun i x hx => HX.out x (List.mem_of_mem_drop (List.mem_of_mem_take hx))
  have N1 := fun w' (h : Below w1.heap.size w1 w') => box (number_any ⟨b.block, b.off + 2, none⟩ 5 (c - 2) ((xs.drop 2).take 5) (by simp; omega) (by omega) (lt5 2) w' (at_drop (HC1.out.below h) 2 5 (by omega)))
  have N2 := fun w' (h : Below w1.heap.size w1 w') => box (number_any ⟨b.block, b.off + 7, none⟩ 5 (c - 7) ((xs.drop 7).take 5) (by simp; omega) (by omega) (lt5 7) w' (at_drop (HC1.out.below h) 7 5 (by omega)))
  have L5 := box lt5
  clear lt5
  clear c12 c0 c1 d1 d2 d3 z1 lb
  have y1 : (n : Int) - 4 ≤ (c : Int) := by omega
  have y2 : (13 : Int) ≤ (n : Int) - 4 := by omega
  have y3 : ((n : Int) - 4).toNat - 13 = n - 17 := by omega
  have y4 : (7 : Int) ≤ (c : Int) := by omega
  have y5 : (12 : Int) ≤ (c : Int) := by omega
  have y6 : (0 : Int) ≤ (n : Int) - 4 := by omega
  have y7 : IntKind.i64.wrap ((n : Int) - 4) = (n : Int) - 4 := by rw [IntKind.wrap_i64]; omega
  have y8 : (0 : Int) < (n : Int) := by omega
  have y9 : (1 : Int) < (n : Int) := by omega
  have y10 : 0 < n := by omega
  have y11 : ¬ c = 2 := by omega
  have y12 : ¬ c = 7 := by omega
  have y13 : ¬ c = 13 := by omega
  have y14 : IntKind.i64.wrap (xs.getD 1 0 : Int) = (xs.getD 1 0 : Int) := by rw [IntKind.wrap_i64]; omega
  have g0 : ∀ w' : World, Below w1.heap.size w1 w' → w'.cell? b = some (nU8 (xs.getD 0 0)) := fun w' h => keepc h e0
  have g1 : ∀ w' : World, Below w1.heap.size w1 w' → w'.cell? ⟨b.block, b.off + 1, none⟩ = some (nU8 (xs.getD 1 0)) := fun w' h => keepc h e1
  obtain ⟨p0, hp0⟩ : ∃ p, xs.getD 0 0 = p := ⟨_, rfl⟩
  obtain ⟨p1, hp1⟩ : ∃ p, xs.getD 1 0 = p := ⟨_, rfl⟩
  have HP01 := box (And.intro hp0 hp1)
  rw [hp0] at g0 x0
  rw [hp1] at g1 x1 y14
  clear hp0 hp1
  have KZ := box kz
  have ZC := box zc
  have KB := kb.size
  have LP : ((xs.drop 13).take (n - 17)).length = n - 17 := by simp; omega
  have bd : Below w1.heap.size w1 w1.drew := (Below.refl _ _).drew
  clear e0 e1 kz zc
  go_wp2_with fail
  go_cut [4] from 27 to 47 (fun t4 wx => DecCut w1 (n - 17) ((xs.drop 13).take (n - 17)) p0 p1 (numTo ((xs.drop 2).take 5) 5) (numTo ((xs.drop 7).take 5) 5) t4 wx)
  case first =>
    refine wp_region_held_drew (S := fun w' => Below w1.heap.size w1 w') (by kernel_rfl) (by exact bd) (fun hHeld => ?_)
    have hza : w1.drew.heap.size = w1.heap.size := rfl
    generalize w1.drew = wa at hza hHeld ⊢
    clear bd
    refine wpAnyH_take (i := 0) (oi := { dst := some 27, op := Go.Op.move (Go.Operand.tmp 0), type := 22, pos := "ref.go:55", after := #[], guard := none }) (v := ?_) rfl (by kernel_rfl) (by kernel_rfl) (by kernel_rfl) (fun _ _ _ h => h) (Or.inl ⟨by rfl, ?_⟩) (by assumption) ?_
    rotate_left
    · (intro w hSw; (try dsimp only at hSw); have f0 := g0 w hSw; have f1 := g1 w hSw; go_simp; (try with_reducible rfl))
    simp only [Act.put, List.setIfInBounds_toArray, List.set_cons_zero, List.set_cons_succ]
    refine wpAnyH_take (i := 1) (oi := { dst := some 28, op := Go.Op.indexAddr 22 (Go.Operand.tmp 27) (Go.Operand.const (Go.Value.int Go.IntKind.i64 0)), type := 0, pos := "ref.go:55", after := #[{ on := 0, ground := Go.Ground.data }], guard := none }) (v := ?_) rfl (by kernel_rfl) (by kernel_rfl) (by kernel_rfl) (fun _ _ _ h => h) (Or.inl ⟨by rfl, ?_⟩) (by assumption) ?_
    rotate_left
    · (intro w hSw; (try dsimp only at hSw); have f0 := g0 w hSw; have f1 := g1 w hSw; go_simp; (try with_reducible rfl))
    simp only [Act.put, List.setIfInBounds_toArray, List.set_cons_zero, List.set_cons_succ]
    refine wpAnyH_take (i := 2) (oi := { dst := some 29, op := Go.Op.load 5 (Go.Operand.tmp 28), type := 5, pos := "ref.go:55", after := #[{ on := 1, ground := Go.Ground.data }], guard := none }) (v := ?_) rfl (by kernel_rfl) (by kernel_rfl) (by kernel_rfl) (fun _ _ _ h => h) (Or.inl ⟨by rfl, ?_⟩) (by assumption) ?_
    rotate_left
    · (intro w hSw; (try dsimp only at hSw); have f0 := g0 w hSw; have f1 := g1 w hSw; go_simp; (try with_reducible rfl))
    simp only [Act.put, List.setIfInBounds_toArray, List.set_cons_zero, List.set_cons_succ]
    refine wpAnyH_take (i := 3) (oi := { dst := some 30, op := Go.Op.move (Go.Operand.tmp 0), type := 22, pos := "ref.go:55", after := #[], guard := none }) (v := ?_) rfl (by kernel_rfl) (by kernel_rfl) (by kernel_rfl) (fun _ _ _ h => h) (Or.inl ⟨by rfl, ?_⟩) (by assumption) ?_
    rotate_left
    · (intro w hSw; (try dsimp only at hSw); have f0 := g0 w hSw; have f1 := g1 w hSw; go_simp; (try with_reducible rfl))
    simp only [Act.put, List.setIfInBounds_toArray, List.set_cons_zero, List.set_cons_succ]
    refine wpAnyH_take (i := 4) (oi := { dst := some 31, op := Go.Op.indexAddr 22 (Go.Operand.tmp 30) (Go.Operand.const (Go.Value.int Go.IntKind.i64 1)), type := 0, pos := "ref.go:55", after := #[{ on := 3, ground := Go.Ground.data }], guard := none }) (v := ?_) rfl (by kernel_rfl) (by kernel_rfl) (by kernel_rfl) (fun _ _ _ h => h) (Or.inl ⟨by rfl, ?_⟩) (by assumption) ?_
    rotate_left
    · (intro w hSw; (try dsimp only at hSw); have f0 := g0 w hSw; have f1 := g1 w hSw; go_simp; (try with_reducible rfl))
    simp only [Act.put, List.setIfInBounds_toArray, List.set_cons_zero, List.set_cons_succ]
    refine wpAnyH_take (i := 5) (oi := { dst := some 32, op := Go.Op.load 5 (Go.Operand.tmp 31), type := 5, pos := "ref.go:55", after := #[{ on := 4, ground := Go.Ground.data }], guard := none }) (v := ?_) rfl (by kernel_rfl) (by kernel_rfl) (by kernel_rfl) (fun _ _ _ h => h) (Or.inl ⟨by rfl, ?_⟩) (by assumption) ?_
    rotate_left
    · (intro w hSw; (try dsimp only at hSw); have f0 := g0 w hSw; have f1 := g1 w hSw; go_simp; (try with_reducible rfl))
    simp only [Act.put, List.setIfInBounds_toArray, List.set_cons_zero, List.set_cons_succ]
    refine wpAnyH_take (i := 6) (oi := { dst := some 33, op := Go.Op.convert 5 3 (Go.Operand.tmp 32), type := 3, pos := "ref.go:55", after := #[{ on := 5, ground := Go.Ground.data }], guard := none }) (v := ?_) rfl (by kernel_rfl) (by kernel_rfl) (by kernel_rfl) (fun _ _ _ h => h) (Or.inl ⟨by rfl, ?_⟩) (by assumption) ?_
    rotate_left
    · (intro w hSw; (try dsimp only at hSw); have f0 := g0 w hSw; have f1 := g1 w hSw; go_simp; (try with_reducible rfl))
    simp only [Act.put, List.setIfInBounds_toArray, List.set_cons_zero, List.set_cons_succ]
    refine wpAnyH_take (i := 7) (oi := { dst := some 34, op := Go.Op.move (Go.Operand.tmp 0), type := 22, pos := "ref.go:55", after := #[], guard := none }) (v := ?_) rfl (by kernel_rfl) (by kernel_rfl) (by kernel_rfl) (fun _ _ _ h => h) (Or.inl ⟨by rfl, ?_⟩) (by assumption) ?_
    rotate_left
    · (intro w hSw; (try dsimp only at hSw); have f0 := g0 w hSw; have f1 := g1 w hSw; go_simp; (try with_reducible rfl))
    simp only [Act.put, List.setIfInBounds_toArray, List.set_cons_zero, List.set_cons_succ]
    refine wpAnyH_take (i := 8) (oi := { dst := some 35, op := Go.Op.slice 22 (Go.Operand.tmp 34) (some (Go.Operand.const (Go.Value.int Go.IntKind.i64 2))) (some (Go.Operand.const (Go.Value.int Go.IntKind.i64 7))) none, type := 22, pos := "ref.go:55", after := #[{ on := 7, ground := Go.Ground.data }], guard := none }) (v := ?_) rfl (by kernel_rfl) (by kernel_rfl) (by kernel_rfl) (fun _ _ _ h => h) (Or.inl ⟨by rfl, ?_⟩) (by assumption) ?_
    rotate_left
    · (intro w hSw; (try dsimp only at hSw); have f0 := g0 w hSw; have f1 := g1 w hSw; go_simp; (try with_reducible rfl))
    simp only [Act.put, List.setIfInBounds_toArray, List.set_cons_zero, List.set_cons_succ]
    refine wpAnyH_take (i := 10) (oi := { dst := some 37, op := Go.Op.move (Go.Operand.tmp 0), type := 22, pos := "ref.go:55", after := #[], guard := none }) (v := ?_) rfl (by kernel_rfl) (by kernel_rfl) (by kernel_rfl) (fun _ _ _ h => h) (Or.inl ⟨by rfl, ?_⟩) (by assumption) ?_
    rotate_left
    · (intro w hSw; (try dsimp only at hSw); have f0 := g0 w hSw; have f1 := g1 w hSw; go_simp; (try with_reducible rfl))
    simp only [Act.put, List.setIfInBounds_toArray, List.set_cons_zero, List.set_cons_succ]
    refine wpAnyH_take (i := 11) (oi := { dst := some 38, op := Go.Op.slice 22 (Go.Operand.tmp 37) (some (Go.Operand.const (Go.Value.int Go.IntKind.i64 7))) (some (Go.Operand.const (Go.Value.int Go.IntKind.i64 12))) none, type := 22, pos := "ref.go:55", after := #[{ on := 10, ground := Go.Ground.data }], guard := none }) (v := ?_) rfl (by kernel_rfl) (by kernel_rfl) (by kernel_rfl) (fun _ _ _ h => h) (Or.inl ⟨by rfl, ?_⟩) (by assumption) ?_
    rotate_left
    · (intro w hSw; (try dsimp only at hSw); have f0 := g0 w hSw; have f1 := g1 w hSw; go_simp; (try with_reducible rfl))
    simp only [Act.put, List.setIfInBounds_toArray, List.set_cons_zero, List.set_cons_succ]
    refine wpAnyH_take (i := 14) (oi := { dst := some 41, op := Go.Op.move (Go.Operand.tmp 0), type := 22, pos := "ref.go:55", after := #[], guard := none }) (v := ?_) rfl (by kernel_rfl) (by kernel_rfl) (by kernel_rfl) (fun _ _ _ h => h) (Or.inl ⟨by rfl, ?_⟩) (by assumption) ?_
    rotate_left
    · (intro w hSw; (try dsimp only at hSw); have f0 := g0 w hSw; have f1 := g1 w hSw; go_simp; (try with_reducible rfl))
    simp only [Act.put, List.setIfInBounds_toArray, List.set_cons_zero, List.set_cons_succ]
    refine wpAnyH_take (i := 15) (oi := { dst := some 42, op := Go.Op.move (Go.Operand.tmp 0), type := 22, pos := "ref.go:55", after := #[], guard := none }) (v := ?_) rfl (by kernel_rfl) (by kernel_rfl) (by kernel_rfl) (fun _ _ _ h => h) (Or.inl ⟨by rfl, ?_⟩) (by assumption) ?_
    rotate_left
    · (intro w hSw; (try dsimp only at hSw); have f0 := g0 w hSw; have f1 := g1 w hSw; go_simp; (try with_reducible rfl))
    simp only [Act.put, List.setIfInBounds_toArray, List.set_cons_zero, List.set_cons_succ]
    refine wpAnyH_take (i := 16) (oi := { dst := some 43, op := Go.Op.call { callee := Go.Callee.builtin Go.Builtin.len, args := #[Go.Operand.tmp 42], argTypes := #[22] }, type := 3, pos := "ref.go:55", after := #[{ on := 15, ground := Go.Ground.data }], guard := none }) (v := ?_) rfl (by kernel_rfl) (by kernel_rfl) (by kernel_rfl) (fun _ _ _ h => h) (Or.inl ⟨by rfl, ?_⟩) (by assumption) ?_
    rotate_left
    · (intro w hSw; (try dsimp only at hSw); have f0 := g0 w hSw; have f1 := g1 w hSw; go_simp; (try with_reducible rfl))
    simp only [Act.put, List.setIfInBounds_toArray, List.set_cons_zero, List.set_cons_succ]
    refine wpAnyH_take (i := 17) (oi := { dst := some 44, op := Go.Op.binOp Go.BinOp.sub 3 (Go.Operand.tmp 43) (Go.Operand.const (Go.Value.int Go.IntKind.i64 4)) 3, type := 3, pos := "ref.go:55", after := #[{ on := 16, ground := Go.Ground.data }], guard := none }) (v := ?_) rfl (by kernel_rfl) (by kernel_rfl) (by kernel_rfl) (fun _ _ _ h => h) (Or.inl ⟨by rfl, ?_⟩) (by assumption) ?_
    rotate_left
    · (intro w hSw; (try dsimp only at hSw); have f0 := g0 w hSw; have f1 := g1 w hSw; go_simp; (try with_reducible rfl))
    simp only [Act.put, List.setIfInBounds_toArray, List.set_cons_zero, List.set_cons_succ]
    refine wpAnyH_take (i := 18) (oi := { dst := some 45, op := Go.Op.slice 22 (Go.Operand.tmp 41) (some (Go.Operand.const (Go.Value.int Go.IntKind.i64 13))) (some (Go.Operand.tmp 44)) none, type := 22, pos := "ref.go:55", after := #[{ on := 14, ground := Go.Ground.data }, { on := 17, ground := Go.Ground.data }], guard := none }) (v := ?_) rfl (by kernel_rfl) (by kernel_rfl) (by kernel_rfl) (fun _ _ _ h => h) (Or.inl ⟨by rfl, ?_⟩) (by assumption) ?_
    rotate_left
    · (intro w hSw; (try dsimp only at hSw); have f0 := g0 w hSw; have f1 := g1 w hSw; go_simp; (try with_reducible rfl))
    simp only [Act.put, List.setIfInBounds_toArray, List.set_cons_zero, List.set_cons_succ]
    refine wpAnyH_ready (rs := [9, 13, 21]) (by kernel_rfl) (by simp) ?_
    refine (AllReadyH.cons (o := { dst := some 36, op := Go.Op.call { callee := Go.Callee.value (Go.Operand.func 45), args := #[Go.Operand.tmp 35], argTypes := #[22] }, type := 3, pos := "ref.go:55", after := #[{ on := 8, ground := Go.Ground.data }], guard := none }) rfl (fun K hK => ?_) (AllReadyH.cons (o := { dst := some 40, op := Go.Op.buildSlice 22 0 #[], type := 22, pos := "ref.go:55", after := #[], guard := none }) rfl (fun K hK => ?_) (AllReadyH.cons (o := { dst := some 4, op := Go.Op.alloc 24, type := 0, pos := "ref.go:55", after := #[], guard := none }) rfl (fun K hK => ?_) AllReadyH.nil)))
    · go_simp
      refine (N1 _ hHeld).out.mono ?_
      rintro e wp ⟨rfl, rfl⟩
      refine hK.out _ _ (by exact hHeld) (fun hHeld1 => ?_)
      clear hK K
      refine wpAnyH_ready (rs := [12, 13, 21]) (by kernel_rfl) (by simp) ?_
      refine (AllReadyH.cons (o := { dst := some 39, op := Go.Op.call { callee := Go.Callee.value (Go.Operand.func 45), args := #[Go.Operand.tmp 38], argTypes := #[22] }, type := 3, pos := "ref.go:55", after := #[{ on := 11, ground := Go.Ground.data }, { on := 9, ground := Go.Ground.chain }], guard := none }) rfl (fun K hK => ?_) (AllReadyH.cons (o := { dst := some 40, op := Go.Op.buildSlice 22 0 #[], type := 22, pos := "ref.go:55", after := #[], guard := none }) rfl (fun K hK => ?_) (AllReadyH.cons (o := { dst := some 4, op := Go.Op.alloc 24, type := 0, pos := "ref.go:55", after := #[], guard := none }) rfl (fun K hK => ?_) AllReadyH.nil)))
      · go_simp
        refine (N2 _ hHeld1).out.mono ?_
        rintro e wp ⟨rfl, rfl⟩
        refine hK.out _ _ (by exact hHeld1) (fun hHeld2 => ?_)
        clear hK K
        refine wpAnyH_ready (rs := [13, 21]) (by kernel_rfl) (by simp) ?_
        refine (AllReadyH.cons (o := { dst := some 40, op := Go.Op.buildSlice 22 0 #[], type := 22, pos := "ref.go:55", after := #[], guard := none }) rfl (fun K hK => ?_) (AllReadyH.cons (o := { dst := some 4, op := Go.Op.alloc 24, type := 0, pos := "ref.go:55", after := #[], guard := none }) rfl (fun K hK => ?_) AllReadyH.nil))
        · go_simp
          have kx3 := Below.alloc hHeld2 hHeld2.size (.cells #[] 5)
          have hz3 : (wa.alloc (.cells #[] 5)).heap.size = wa.heap.size + 1 := by show (wa.heap.push _).size = _; rw [Array.size_push]
          have OE := box (own_empty wa w1.heap.size (w1.heap.size) hHeld2.size (by omega))
          refine hK.out _ _ (by exact kx3) (fun hHeld3 => ?_)
          clear hK K
          clear kx3
          generalize wa.alloc (.cells #[] 5) = wx3 at hz3 OE hHeld3 ⊢
          refine wpAnyH_ready (rs := [19, 21]) (by kernel_rfl) (by simp) ?_
          refine (AllReadyH.cons (o := { dst := some 46, op := Go.Op.call { callee := Go.Callee.builtin Go.Builtin.append, args := #[Go.Operand.tmp 40, Go.Operand.tmp 45], argTypes := #[22, 22] }, type := 22, pos := "ref.go:55", after := #[{ on := 13, ground := Go.Ground.data }, { on := 18, ground := Go.Ground.data }, { on := 12, ground := Go.Ground.chain }], guard := none }) rfl (fun K hK => ?_) (AllReadyH.cons (o := { dst := some 4, op := Go.Op.alloc 24, type := 0, pos := "ref.go:55", after := #[], guard := none }) rfl (fun K hK => ?_) AllReadyH.nil))
          · refine step_app0 rfl (.tmp 40) (.tmp 45) rfl w1.heap.size (w1.heap.size) rfl OE.out ⟨b.block, b.off + 13, none⟩ (n - 17) (c - 13) ((xs.drop 13).take (n - 17)) LP rfl (at_drop (HC1.out.below hHeld3) 13 (n - 17) (by omega)) (by omega) w1 hHeld3 hHeld3.size ?_
            intro a3 c3 w3 HI3 HN3 hc3 HQ3 hb3 hs3 hg3
            have hx3 : ∀ q, a3 = some q → w1.heap.size ≤ q.block ∧ w3.heap.size ≠ q.block := fun q hq => by
              have h := HQ3.out q hq
              refine ⟨h.1, ?_⟩
              omega
            clear HQ3 hg3 OE
            refine hK.out _ _ (by exact hb3) (fun hHeld4 => ?_)
            clear hK K
            refine wpAnyH_take (i := 20) (oi := { dst := some 47, op := Go.Op.build 24 #[(0, Go.Operand.tmp 29), (1, Go.Operand.tmp 33), (2, Go.Operand.tmp 36), (3, Go.Operand.tmp 39), (4, Go.Operand.tmp 46)], type := 24, pos := "ref.go:55", after := #[{ on := 2, ground := Go.Ground.data }, { on := 6, ground := Go.Ground.data }, { on := 9, ground := Go.Ground.data }, { on := 12, ground := Go.Ground.data }, { on := 19, ground := Go.Ground.data }], guard := none }) (v := ?_) rfl (by kernel_rfl) (by kernel_rfl) (by kernel_rfl) (fun _ _ _ h => h) (Or.inl ⟨by rfl, ?_⟩) (by assumption) ?_
            rotate_left
            · (intro w hSw; (try dsimp only at hSw); go_simp; (try with_reducible rfl))
            simp only [Act.put, List.setIfInBounds_toArray, List.set_cons_zero, List.set_cons_succ]
            refine wpAnyH_ready (rs := [21]) (by kernel_rfl) (by simp) ?_
            refine (AllReadyH.cons (o := { dst := some 4, op := Go.Op.alloc 24, type := 0, pos := "ref.go:55", after := #[], guard := none }) rfl (fun K hK => ?_) AllReadyH.nil)
            go_simp
            have kx5 := Below.alloc hHeld4 hHeld4.size (.cells #[.int .u8 0, .int .i64 0, .int .i64 0, .int .i64 0, .slice none 0 0] 24)
            have hz5 : (w3.alloc (.cells #[.int .u8 0, .int .i64 0, .int .i64 0, .int .i64 0, .slice none 0 0] 24)).heap.size = w3.heap.size + 1 := by show (w3.heap.push _).size = _; rw [Array.size_push]
            have PZ := box (pk5_newz w3 (w3.heap.size) (by omega))
            replace HI3 := box (HI3.out.below ((Below.refl _ _).alloc (Nat.le_refl _) (.cells #[.int .u8 0, .int .i64 0, .int .i64 0, .int .i64 0, .slice none 0 0] 24)))
            refine hK.out _ _ (by exact kx5) (fun hHeld5 => ?_)
            clear hK K
            clear kx5
            generalize w3.alloc (.cells #[.int .u8 0, .int .i64 0, .int .i64 0, .int .i64 0, .slice none 0 0] 24) = wx5 at hz5 PZ HI3 hHeld5 ⊢
            have DC := decCut_put (w1 := w1) (ys := (xs.drop 13).take (n - 17)) p0 p1 (numTo ((xs.drop 2).take 5) 5) (numTo ((xs.drop 7).take 5) 5) PZ.out HI3.out HN3.out hc3 hx3 (by omega) hHeld5
            obtain ⟨qz0, qz1, qz2, qz3, qz4, qzz⟩ := PZ.out
            refine wpAnyH_ready (rs := [22]) (by kernel_rfl) (by simp) ?_
            refine (AllReadyH.cons (o := { dst := none, op := Go.Op.store 24 (Go.Operand.tmp 4) (Go.Operand.tmp 47), type := 0, pos := "ref.go:55", after := #[{ on := 21, ground := Go.Ground.data }, { on := 20, ground := Go.Ground.data }, { on := 19, ground := Go.Ground.chain }, { on := 0, ground := Go.Ground.phase }, { on := 1, ground := Go.Ground.phase }, { on := 2, ground := Go.Ground.phase }, { on := 3, ground := Go.Ground.phase }, { on := 4, ground := Go.Ground.phase }, { on := 5, ground := Go.Ground.phase }, { on := 6, ground := Go.Ground.phase }, { on := 7, ground := Go.Ground.phase }, { on := 8, ground := Go.Ground.phase }, { on := 9, ground := Go.Ground.phase }, { on := 10, ground := Go.Ground.phase }, { on := 11, ground := Go.Ground.phase }, { on := 12, ground := Go.Ground.phase }, { on := 13, ground := Go.Ground.phase }, { on := 14, ground := Go.Ground.phase }, { on := 15, ground := Go.Ground.phase }, { on := 16, ground := Go.Ground.phase }, { on := 17, ground := Go.Ground.phase }, { on := 18, ground := Go.Ground.phase }, { on := 19, ground := Go.Ground.phase }, { on := 20, ground := Go.Ground.phase }, { on := 21, ground := Go.Ground.phase }], guard := none }) rfl (fun K hK => ?_) AllReadyH.nil)
            go_simp
            refine hK.out _ _ (by exact put5_below hHeld5 (by omega) _ _ _ _ _) (fun hHeld99 => ?_)
            clear hK K
            refine wpAnyH_done (by kernel_rfl) ?_ _
            go_wp2_with fail
            go_meet
            exact DC
          · go_simp
            have kx4 := Below.alloc hHeld3 hHeld3.size (.cells #[.int .u8 0, .int .i64 0, .int .i64 0, .int .i64 0, .slice none 0 0] 24)
            have hz4 : (wx3.alloc (.cells #[.int .u8 0, .int .i64 0, .int .i64 0, .int .i64 0, .slice none 0 0] 24)).heap.size = wx3.heap.size + 1 := by show (wx3.heap.push _).size = _; rw [Array.size_push]
            have PZ := box (pk5_newz wx3 (w1.heap.size + 1) (by omega))
            replace OE := box (own_later OE.out ((Below.refl _ _).alloc (Nat.le_refl _) (.cells #[.int .u8 0, .int .i64 0, .int .i64 0, .int .i64 0, .slice none 0 0] 24)))
            refine hK.out _ _ (by exact kx4) (fun hHeld4 => ?_)
            clear hK K
            clear kx4
            generalize wx3.alloc (.cells #[.int .u8 0, .int .i64 0, .int .i64 0, .int .i64 0, .slice none 0 0] 24) = wx4 at hz4 PZ OE hHeld4 ⊢
            refine wpAnyH_ready (rs := [19]) (by kernel_rfl) (by simp) ?_
            refine (AllReadyH.cons (o := { dst := some 46, op := Go.Op.call { callee := Go.Callee.builtin Go.Builtin.append, args := #[Go.Operand.tmp 40, Go.Operand.tmp 45], argTypes := #[22, 22] }, type := 22, pos := "ref.go:55", after := #[{ on := 13, ground := Go.Ground.data }, { on := 18, ground := Go.Ground.data }, { on := 12, ground := Go.Ground.chain }], guard := none }) rfl (fun K hK => ?_) AllReadyH.nil)
            refine step_app0 rfl (.tmp 40) (.tmp 45) rfl w1.heap.size (w1.heap.size) rfl OE.out ⟨b.block, b.off + 13, none⟩ (n - 17) (c - 13) ((xs.drop 13).take (n - 17)) LP rfl (at_drop (HC1.out.below hHeld4) 13 (n - 17) (by omega)) (by omega) w1 hHeld4 hHeld4.size ?_
            intro a3 c3 w3 HI3 HN3 hc3 HQ3 hb3 hs3 hg3
            have hx3 : ∀ q, a3 = some q → w1.heap.size ≤ q.block ∧ w1.heap.size + 1 ≠ q.block := fun q hq => by
              have h := HQ3.out q hq
              refine ⟨h.1, ?_⟩
              omega
            replace PZ := box (PZ.out.grown hg3 (by omega))
            clear HQ3 hg3 OE
            refine hK.out _ _ (by exact hb3) (fun hHeld5 => ?_)
            clear hK K
            refine wpAnyH_take (i := 20) (oi := { dst := some 47, op := Go.Op.build 24 #[(0, Go.Operand.tmp 29), (1, Go.Operand.tmp 33), (2, Go.Operand.tmp 36), (3, Go.Operand.tmp 39), (4, Go.Operand.tmp 46)], type := 24, pos := "ref.go:55", after := #[{ on := 2, ground := Go.Ground.data }, { on := 6, ground := Go.Ground.data }, { on := 9, ground := Go.Ground.data }, { on := 12, ground := Go.Ground.data }, { on := 19, ground := Go.Ground.data }], guard := none }) (v := ?_) rfl (by kernel_rfl) (by kernel_rfl) (by kernel_rfl) (fun _ _ _ h => h) (Or.inl ⟨by rfl, ?_⟩) (by assumption) ?_
            rotate_left
            · (intro w hSw; (try dsimp only at hSw); go_simp; (try with_reducible rfl))
            simp only [Act.put, List.setIfInBounds_toArray, List.set_cons_zero, List.set_cons_succ]
            have DC := decCut_put (w1 := w1) (ys := (xs.drop 13).take (n - 17)) p0 p1 (numTo ((xs.drop 2).take 5) 5) (numTo ((xs.drop 7).take 5) 5) PZ.out HI3.out HN3.out hc3 hx3 (by omega) hHeld5
            obtain ⟨qz0, qz1, qz2, qz3, qz4, qzz⟩ := PZ.out
            refine wpAnyH_ready (rs := [22]) (by kernel_rfl) (by simp) ?_
            refine (AllReadyH.cons (o := { dst := none, op := Go.Op.store 24 (Go.Operand.tmp 4) (Go.Operand.tmp 47), type := 0, pos := "ref.go:55", after := #[{ on := 21, ground := Go.Ground.data }, { on := 20, ground := Go.Ground.data }, { on := 19, ground := Go.Ground.chain }, { on := 0, ground := Go.Ground.phase }, { on := 1, ground := Go.Ground.phase }, { on := 2, ground := Go.Ground.phase }, { on := 3, ground := Go.Ground.phase }, { on := 4, ground := Go.Ground.phase }, { on := 5, ground := Go.Ground.phase }, { on := 6, ground := Go.Ground.phase }, { on := 7, ground := Go.Ground.phase }, { on := 8, ground := Go.Ground.phase }, { on := 9, ground := Go.Ground.phase }, { on := 10, ground := Go.Ground.phase }, { on := 11, ground := Go.Ground.phase }, { on := 12, ground := Go.Ground.phase }, { on := 13, ground := Go.Ground.phase }, { on := 14, ground := Go.Ground.phase }, { on := 15, ground := Go.Ground.phase }, { on := 16, ground := Go.Ground.phase }, { on := 17, ground := Go.Ground.phase }, { on := 18, ground := Go.Ground.phase }, { on := 19, ground := Go.Ground.phase }, { on := 20, ground := Go.Ground.phase }, { on := 21, ground := Go.Ground.phase }], guard := none }) rfl (fun K hK => ?_) AllReadyH.nil)
            go_simp
            refine hK.out _ _ (by exact put5_below hHeld5 (by omega) _ _ _ _ _) (fun hHeld99 => ?_)
            clear hK K
            refine wpAnyH_done (by kernel_rfl) ?_ _
            go_wp2_with fail
            go_meet
            exact DC
        · go_simp
          have kx3 := Below.alloc hHeld2 hHeld2.size (.cells #[.int .u8 0, .int .i64 0, .int .i64 0, .int .i64 0, .slice none 0 0] 24)
          have hz3 : (wa.alloc (.cells #[.int .u8 0, .int .i64 0, .int .i64 0, .int .i64 0, .slice none 0 0] 24)).heap.size = wa.heap.size + 1 := by show (wa.heap.push _).size = _; rw [Array.size_push]
          have PZ := box (pk5_newz wa (w1.heap.size) (by omega))
          refine hK.out _ _ (by exact kx3) (fun hHeld3 => ?_)
          clear hK K
          clear kx3
          generalize wa.alloc (.cells #[.int .u8 0, .int .i64 0, .int .i64 0, .int .i64 0, .slice none 0 0] 24) = wx3 at hz3 PZ hHeld3 ⊢
          refine wpAnyH_ready (rs := [13]) (by kernel_rfl) (by simp) ?_
          refine (AllReadyH.cons (o := { dst := some 40, op := Go.Op.buildSlice 22 0 #[], type := 22, pos := "ref.go:55", after := #[], guard := none }) rfl (fun K hK => ?_) AllReadyH.nil)
          go_simp
          have kx4 := Below.alloc hHeld3 hHeld3.size (.cells #[] 5)
          have hz4 : (wx3.alloc (.cells #[] 5)).heap.size = wx3.heap.size + 1 := by show (wx3.heap.push _).size = _; rw [Array.size_push]
          have OE := box (own_empty wx3 w1.heap.size (w1.heap.size + 1) hHeld3.size (by omega))
          replace PZ := box (PZ.out.keep ((Below.refl _ _).alloc (Nat.le_refl _) (.cells #[] 5)))
          refine hK.out _ _ (by exact kx4) (fun hHeld4 => ?_)
          clear hK K
          clear kx4
          generalize wx3.alloc (.cells #[] 5) = wx4 at hz4 OE PZ hHeld4 ⊢
          refine wpAnyH_ready (rs := [19]) (by kernel_rfl) (by simp) ?_
          refine (AllReadyH.cons (o := { dst := some 46, op := Go.Op.call { callee := Go.Callee.builtin Go.Builtin.append, args := #[Go.Operand.tmp 40, Go.Operand.tmp 45], argTypes := #[22, 22] }, type := 22, pos := "ref.go:55", after := #[{ on := 13, ground := Go.Ground.data }, { on := 18, ground := Go.Ground.data }, { on := 12, ground := Go.Ground.chain }], guard := none }) rfl (fun K hK => ?_) AllReadyH.nil)
          refine step_app0 rfl (.tmp 40) (.tmp 45) rfl w1.heap.size (w1.heap.size + 1) rfl OE.out ⟨b.block, b.off + 13, none⟩ (n - 17) (c - 13) ((xs.drop 13).take (n - 17)) LP rfl (at_drop (HC1.out.below hHeld4) 13 (n - 17) (by omega)) (by omega) w1 hHeld4 hHeld4.size ?_
          intro a3 c3 w3 HI3 HN3 hc3 HQ3 hb3 hs3 hg3
          have hx3 : ∀ q, a3 = some q → w1.heap.size ≤ q.block ∧ w1.heap.size ≠ q.block := fun q hq => by
            have h := HQ3.out q hq
            refine ⟨h.1, ?_⟩
            omega
          replace PZ := box (PZ.out.grown hg3 (by omega))
          clear HQ3 hg3 OE
          refine hK.out _ _ (by exact hb3) (fun hHeld5 => ?_)
          clear hK K
          refine wpAnyH_take (i := 20) (oi := { dst := some 47, op := Go.Op.build 24 #[(0, Go.Operand.tmp 29), (1, Go.Operand.tmp 33), (2, Go.Operand.tmp 36), (3, Go.Operand.tmp 39), (4, Go.Operand.tmp 46)], type := 24, pos := "ref.go:55", after := #[{ on := 2, ground := Go.Ground.data }, { on := 6, ground := Go.Ground.data }, { on := 9, ground := Go.Ground.data }, { on := 12, ground := Go.Ground.data }, { on := 19, ground := Go.Ground.data }], guard := none }) (v := ?_) rfl (by kernel_rfl) (by kernel_rfl) (by kernel_rfl) (fun _ _ _ h => h) (Or.inl ⟨by rfl, ?_⟩) (by assumption) ?_
          rotate_left
          · (intro w hSw; (try dsimp only at hSw); go_simp; (try with_reducible rfl))
          simp only [Act.put, List.setIfInBounds_toArray, List.set_cons_zero, List.set_cons_succ]
          have DC := decCut_put (w1 := w1) (ys := (xs.drop 13).take (n - 17)) p0 p1 (numTo ((xs.drop 2).take 5) 5) (numTo ((xs.drop 7).take 5) 5) PZ.out HI3.out HN3.out hc3 hx3 (by omega) hHeld5
          obtain ⟨qz0, qz1, qz2, qz3, qz4, qzz⟩ := PZ.out
          refine wpAnyH_ready (rs := [22]) (by kernel_rfl) (by simp) ?_
          refine (AllReadyH.cons (o := { dst := none, op := Go.Op.store 24 (Go.Operand.tmp 4) (Go.Operand.tmp 47), type := 0, pos := "ref.go:55", after := #[{ on := 21, ground := Go.Ground.data }, { on := 20, ground := Go.Ground.data }, { on := 19, ground := Go.Ground.chain }, { on := 0, ground := Go.Ground.phase }, { on := 1, ground := Go.Ground.phase }, { on := 2, ground := Go.Ground.phase }, { on := 3, ground := Go.Ground.phase }, { on := 4, ground := Go.Ground.phase }, { on := 5, ground := Go.Ground.phase }, { on := 6, ground := Go.Ground.phase }, { on := 7, ground := Go.Ground.phase }, { on := 8, ground := Go.Ground.phase }, { on := 9, ground := Go.Ground.phase }, { on := 10, ground := Go.Ground.phase }, { on := 11, ground := Go.Ground.phase }, { on := 12, ground := Go.Ground.phase }, { on := 13, ground := Go.Ground.phase }, { on := 14, ground := Go.Ground.phase }, { on := 15, ground := Go.Ground.phase }, { on := 16, ground := Go.Ground.phase }, { on := 17, ground := Go.Ground.phase }, { on := 18, ground := Go.Ground.phase }, { on := 19, ground := Go.Ground.phase }, { on := 20, ground := Go.Ground.phase }, { on := 21, ground := Go.Ground.phase }], guard := none }) rfl (fun K hK => ?_) AllReadyH.nil)
          go_simp
          refine hK.out _ _ (by exact put5_below hHeld5 (by omega) _ _ _ _ _) (fun hHeld99 => ?_)
          clear hK K
          refine wpAnyH_done (by kernel_rfl) ?_ _
          go_wp2_with fail
          go_meet
          exact DC
      · go_simp
        have kx2 := Below.alloc hHeld1 hHeld1.size (.cells #[] 5)
        have hz2 : (wa.alloc (.cells #[] 5)).heap.size = wa.heap.size + 1 := by show (wa.heap.push _).size = _; rw [Array.size_push]
        have OE := box (own_empty wa w1.heap.size (w1.heap.size) hHeld1.size (by omega))
        refine hK.out _ _ (by exact kx2) (fun hHeld2 => ?_)
        clear hK K
        clear kx2
        generalize wa.alloc (.cells #[] 5) = wx2 at hz2 OE hHeld2 ⊢
        refine wpAnyH_ready (rs := [12, 21]) (by kernel_rfl) (by simp) ?_
        refine (AllReadyH.cons (o := { dst := some 39, op := Go.Op.call { callee := Go.Callee.value (Go.Operand.func 45), args := #[Go.Operand.tmp 38], argTypes := #[22] }, type := 3, pos := "ref.go:55", after := #[{ on := 11, ground := Go.Ground.data }, { on := 9, ground := Go.Ground.chain }], guard := none }) rfl (fun K hK => ?_) (AllReadyH.cons (o := { dst := some 4, op := Go.Op.alloc 24, type := 0, pos := "ref.go:55", after := #[], guard := none }) rfl (fun K hK => ?_) AllReadyH.nil))
        · go_simp
          refine (N2 _ hHeld2).out.mono ?_
          rintro e wp ⟨rfl, rfl⟩
          refine hK.out _ _ (by exact hHeld2) (fun hHeld3 => ?_)
          clear hK K
          refine wpAnyH_ready (rs := [19, 21]) (by kernel_rfl) (by simp) ?_
          refine (AllReadyH.cons (o := { dst := some 46, op := Go.Op.call { callee := Go.Callee.builtin Go.Builtin.append, args := #[Go.Operand.tmp 40, Go.Operand.tmp 45], argTypes := #[22, 22] }, type := 22, pos := "ref.go:55", after := #[{ on := 13, ground := Go.Ground.data }, { on := 18, ground := Go.Ground.data }, { on := 12, ground := Go.Ground.chain }], guard := none }) rfl (fun K hK => ?_) (AllReadyH.cons (o := { dst := some 4, op := Go.Op.alloc 24, type := 0, pos := "ref.go:55", after := #[], guard := none }) rfl (fun K hK => ?_) AllReadyH.nil))
          · refine step_app0 rfl (.tmp 40) (.tmp 45) rfl w1.heap.size (w1.heap.size) rfl OE.out ⟨b.block, b.off + 13, none⟩ (n - 17) (c - 13) ((xs.drop 13).take (n - 17)) LP rfl (at_drop (HC1.out.below hHeld3) 13 (n - 17) (by omega)) (by omega) w1 hHeld3 hHeld3.size ?_
            intro a3 c3 w3 HI3 HN3 hc3 HQ3 hb3 hs3 hg3
            have hx3 : ∀ q, a3 = some q → w1.heap.size ≤ q.block ∧ w3.heap.size ≠ q.block := fun q hq => by
              have h := HQ3.out q hq
              refine ⟨h.1, ?_⟩
              omega
            clear HQ3 hg3 OE
            refine hK.out _ _ (by exact hb3) (fun hHeld4 => ?_)
            clear hK K
            refine wpAnyH_take (i := 20) (oi := { dst := some 47, op := Go.Op.build 24 #[(0, Go.Operand.tmp 29), (1, Go.Operand.tmp 33), (2, Go.Operand.tmp 36), (3, Go.Operand.tmp 39), (4, Go.Operand.tmp 46)], type := 24, pos := "ref.go:55", after := #[{ on := 2, ground := Go.Ground.data }, { on := 6, ground := Go.Ground.data }, { on := 9, ground := Go.Ground.data }, { on := 12, ground := Go.Ground.data }, { on := 19, ground := Go.Ground.data }], guard := none }) (v := ?_) rfl (by kernel_rfl) (by kernel_rfl) (by kernel_rfl) (fun _ _ _ h => h) (Or.inl ⟨by rfl, ?_⟩) (by assumption) ?_
            rotate_left
            · (intro w hSw; (try dsimp only at hSw); go_simp; (try with_reducible rfl))
            simp only [Act.put, List.setIfInBounds_toArray, List.set_cons_zero, List.set_cons_succ]
            refine wpAnyH_ready (rs := [21]) (by kernel_rfl) (by simp) ?_
            refine (AllReadyH.cons (o := { dst := some 4, op := Go.Op.alloc 24, type := 0, pos := "ref.go:55", after := #[], guard := none }) rfl (fun K hK => ?_) AllReadyH.nil)
            go_simp
            have kx5 := Below.alloc hHeld4 hHeld4.size (.cells #[.int .u8 0, .int .i64 0, .int .i64 0, .int .i64 0, .slice none 0 0] 24)
            have hz5 : (w3.alloc (.cells #[.int .u8 0, .int .i64 0, .int .i64 0, .int .i64 0, .slice none 0 0] 24)).heap.size = w3.heap.size + 1 := by show (w3.heap.push _).size = _; rw [Array.size_push]
            have PZ := box (pk5_newz w3 (w3.heap.size) (by omega))
            replace HI3 := box (HI3.out.below ((Below.refl _ _).alloc (Nat.le_refl _) (.cells #[.int .u8 0, .int .i64 0, .int .i64 0, .int .i64 0, .slice none 0 0] 24)))
            refine hK.out _ _ (by exact kx5) (fun hHeld5 => ?_)
            clear hK K
            clear kx5
            generalize w3.alloc (.cells #[.int .u8 0, .int .i64 0, .int .i64 0, .int .i64 0, .slice none 0 0] 24) = wx5 at hz5 PZ HI3 hHeld5 ⊢
            have DC := decCut_put (w1 := w1) (ys := (xs.drop 13).take (n - 17)) p0 p1 (numTo ((xs.drop 2).take 5) 5) (numTo ((xs.drop 7).take 5) 5) PZ.out HI3.out HN3.out hc3 hx3 (by omega) hHeld5
            obtain ⟨qz0, qz1, qz2, qz3, qz4, qzz⟩ := PZ.out
            refine wpAnyH_ready (rs := [22]) (by kernel_rfl) (by simp) ?_
            refine (AllReadyH.cons (o := { dst := none, op := Go.Op.store 24 (Go.Operand.tmp 4) (Go.Operand.tmp 47), type := 0, pos := "ref.go:55", after := #[{ on := 21, ground := Go.Ground.data }, { on := 20, ground := Go.Ground.data }, { on := 19, ground := Go.Ground.chain }, { on := 0, ground := Go.Ground.phase }, { on := 1, ground := Go.Ground.phase }, { on := 2, ground := Go.Ground.phase }, { on := 3, ground := Go.Ground.phase }, { on := 4, ground := Go.Ground.phase }, { on := 5, ground := Go.Ground.phase }, { on := 6, ground := Go.Ground.phase }, { on := 7, ground := Go.Ground.phase }, { on := 8, ground := Go.Ground.phase }, { on := 9, ground := Go.Ground.phase }, { on := 10, ground := Go.Ground.phase }, { on := 11, ground := Go.Ground.phase }, { on := 12, ground := Go.Ground.phase }, { on := 13, ground := Go.Ground.phase }, { on := 14, ground := Go.Ground.phase }, { on := 15, ground := Go.Ground.phase }, { on := 16, ground := Go.Ground.phase }, { on := 17, ground := Go.Ground.phase }, { on := 18, ground := Go.Ground.phase }, { on := 19, ground := Go.Ground.phase }, { on := 20, ground := Go.Ground.phase }, { on := 21, ground := Go.Ground.phase }], guard := none }) rfl (fun K hK => ?_) AllReadyH.nil)
            go_simp
            refine hK.out _ _ (by exact put5_below hHeld5 (by omega) _ _ _ _ _) (fun hHeld99 => ?_)
            clear hK K
            refine wpAnyH_done (by kernel_rfl) ?_ _
            go_wp2_with fail
            go_meet
            exact DC
          · go_simp
            have kx4 := Below.alloc hHeld3 hHeld3.size (.cells #[.int .u8 0, .int .i64 0, .int .i64 0, .int .i64 0, .slice none 0 0] 24)
            have hz4 : (wx2.alloc (.cells #[.int .u8 0, .int .i64 0, .int .i64 0, .int .i64 0, .slice none 0 0] 24)).heap.size = wx2.heap.size + 1 := by show (wx2.heap.push _).size = _; rw [Array.size_push]
            have PZ := box (pk5_newz wx2 (w1.heap.size + 1) (by omega))
            replace OE := box (own_later OE.out ((Below.refl _ _).alloc (Nat.le_refl _) (.cells #[.int .u8 0, .int .i64 0, .int .i64 0, .int .i64 0, .slice none 0 0] 24)))
            refine hK.out _ _ (by exact kx4) (fun hHeld4 => ?_)
            clear hK K
            clear kx4
            generalize wx2.alloc (.cells #[.int .u8 0, .int .i64 0, .int .i64 0, .int .i64 0, .slice none 0 0] 24) = wx4 at hz4 PZ OE hHeld4 ⊢
            refine wpAnyH_ready (rs := [19]) (by kernel_rfl) (by simp) ?_
            refine (AllReadyH.cons (o := { dst := some 46, op := Go.Op.call { callee := Go.Callee.builtin Go.Builtin.append, args := #[Go.Operand.tmp 40, Go.Operand.tmp 45], argTypes := #[22, 22] }, type := 22, pos := "ref.go:55", after := #[{ on := 13, ground := Go.Ground.data }, { on := 18, ground := Go.Ground.data }, { on := 12, ground := Go.Ground.chain }], guard := none }) rfl (fun K hK => ?_) AllReadyH.nil)
            refine step_app0 rfl (.tmp 40) (.tmp 45) rfl w1.heap.size (w1.heap.size) rfl OE.out ⟨b.block, b.off + 13, none⟩ (n - 17) (c - 13) ((xs.drop 13).take (n - 17)) LP rfl (at_drop (HC1.out.below hHeld4) 13 (n - 17) (by omega)) (by omega) w1 hHeld4 hHeld4.size ?_
            intro a3 c3 w3 HI3 HN3 hc3 HQ3 hb3 hs3 hg3
            have hx3 : ∀ q, a3 = some q → w1.heap.size ≤ q.block ∧ w1.heap.size + 1 ≠ q.block := fun q hq => by
              have h := HQ3.out q hq
              refine ⟨h.1, ?_⟩
              omega
            replace PZ := box (PZ.out.grown hg3 (by omega))
            clear HQ3 hg3 OE
            refine hK.out _ _ (by exact hb3) (fun hHeld5 => ?_)
            clear hK K
            refine wpAnyH_take (i := 20) (oi := { dst := some 47, op := Go.Op.build 24 #[(0, Go.Operand.tmp 29), (1, Go.Operand.tmp 33), (2, Go.Operand.tmp 36), (3, Go.Operand.tmp 39), (4, Go.Operand.tmp 46)], type := 24, pos := "ref.go:55", after := #[{ on := 2, ground := Go.Ground.data }, { on := 6, ground := Go.Ground.data }, { on := 9, ground := Go.Ground.data }, { on := 12, ground := Go.Ground.data }, { on := 19, ground := Go.Ground.data }], guard := none }) (v := ?_) rfl (by kernel_rfl) (by kernel_rfl) (by kernel_rfl) (fun _ _ _ h => h) (Or.inl ⟨by rfl, ?_⟩) (by assumption) ?_
            rotate_left
            · (intro w hSw; (try dsimp only at hSw); go_simp; (try with_reducible rfl))
            simp only [Act.put, List.setIfInBounds_toArray, List.set_cons_zero, List.set_cons_succ]
            have DC := decCut_put (w1 := w1) (ys := (xs.drop 13).take (n - 17)) p0 p1 (numTo ((xs.drop 2).take 5) 5) (numTo ((xs.drop 7).take 5) 5) PZ.out HI3.out HN3.out hc3 hx3 (by omega) hHeld5
            obtain ⟨qz0, qz1, qz2, qz3, qz4, qzz⟩ := PZ.out
            refine wpAnyH_ready (rs := [22]) (by kernel_rfl) (by simp) ?_
            refine (AllReadyH.cons (o := { dst := none, op := Go.Op.store 24 (Go.Operand.tmp 4) (Go.Operand.tmp 47), type := 0, pos := "ref.go:55", after := #[{ on := 21, ground := Go.Ground.data }, { on := 20, ground := Go.Ground.data }, { on := 19, ground := Go.Ground.chain }, { on := 0, ground := Go.Ground.phase }, { on := 1, ground := Go.Ground.phase }, { on := 2, ground := Go.Ground.phase }, { on := 3, ground := Go.Ground.phase }, { on := 4, ground := Go.Ground.phase }, { on := 5, ground := Go.Ground.phase }, { on := 6, ground := Go.Ground.phase }, { on := 7, ground := Go.Ground.phase }, { on := 8, ground := Go.Ground.phase }, { on := 9, ground := Go.Ground.phase }, { on := 10, ground := Go.Ground.phase }, { on := 11, ground := Go.Ground.phase }, { on := 12, ground := Go.Ground.phase }, { on := 13, ground := Go.Ground.phase }, { on := 14, ground := Go.Ground.phase }, { on := 15, ground := Go.Ground.phase }, { on := 16, ground := Go.Ground.phase }, { on := 17, ground := Go.Ground.phase }, { on := 18, ground := Go.Ground.phase }, { on := 19, ground := Go.Ground.phase }, { on := 20, ground := Go.Ground.phase }, { on := 21, ground := Go.Ground.phase }], guard := none }) rfl (fun K hK => ?_) AllReadyH.nil)
            go_simp
            refine hK.out _ _ (by exact put5_below hHeld5 (by omega) _ _ _ _ _) (fun hHeld99 => ?_)
            clear hK K
            refine wpAnyH_done (by kernel_rfl) ?_ _
            go_wp2_with fail
            go_meet
            exact DC
        · go_simp
          have kx3 := Below.alloc hHeld2 hHeld2.size (.cells #[.int .u8 0, .int .i64 0, .int .i64 0, .int .i64 0, .slice none 0 0] 24)
          have hz3 : (wx2.alloc (.cells #[.int .u8 0, .int .i64 0, .int .i64 0, .int .i64 0, .slice none 0 0] 24)).heap.size = wx2.heap.size + 1 := by show (wx2.heap.push _).size = _; rw [Array.size_push]
          have PZ := box (pk5_newz wx2 (w1.heap.size + 1) (by omega))
          replace OE := box (own_later OE.out ((Below.refl _ _).alloc (Nat.le_refl _) (.cells #[.int .u8 0, .int .i64 0, .int .i64 0, .int .i64 0, .slice none 0 0] 24)))
          refine hK.out _ _ (by exact kx3) (fun hHeld3 => ?_)
          clear hK K
          clear kx3
          generalize wx2.alloc (.cells #[.int .u8 0, .int .i64 0, .int .i64 0, .int .i64 0, .slice none 0 0] 24) = wx3 at hz3 PZ OE hHeld3 ⊢
          refine wpAnyH_ready (rs := [12]) (by kernel_rfl) (by simp) ?_
          refine (AllReadyH.cons (o := { dst := some 39, op := Go.Op.call { callee := Go.Callee.value (Go.Operand.func 45), args := #[Go.Operand.tmp 38], argTypes := #[22] }, type := 3, pos := "ref.go:55", after := #[{ on := 11, ground := Go.Ground.data }, { on := 9, ground := Go.Ground.chain }], guard := none }) rfl (fun K hK => ?_) AllReadyH.nil)
          go_simp
          refine (N2 _ hHeld3).out.mono ?_
          rintro e wp ⟨rfl, rfl⟩
          refine hK.out _ _ (by exact hHeld3) (fun hHeld4 => ?_)
          clear hK K
          refine wpAnyH_ready (rs := [19]) (by kernel_rfl) (by simp) ?_
          refine (AllReadyH.cons (o := { dst := some 46, op := Go.Op.call { callee := Go.Callee.builtin Go.Builtin.append, args := #[Go.Operand.tmp 40, Go.Operand.tmp 45], argTypes := #[22, 22] }, type := 22, pos := "ref.go:55", after := #[{ on := 13, ground := Go.Ground.data }, { on := 18, ground := Go.Ground.data }, { on := 12, ground := Go.Ground.chain }], guard := none }) rfl (fun K hK => ?_) AllReadyH.nil)
          refine step_app0 rfl (.tmp 40) (.tmp 45) rfl w1.heap.size (w1.heap.size) rfl OE.out ⟨b.block, b.off + 13, none⟩ (n - 17) (c - 13) ((xs.drop 13).take (n - 17)) LP rfl (at_drop (HC1.out.below hHeld4) 13 (n - 17) (by omega)) (by omega) w1 hHeld4 hHeld4.size ?_
          intro a3 c3 w3 HI3 HN3 hc3 HQ3 hb3 hs3 hg3
          have hx3 : ∀ q, a3 = some q → w1.heap.size ≤ q.block ∧ w1.heap.size + 1 ≠ q.block := fun q hq => by
            have h := HQ3.out q hq
            refine ⟨h.1, ?_⟩
            omega
          replace PZ := box (PZ.out.grown hg3 (by omega))
          clear HQ3 hg3 OE
          refine hK.out _ _ (by exact hb3) (fun hHeld5 => ?_)
          clear hK K
          refine wpAnyH_take (i := 20) (oi := { dst := some 47, op := Go.Op.build 24 #[(0, Go.Operand.tmp 29), (1, Go.Operand.tmp 33), (2, Go.Operand.tmp 36), (3, Go.Operand.tmp 39), (4, Go.Operand.tmp 46)], type := 24, pos := "ref.go:55", after := #[{ on := 2, ground := Go.Ground.data }, { on := 6, ground := Go.Ground.data }, { on := 9, ground := Go.Ground.data }, { on := 12, ground := Go.Ground.data }, { on := 19, ground := Go.Ground.data }], guard := none }) (v := ?_) rfl (by kernel_rfl) (by kernel_rfl) (by kernel_rfl) (fun _ _ _ h => h) (Or.inl ⟨by rfl, ?_⟩) (by assumption) ?_
          rotate_left
          · (intro w hSw; (try dsimp only at hSw); go_simp; (try with_reducible rfl))
          simp only [Act.put, List.setIfInBounds_toArray, List.set_cons_zero, List.set_cons_succ]
          have DC := decCut_put (w1 := w1) (ys := (xs.drop 13).take (n - 17)) p0 p1 (numTo ((xs.drop 2).take 5) 5) (numTo ((xs.drop 7).take 5) 5) PZ.out HI3.out HN3.out hc3 hx3 (by omega) hHeld5
          obtain ⟨qz0, qz1, qz2, qz3, qz4, qzz⟩ := PZ.out
          refine wpAnyH_ready (rs := [22]) (by kernel_rfl) (by simp) ?_
          refine (AllReadyH.cons (o := { dst := none, op := Go.Op.store 24 (Go.Operand.tmp 4) (Go.Operand.tmp 47), type := 0, pos := "ref.go:55", after := #[{ on := 21, ground := Go.Ground.data }, { on := 20, ground := Go.Ground.data }, { on := 19, ground := Go.Ground.chain }, { on := 0, ground := Go.Ground.phase }, { on := 1, ground := Go.Ground.phase }, { on := 2, ground := Go.Ground.phase }, { on := 3, ground := Go.Ground.phase }, { on := 4, ground := Go.Ground.phase }, { on := 5, ground := Go.Ground.phase }, { on := 6, ground := Go.Ground.phase }, { on := 7, ground := Go.Ground.phase }, { on := 8, ground := Go.Ground.phase }, { on := 9, ground := Go.Ground.phase }, { on := 10, ground := Go.Ground.phase }, { on := 11, ground := Go.Ground.phase }, { on := 12, ground := Go.Ground.phase }, { on := 13, ground := Go.Ground.phase }, { on := 14, ground := Go.Ground.phase }, { on := 15, ground := Go.Ground.phase }, { on := 16, ground := Go.Ground.phase }, { on := 17, ground := Go.Ground.phase }, { on := 18, ground := Go.Ground.phase }, { on := 19, ground := Go.Ground.phase }, { on := 20, ground := Go.Ground.phase }, { on := 21, ground := Go.Ground.phase }], guard := none }) rfl (fun K hK => ?_) AllReadyH.nil)
          go_simp
          refine hK.out _ _ (by exact put5_below hHeld5 (by omega) _ _ _ _ _) (fun hHeld99 => ?_)
          clear hK K
          refine wpAnyH_done (by kernel_rfl) ?_ _
          go_wp2_with fail
          go_meet
          exact DC
      · go_simp
        have kx2 := Below.alloc hHeld1 hHeld1.size (.cells #[.int .u8 0, .int .i64 0, .int .i64 0, .int .i64 0, .slice none 0 0] 24)
        have hz2 : (wa.alloc (.cells #[.int .u8 0, .int .i64 0, .int .i64 0, .int .i64 0, .slice none 0 0] 24)).heap.size = wa.heap.size + 1 := by show (wa.heap.push _).size = _; rw [Array.size_push]
        have PZ := box (pk5_newz wa (w1.heap.size) (by omega))
        refine hK.out _ _ (by exact kx2) (fun hHeld2 => ?_)
        clear hK K
        clear kx2
        generalize wa.alloc (.cells #[.int .u8 0, .int .i64 0, .int .i64 0, .int .i64 0, .slice none 0 0] 24) = wx2 at hz2 PZ hHeld2 ⊢
        refine wpAnyH_ready (rs := [12, 13]) (by kernel_rfl) (by simp) ?_
        refine (AllReadyH.cons (o := { dst := some 39, op := Go.Op.call { callee := Go.Callee.value (Go.Operand.func 45), args := #[Go.Operand.tmp 38], argTypes := #[22] }, type := 3, pos := "ref.go:55", after := #[{ on := 11, ground := Go.Ground.data }, { on := 9, ground := Go.Ground.chain }], guard := none }) rfl (fun K hK => ?_) (AllReadyH.cons (o := { dst := some 40, op := Go.Op.buildSlice 22 0 #[], type := 22, pos := "ref.go:55", after := #[], guard := none }) rfl (fun K hK => ?_) AllReadyH.nil))
        · go_simp
          refine (N2 _ hHeld2).out.mono ?_
          rintro e wp ⟨rfl, rfl⟩
          refine hK.out _ _ (by exact hHeld2) (fun hHeld3 => ?_)
          clear hK K
          refine wpAnyH_ready (rs := [13]) (by kernel_rfl) (by simp) ?_
          refine (AllReadyH.cons (o := { dst := some 40, op := Go.Op.buildSlice 22 0 #[], type := 22, pos := "ref.go:55", after := #[], guard := none }) rfl (fun K hK => ?_) AllReadyH.nil)
          go_simp
          have kx4 := Below.alloc hHeld3 hHeld3.size (.cells #[] 5)
          have hz4 : (wx2.alloc (.cells #[] 5)).heap.size = wx2.heap.size + 1 := by show (wx2.heap.push _).size = _; rw [Array.size_push]
          have OE := box (own_empty wx2 w1.heap.size (w1.heap.size + 1) hHeld3.size (by omega))
          replace PZ := box (PZ.out.keep ((Below.refl _ _).alloc (Nat.le_refl _) (.cells #[] 5)))
          refine hK.out _ _ (by exact kx4) (fun hHeld4 => ?_)
          clear hK K
          clear kx4
          generalize wx2.alloc (.cells #[] 5) = wx4 at hz4 OE PZ hHeld4 ⊢
          refine wpAnyH_ready (rs := [19]) (by kernel_rfl) (by simp) ?_
          refine (AllReadyH.cons (o := { dst := some 46, op := Go.Op.call { callee := Go.Callee.builtin Go.Builtin.append, args := #[Go.Operand.tmp 40, Go.Operand.tmp 45], argTypes := #[22, 22] }, type := 22, pos := "ref.go:55", after := #[{ on := 13, ground := Go.Ground.data }, { on := 18, ground := Go.Ground.data }, { on := 12, ground := Go.Ground.chain }], guard := none }) rfl (fun K hK => ?_) AllReadyH.nil)
          refine step_app0 rfl (.tmp 40) (.tmp 45) rfl w1.heap.size (w1.heap.size + 1) rfl OE.out ⟨b.block, b.off + 13, none⟩ (n - 17) (c - 13) ((xs.drop 13).take (n - 17)) LP rfl (at_drop (HC1.out.below hHeld4) 13 (n - 17) (by omega)) (by omega) w1 hHeld4 hHeld4.size ?_
          intro a3 c3 w3 HI3 HN3 hc3 HQ3 hb3 hs3 hg3
          have hx3 : ∀ q, a3 = some q → w1.heap.size ≤ q.block ∧ w1.heap.size ≠ q.block := fun q hq => by
            have h := HQ3.out q hq
            refine ⟨h.1, ?_⟩
            omega
          replace PZ := box (PZ.out.grown hg3 (by omega))
          clear HQ3 hg3 OE
          refine hK.out _ _ (by exact hb3) (fun hHeld5 => ?_)
          clear hK K
          refine wpAnyH_take (i := 20) (oi := { dst := some 47, op := Go.Op.build 24 #[(0, Go.Operand.tmp 29), (1, Go.Operand.tmp 33), (2, Go.Operand.tmp 36), (3, Go.Operand.tmp 39), (4, Go.Operand.tmp 46)], type := 24, pos := "ref.go:55", after := #[{ on := 2, ground := Go.Ground.data }, { on := 6, ground := Go.Ground.data }, { on := 9, ground := Go.Ground.data }, { on := 12, ground := Go.Ground.data }, { on := 19, ground := Go.Ground.data }], guard := none }) (v := ?_) rfl (by kernel_rfl) (by kernel_rfl) (by kernel_rfl) (fun _ _ _ h => h) (Or.inl ⟨by rfl, ?_⟩) (by assumption) ?_
          rotate_left
          · (intro w hSw; (try dsimp only at hSw); go_simp; (try with_reducible rfl))
          simp only [Act.put, List.setIfInBounds_toArray, List.set_cons_zero, List.set_cons_succ]
          have DC := decCut_put (w1 := w1) (ys := (xs.drop 13).take (n - 17)) p0 p1 (numTo ((xs.drop 2).take 5) 5) (numTo ((xs.drop 7).take 5) 5) PZ.out HI3.out HN3.out hc3 hx3 (by omega) hHeld5
          obtain ⟨qz0, qz1, qz2, qz3, qz4, qzz⟩ := PZ.out
          refine wpAnyH_ready (rs := [22]) (by kernel_rfl) (by simp) ?_
          refine (AllReadyH.cons (o := { dst := none, op := Go.Op.store 24 (Go.Operand.tmp 4) (Go.Operand.tmp 47), type := 0, pos := "ref.go:55", after := #[{ on := 21, ground := Go.Ground.data }, { on := 20, ground := Go.Ground.data }, { on := 19, ground := Go.Ground.chain }, { on := 0, ground := Go.Ground.phase }, { on := 1, ground := Go.Ground.phase }, { on := 2, ground := Go.Ground.phase }, { on := 3, ground := Go.Ground.phase }, { on := 4, ground := Go.Ground.phase }, { on := 5, ground := Go.Ground.phase }, { on := 6, ground := Go.Ground.phase }, { on := 7, ground := Go.Ground.phase }, { on := 8, ground := Go.Ground.phase }, { on := 9, ground := Go.Ground.phase }, { on := 10, ground := Go.Ground.phase }, { on := 11, ground := Go.Ground.phase }, { on := 12, ground := Go.Ground.phase }, { on := 13, ground := Go.Ground.phase }, { on := 14, ground := Go.Ground.phase }, { on := 15, ground := Go.Ground.phase }, { on := 16, ground := Go.Ground.phase }, { on := 17, ground := Go.Ground.phase }, { on := 18, ground := Go.Ground.phase }, { on := 19, ground := Go.Ground.phase }, { on := 20, ground := Go.Ground.phase }, { on := 21, ground := Go.Ground.phase }], guard := none }) rfl (fun K hK => ?_) AllReadyH.nil)
          go_simp
          refine hK.out _ _ (by exact put5_below hHeld5 (by omega) _ _ _ _ _) (fun hHeld99 => ?_)
          clear hK K
          refine wpAnyH_done (by kernel_rfl) ?_ _
          go_wp2_with fail
          go_meet
          exact DC
        · go_simp
          have kx3 := Below.alloc hHeld2 hHeld2.size (.cells #[] 5)
          have hz3 : (wx2.alloc (.cells #[] 5)).heap.size = wx2.heap.size + 1 := by show (wx2.heap.push _).size = _; rw [Array.size_push]
          have OE := box (own_empty wx2 w1.heap.size (w1.heap.size + 1) hHeld2.size (by omega))
          replace PZ := box (PZ.out.keep ((Below.refl _ _).alloc (Nat.le_refl _) (.cells #[] 5)))
          refine hK.out _ _ (by exact kx3) (fun hHeld3 => ?_)
          clear hK K
          clear kx3
          generalize wx2.alloc (.cells #[] 5) = wx3 at hz3 OE PZ hHeld3 ⊢
          refine wpAnyH_ready (rs := [12]) (by kernel_rfl) (by simp) ?_
          refine (AllReadyH.cons (o := { dst := some 39, op := Go.Op.call { callee := Go.Callee.value (Go.Operand.func 45), args := #[Go.Operand.tmp 38], argTypes := #[22] }, type := 3, pos := "ref.go:55", after := #[{ on := 11, ground := Go.Ground.data }, { on := 9, ground := Go.Ground.chain }], guard := none }) rfl (fun K hK => ?_) AllReadyH.nil)
          go_simp
          refine (N2 _ hHeld3).out.mono ?_
          rintro e wp ⟨rfl, rfl⟩
          refine hK.out _ _ (by exact hHeld3) (fun hHeld4 => ?_)
          clear hK K
          refine wpAnyH_ready (rs := [19]) (by kernel_rfl) (by simp) ?_
          refine (AllReadyH.cons (o := { dst := some 46, op := Go.Op.call { callee := Go.Callee.builtin Go.Builtin.append, args := #[Go.Operand.tmp 40, Go.Operand.tmp 45], argTypes := #[22, 22] }, type := 22, pos := "ref.go:55", after := #[{ on := 13, ground := Go.Ground.data }, { on := 18, ground := Go.Ground.data }, { on := 12, ground := Go.Ground.chain }], guard := none }) rfl (fun K hK => ?_) AllReadyH.nil)
          refine step_app0 rfl (.tmp 40) (.tmp 45) rfl w1.heap.size (w1.heap.size + 1) rfl OE.out ⟨b.block, b.off + 13, none⟩ (n - 17) (c - 13) ((xs.drop 13).take (n - 17)) LP rfl (at_drop (HC1.out.below hHeld4) 13 (n - 17) (by omega)) (by omega) w1 hHeld4 hHeld4.size ?_
          intro a3 c3 w3 HI3 HN3 hc3 HQ3 hb3 hs3 hg3
          have hx3 : ∀ q, a3 = some q → w1.heap.size ≤ q.block ∧ w1.heap.size ≠ q.block := fun q hq => by
            have h := HQ3.out q hq
            refine ⟨h.1, ?_⟩
            omega
          replace PZ := box (PZ.out.grown hg3 (by omega))
          clear HQ3 hg3 OE
          refine hK.out _ _ (by exact hb3) (fun hHeld5 => ?_)
          clear hK K
          refine wpAnyH_take (i := 20) (oi := { dst := some 47, op := Go.Op.build 24 #[(0, Go.Operand.tmp 29), (1, Go.Operand.tmp 33), (2, Go.Operand.tmp 36), (3, Go.Operand.tmp 39), (4, Go.Operand.tmp 46)], type := 24, pos := "ref.go:55", after := #[{ on := 2, ground := Go.Ground.data }, { on := 6, ground := Go.Ground.data }, { on := 9, ground := Go.Ground.data }, { on := 12, ground := Go.Ground.data }, { on := 19, ground := Go.Ground.data }], guard := none }) (v := ?_) rfl (by kernel_rfl) (by kernel_rfl) (by kernel_rfl) (fun _ _ _ h => h) (Or.inl ⟨by rfl, ?_⟩) (by assumption) ?_
          rotate_left
          · (intro w hSw; (try dsimp only at hSw); go_simp; (try with_reducible rfl))
          simp only [Act.put, List.setIfInBounds_toArray, List.set_cons_zero, List.set_cons_succ]
          have DC := decCut_put (w1 := w1) (ys := (xs.drop 13).take (n - 17)) p0 p1 (numTo ((xs.drop 2).take 5) 5) (numTo ((xs.drop 7).take 5) 5) PZ.out HI3.out HN3.out hc3 hx3 (by omega) hHeld5
          obtain ⟨qz0, qz1, qz2, qz3, qz4, qzz⟩ := PZ.out
          refine wpAnyH_ready (rs := [22]) (by kernel_rfl) (by simp) ?_
          refine (AllReadyH.cons (o := { dst := none, op := Go.Op.store 24 (Go.Operand.tmp 4) (Go.Operand.tmp 47), type := 0, pos := "ref.go:55", after := #[{ on := 21, ground := Go.Ground.data }, { on := 20, ground := Go.Ground.data }, { on := 19, ground := Go.Ground.chain }, { on := 0, ground := Go.Ground.phase }, { on := 1, ground := Go.Ground.phase }, { on := 2, ground := Go.Ground.phase }, { on := 3, ground := Go.Ground.phase }, { on := 4, ground := Go.Ground.phase }, { on := 5, ground := Go.Ground.phase }, { on := 6, ground := Go.Ground.phase }, { on := 7, ground := Go.Ground.phase }, { on := 8, ground := Go.Ground.phase }, { on := 9, ground := Go.Ground.phase }, { on := 10, ground := Go.Ground.phase }, { on := 11, ground := Go.Ground.phase }, { on := 12, ground := Go.Ground.phase }, { on := 13, ground := Go.Ground.phase }, { on := 14, ground := Go.Ground.phase }, { on := 15, ground := Go.Ground.phase }, { on := 16, ground := Go.Ground.phase }, { on := 17, ground := Go.Ground.phase }, { on := 18, ground := Go.Ground.phase }, { on := 19, ground := Go.Ground.phase }, { on := 20, ground := Go.Ground.phase }, { on := 21, ground := Go.Ground.phase }], guard := none }) rfl (fun K hK => ?_) AllReadyH.nil)
          go_simp
          refine hK.out _ _ (by exact put5_below hHeld5 (by omega) _ _ _ _ _) (fun hHeld99 => ?_)
          clear hK K
          refine wpAnyH_done (by kernel_rfl) ?_ _
          go_wp2_with fail
          go_meet
          exact DC
    · go_simp
      have kx1 := Below.alloc hHeld hHeld.size (.cells #[] 5)
      have hz1 : (wa.alloc (.cells #[] 5)).heap.size = wa.heap.size + 1 := by show (wa.heap.push _).size = _; rw [Array.size_push]
      have OE := box (own_empty wa w1.heap.size (w1.heap.size) hHeld.size (by omega))
      refine hK.out _ _ (by exact kx1) (fun hHeld1 => ?_)
      clear hK K
      clear kx1
      generalize wa.alloc (.cells #[] 5) = wx1 at hz1 OE hHeld1 ⊢
      refine wpAnyH_ready (rs := [9, 21]) (by kernel_rfl) (by simp) ?_
      refine (AllReadyH.cons (o := { dst := some 36, op := Go.Op.call { callee := Go.Callee.value (Go.Operand.func 45), args := #[Go.Operand.tmp 35], argTypes := #[22] }, type := 3, pos := "ref.go:55", after := #[{ on := 8, ground := Go.Ground.data }], guard := none }) rfl (fun K hK => ?_) (AllReadyH.cons (o := { dst := some 4, op := Go.Op.alloc 24, type := 0, pos := "ref.go:55", after := #[], guard := none }) rfl (fun K hK => ?_) AllReadyH.nil))
      · go_simp
        refine (N1 _ hHeld1).out.mono ?_
        rintro e wp ⟨rfl, rfl⟩
        refine hK.out _ _ (by exact hHeld1) (fun hHeld2 => ?_)
        clear hK K
        refine wpAnyH_ready (rs := [12, 21]) (by kernel_rfl) (by simp) ?_
        refine (AllReadyH.cons (o := { dst := some 39, op := Go.Op.call { callee := Go.Callee.value (Go.Operand.func 45), args := #[Go.Operand.tmp 38], argTypes := #[22] }, type := 3, pos := "ref.go:55", after := #[{ on := 11, ground := Go.Ground.data }, { on := 9, ground := Go.Ground.chain }], guard := none }) rfl (fun K hK => ?_) (AllReadyH.cons (o := { dst := some 4, op := Go.Op.alloc 24, type := 0, pos := "ref.go:55", after := #[], guard := none }) rfl (fun K hK => ?_) AllReadyH.nil))
        · go_simp
          refine (N2 _ hHeld2).out.mono ?_
          rintro e wp ⟨rfl, rfl⟩
          refine hK.out _ _ (by exact hHeld2) (fun hHeld3 => ?_)
          clear hK K
          refine wpAnyH_ready (rs := [19, 21]) (by kernel_rfl) (by simp) ?_
          refine (AllReadyH.cons (o := { dst := some 46, op := Go.Op.call { callee := Go.Callee.builtin Go.Builtin.append, args := #[Go.Operand.tmp 40, Go.Operand.tmp 45], argTypes := #[22, 22] }, type := 22, pos := "ref.go:55", after := #[{ on := 13, ground := Go.Ground.data }, { on := 18, ground := Go.Ground.data }, { on := 12, ground := Go.Ground.chain }], guard := none }) rfl (fun K hK => ?_) (AllReadyH.cons (o := { dst := some 4, op := Go.Op.alloc 24, type := 0, pos := "ref.go:55", after := #[], guard := none }) rfl (fun K hK => ?_) AllReadyH.nil))
          · refine step_app0 rfl (.tmp 40) (.tmp 45) rfl w1.heap.size (w1.heap.size) rfl OE.out ⟨b.block, b.off + 13, none⟩ (n - 17) (c - 13) ((xs.drop 13).take (n - 17)) LP rfl (at_drop (HC1.out.below hHeld3) 13 (n - 17) (by omega)) (by omega) w1 hHeld3 hHeld3.size ?_
            intro a3 c3 w3 HI3 HN3 hc3 HQ3 hb3 hs3 hg3
            have hx3 : ∀ q, a3 = some q → w1.heap.size ≤ q.block ∧ w3.heap.size ≠ q.block := fun q hq => by
              have h := HQ3.out q hq
              refine ⟨h.1, ?_⟩
              omega
            clear HQ3 hg3 OE
            refine hK.out _ _ (by exact hb3) (fun hHeld4 => ?_)
            clear hK K
            refine wpAnyH_take (i := 20) (oi := { dst := some 47, op := Go.Op.build 24 #[(0, Go.Operand.tmp 29), (1, Go.Operand.tmp 33), (2, Go.Operand.tmp 36), (3, Go.Operand.tmp 39), (4, Go.Operand.tmp 46)], type := 24, pos := "ref.go:55", after := #[{ on := 2, ground := Go.Ground.data }, { on := 6, ground := Go.Ground.data }, { on := 9, ground := Go.Ground.data }, { on := 12, ground := Go.Ground.data }, { on := 19, ground := Go.Ground.data }], guard := none }) (v := ?_) rfl (by kernel_rfl) (by kernel_rfl) (by kernel_rfl) (fun _ _ _ h => h) (Or.inl ⟨by rfl, ?_⟩) (by assumption) ?_
            rotate_left
            · (intro w hSw; (try dsimp only at hSw); go_simp; (try with_reducible rfl))
            simp only [Act.put, List.setIfInBounds_toArray, List.set_cons_zero, List.set_cons_succ]
            refine wpAnyH_ready (rs := [21]) (by kernel_rfl) (by simp) ?_
            refine (AllReadyH.cons (o := { dst := some 4, op := Go.Op.alloc 24, type := 0, pos := "ref.go:55", after := #[], guard := none }) rfl (fun K hK => ?_) AllReadyH.nil)
            go_simp
            have kx5 := Below.alloc hHeld4 hHeld4.size (.cells #[.int .u8 0, .int .i64 0, .int .i64 0, .int .i64 0, .slice none 0 0] 24)
            have hz5 : (w3.alloc (.cells #[.int .u8 0, .int .i64 0, .int .i64 0, .int .i64 0, .slice none 0 0] 24)).heap.size = w3.heap.size + 1 := by show (w3.heap.push _).size = _; rw [Array.size_push]
            have PZ := box (pk5_newz w3 (w3.heap.size) (by omega))
            replace HI3 := box (HI3.out.below ((Below.refl _ _).alloc (Nat.le_refl _) (.cells #[.int .u8 0, .int .i64 0, .int .i64 0, .int .i64 0, .slice none 0 0] 24)))
            refine hK.out _ _ (by exact kx5) (fun hHeld5 => ?_)
            clear hK K
            clear kx5
            generalize w3.alloc (.cells #[.int .u8 0, .int .i64 0, .int .i64 0, .int .i64 0, .slice none 0 0] 24) = wx5 at hz5 PZ HI3 hHeld5 ⊢
            have DC := decCut_put (w1 := w1) (ys := (xs.drop 13).take (n - 17)) p0 p1 (numTo ((xs.drop 2).take 5) 5) (numTo ((xs.drop 7).take 5) 5) PZ.out HI3.out HN3.out hc3 hx3 (by omega) hHeld5
            obtain ⟨qz0, qz1, qz2, qz3, qz4, qzz⟩ := PZ.out
            refine wpAnyH_ready (rs := [22]) (by kernel_rfl) (by simp) ?_
            refine (AllReadyH.cons (o := { dst := none, op := Go.Op.store 24 (Go.Operand.tmp 4) (Go.Operand.tmp 47), type := 0, pos := "ref.go:55", after := #[{ on := 21, ground := Go.Ground.data }, { on := 20, ground := Go.Ground.data }, { on := 19, ground := Go.Ground.chain }, { on := 0, ground := Go.Ground.phase }, { on := 1, ground := Go.Ground.phase }, { on := 2, ground := Go.Ground.phase }, { on := 3, ground := Go.Ground.phase }, { on := 4, ground := Go.Ground.phase }, { on := 5, ground := Go.Ground.phase }, { on := 6, ground := Go.Ground.phase }, { on := 7, ground := Go.Ground.phase }, { on := 8, ground := Go.Ground.phase }, { on := 9, ground := Go.Ground.phase }, { on := 10, ground := Go.Ground.phase }, { on := 11, ground := Go.Ground.phase }, { on := 12, ground := Go.Ground.phase }, { on := 13, ground := Go.Ground.phase }, { on := 14, ground := Go.Ground.phase }, { on := 15, ground := Go.Ground.phase }, { on := 16, ground := Go.Ground.phase }, { on := 17, ground := Go.Ground.phase }, { on := 18, ground := Go.Ground.phase }, { on := 19, ground := Go.Ground.phase }, { on := 20, ground := Go.Ground.phase }, { on := 21, ground := Go.Ground.phase }], guard := none }) rfl (fun K hK => ?_) AllReadyH.nil)
            go_simp
            refine hK.out _ _ (by exact put5_below hHeld5 (by omega) _ _ _ _ _) (fun hHeld99 => ?_)
            clear hK K
            refine wpAnyH_done (by kernel_rfl) ?_ _
            go_wp2_with fail
            go_meet
            exact DC
          · go_simp
            have kx4 := Below.alloc hHeld3 hHeld3.size (.cells #[.int .u8 0, .int .i64 0, .int .i64 0, .int .i64 0, .slice none 0 0] 24)
            have hz4 : (wx1.alloc (.cells #[.int .u8 0, .int .i64 0, .int .i64 0, .int .i64 0, .slice none 0 0] 24)).heap.size = wx1.heap.size + 1 := by show (wx1.heap.push _).size = _; rw [Array.size_push]
            have PZ := box (pk5_newz wx1 (w1.heap.size + 1) (by omega))
            replace OE := box (own_later OE.out ((Below.refl _ _).alloc (Nat.le_refl _) (.cells #[.int .u8 0, .int .i64 0, .int .i64 0, .int .i64 0, .slice none 0 0] 24)))
            refine hK.out _ _ (by exact kx4) (fun hHeld4 => ?_)
            clear hK K
            clear kx4
            generalize wx1.alloc (.cells #[.int .u8 0, .int .i64 0, .int .i64 0, .int .i64 0, .slice none 0 0] 24) = wx4 at hz4 PZ OE hHeld4 ⊢
            refine wpAnyH_ready (rs := [19]) (by kernel_rfl) (by simp) ?_
            refine (AllReadyH.cons (o := { dst := some 46, op := Go.Op.call { callee := Go.Callee.builtin Go.Builtin.append, args := #[Go.Operand.tmp 40, Go.Operand.tmp 45], argTypes := #[22, 22] }, type := 22, pos := "ref.go:55", after := #[{ on := 13, ground := Go.Ground.data }, { on := 18, ground := Go.Ground.data }, { on := 12, ground := Go.Ground.chain }], guard := none }) rfl (fun K hK => ?_) AllReadyH.nil)
            refine step_app0 rfl (.tmp 40) (.tmp 45) rfl w1.heap.size (w1.heap.size) rfl OE.out ⟨b.block, b.off + 13, none⟩ (n - 17) (c - 13) ((xs.drop 13).take (n - 17)) LP rfl (at_drop (HC1.out.below hHeld4) 13 (n - 17) (by omega)) (by omega) w1 hHeld4 hHeld4.size ?_
            intro a3 c3 w3 HI3 HN3 hc3 HQ3 hb3 hs3 hg3
            have hx3 : ∀ q, a3 = some q → w1.heap.size ≤ q.block ∧ w1.heap.size + 1 ≠ q.block := fun q hq => by
              have h := HQ3.out q hq
              refine ⟨h.1, ?_⟩
              omega
            replace PZ := box (PZ.out.grown hg3 (by omega))
            clear HQ3 hg3 OE
            refine hK.out _ _ (by exact hb3) (fun hHeld5 => ?_)
            clear hK K
            refine wpAnyH_take (i := 20) (oi := { dst := some 47, op := Go.Op.build 24 #[(0, Go.Operand.tmp 29), (1, Go.Operand.tmp 33), (2, Go.Operand.tmp 36), (3, Go.Operand.tmp 39), (4, Go.Operand.tmp 46)], type := 24, pos := "ref.go:55", after := #[{ on := 2, ground := Go.Ground.data }, { on := 6, ground := Go.Ground.data }, { on := 9, ground := Go.Ground.data }, { on := 12, ground := Go.Ground.data }, { on := 19, ground := Go.Ground.data }], guard := none }) (v := ?_) rfl (by kernel_rfl) (by kernel_rfl) (by kernel_rfl) (fun _ _ _ h => h) (Or.inl ⟨by rfl, ?_⟩) (by assumption) ?_
            rotate_left
            · (intro w hSw; (try dsimp only at hSw); go_simp; (try with_reducible rfl))
            simp only [Act.put, List.setIfInBounds_toArray, List.set_cons_zero, List.set_cons_succ]
            have DC := decCut_put (w1 := w1) (ys := (xs.drop 13).take (n - 17)) p0 p1 (numTo ((xs.drop 2).take 5) 5) (numTo ((xs.drop 7).take 5) 5) PZ.out HI3.out HN3.out hc3 hx3 (by omega) hHeld5
            obtain ⟨qz0, qz1, qz2, qz3, qz4, qzz⟩ := PZ.out
            refine wpAnyH_ready (rs := [22]) (by kernel_rfl) (by simp) ?_
            refine (AllReadyH.cons (o := { dst := none, op := Go.Op.store 24 (Go.Operand.tmp 4) (Go.Operand.tmp 47), type := 0, pos := "ref.go:55", after := #[{ on := 21, ground := Go.Ground.data }, { on := 20, ground := Go.Ground.data }, { on := 19, ground := Go.Ground.chain }, { on := 0, ground := Go.Ground.phase }, { on := 1, ground := Go.Ground.phase }, { on := 2, ground := Go.Ground.phase }, { on := 3, ground := Go.Ground.phase }, { on := 4, ground := Go.Ground.phase }, { on := 5, ground := Go.Ground.phase }, { on := 6, ground := Go.Ground.phase }, { on := 7, ground := Go.Ground.phase }, { on := 8, ground := Go.Ground.phase }, { on := 9, ground := Go.Ground.phase }, { on := 10, ground := Go.Ground.phase }, { on := 11, ground := Go.Ground.phase }, { on := 12, ground := Go.Ground.phase }, { on := 13, ground := Go.Ground.phase }, { on := 14, ground := Go.Ground.phase }, { on := 15, ground := Go.Ground.phase }, { on := 16, ground := Go.Ground.phase }, { on := 17, ground := Go.Ground.phase }, { on := 18, ground := Go.Ground.phase }, { on := 19, ground := Go.Ground.phase }, { on := 20, ground := Go.Ground.phase }, { on := 21, ground := Go.Ground.phase }], guard := none }) rfl (fun K hK => ?_) AllReadyH.nil)
            go_simp
            refine hK.out _ _ (by exact put5_below hHeld5 (by omega) _ _ _ _ _) (fun hHeld99 => ?_)
            clear hK K
            refine wpAnyH_done (by kernel_rfl) ?_ _
            go_wp2_with fail
            go_meet
            exact DC
        · go_simp
          have kx3 := Below.alloc hHeld2 hHeld2.size (.cells #[.int .u8 0, .int .i64 0, .int .i64 0, .int .i64 0, .slice none 0 0] 24)
          have hz3 : (wx1.alloc (.cells #[.int .u8 0, .int .i64 0, .int .i64 0, .int .i64 0, .slice none 0 0] 24)).heap.size = wx1.heap.size + 1 := by show (wx1.heap.push _).size = _; rw [Array.size_push]
          have PZ := box (pk5_newz wx1 (w1.heap.size + 1) (by omega))
          replace OE := box (own_later OE.out ((Below.refl _ _).alloc (Nat.le_refl _) (.cells #[.int .u8 0, .int .i64 0, .int .i64 0, .int .i64 0, .slice none 0 0] 24)))
          refine hK.out _ _ (by exact kx3) (fun hHeld3 => ?_)
          clear hK K
          clear kx3
          generalize wx1.alloc (.cells #[.int .u8 0, .int .i64 0, .int .i64 0, .int .i64 0, .slice none 0 0] 24) = wx3 at hz3 PZ OE hHeld3 ⊢
          refine wpAnyH_ready (rs := [12]) (by kernel_rfl) (by simp) ?_
          refine (AllReadyH.cons (o := { dst := some 39, op := Go.Op.call { callee := Go.Callee.value (Go.Operand.func 45), args := #[Go.Operand.tmp 38], argTypes := #[22] }, type := 3, pos := "ref.go:55", after := #[{ on := 11, ground := Go.Ground.data }, { on := 9, ground := Go.Ground.chain }], guard := none }) rfl (fun K hK => ?_) AllReadyH.nil)
          go_simp
          refine (N2 _ hHeld3).out.mono ?_
          rintro e wp ⟨rfl, rfl⟩
          refine hK.out _ _ (by exact hHeld3) (fun hHeld4 => ?_)
          clear hK K
          refine wpAnyH_ready (rs := [19]) (by kernel_rfl) (by simp) ?_
          refine (AllReadyH.cons (o := { dst := some 46, op := Go.Op.call { callee := Go.Callee.builtin Go.Builtin.append, args := #[Go.Operand.tmp 40, Go.Operand.tmp 45], argTypes := #[22, 22] }, type := 22, pos := "ref.go:55", after := #[{ on := 13, ground := Go.Ground.data }, { on := 18, ground := Go.Ground.data }, { on := 12, ground := Go.Ground.chain }], guard := none }) rfl (fun K hK => ?_) AllReadyH.nil)
          refine step_app0 rfl (.tmp 40) (.tmp 45) rfl w1.heap.size (w1.heap.size) rfl OE.out ⟨b.block, b.off + 13, none⟩ (n - 17) (c - 13) ((xs.drop 13).take (n - 17)) LP rfl (at_drop (HC1.out.below hHeld4) 13 (n - 17) (by omega)) (by omega) w1 hHeld4 hHeld4.size ?_
          intro a3 c3 w3 HI3 HN3 hc3 HQ3 hb3 hs3 hg3
          have hx3 : ∀ q, a3 = some q → w1.heap.size ≤ q.block ∧ w1.heap.size + 1 ≠ q.block := fun q hq => by
            have h := HQ3.out q hq
            refine ⟨h.1, ?_⟩
            omega
          replace PZ := box (PZ.out.grown hg3 (by omega))
          clear HQ3 hg3 OE
          refine hK.out _ _ (by exact hb3) (fun hHeld5 => ?_)
          clear hK K
          refine wpAnyH_take (i := 20) (oi := { dst := some 47, op := Go.Op.build 24 #[(0, Go.Operand.tmp 29), (1, Go.Operand.tmp 33), (2, Go.Operand.tmp 36), (3, Go.Operand.tmp 39), (4, Go.Operand.tmp 46)], type := 24, pos := "ref.go:55", after := #[{ on := 2, ground := Go.Ground.data }, { on := 6, ground := Go.Ground.data }, { on := 9, ground := Go.Ground.data }, { on := 12, ground := Go.Ground.data }, { on := 19, ground := Go.Ground.data }], guard := none }) (v := ?_) rfl (by kernel_rfl) (by kernel_rfl) (by kernel_rfl) (fun _ _ _ h => h) (Or.inl ⟨by rfl, ?_⟩) (by assumption) ?_
          rotate_left
          · (intro w hSw; (try dsimp only at hSw); go_simp; (try with_reducible rfl))
          simp only [Act.put, List.setIfInBounds_toArray, List.set_cons_zero, List.set_cons_succ]
          have DC := decCut_put (w1 := w1) (ys := (xs.drop 13).take (n - 17)) p0 p1 (numTo ((xs.drop 2).take 5) 5) (numTo ((xs.drop 7).take 5) 5) PZ.out HI3.out HN3.out hc3 hx3 (by omega) hHeld5
          obtain ⟨qz0, qz1, qz2, qz3, qz4, qzz⟩ := PZ.out
          refine wpAnyH_ready (rs := [22]) (by kernel_rfl) (by simp) ?_
          refine (AllReadyH.cons (o := { dst := none, op := Go.Op.store 24 (Go.Operand.tmp 4) (Go.Operand.tmp 47), type := 0, pos := "ref.go:55", after := #[{ on := 21, ground := Go.Ground.data }, { on := 20, ground := Go.Ground.data }, { on := 19, ground := Go.Ground.chain }, { on := 0, ground := Go.Ground.phase }, { on := 1, ground := Go.Ground.phase }, { on := 2, ground := Go.Ground.phase }, { on := 3, ground := Go.Ground.phase }, { on := 4, ground := Go.Ground.phase }, { on := 5, ground := Go.Ground.phase }, { on := 6, ground := Go.Ground.phase }, { on := 7, ground := Go.Ground.phase }, { on := 8, ground := Go.Ground.phase }, { on := 9, ground := Go.Ground.phase }, { on := 10, ground := Go.Ground.phase }, { on := 11, ground := Go.Ground.phase }, { on := 12, ground := Go.Ground.phase }, { on := 13, ground := Go.Ground.phase }, { on := 14, ground := Go.Ground.phase }, { on := 15, ground := Go.Ground.phase }, { on := 16, ground := Go.Ground.phase }, { on := 17, ground := Go.Ground.phase }, { on := 18, ground := Go.Ground.phase }, { on := 19, ground := Go.Ground.phase }, { on := 20, ground := Go.Ground.phase }, { on := 21, ground := Go.Ground.phase }], guard := none }) rfl (fun K hK => ?_) AllReadyH.nil)
          go_simp
          refine hK.out _ _ (by exact put5_below hHeld5 (by omega) _ _ _ _ _) (fun hHeld99 => ?_)
          clear hK K
          refine wpAnyH_done (by kernel_rfl) ?_ _
          go_wp2_with fail
          go_meet
          exact DC
      · go_simp
        have kx2 := Below.alloc hHeld1 hHeld1.size (.cells #[.int .u8 0, .int .i64 0, .int .i64 0, .int .i64 0, .slice none 0 0] 24)
        have hz2 : (wx1.alloc (.cells #[.int .u8 0, .int .i64 0, .int .i64 0, .int .i64 0, .slice none 0 0] 24)).heap.size = wx1.heap.size + 1 := by show (wx1.heap.push _).size = _; rw [Array.size_push]
        have PZ := box (pk5_newz wx1 (w1.heap.size + 1) (by omega))
        replace OE := box (own_later OE.out ((Below.refl _ _).alloc (Nat.le_refl _) (.cells #[.int .u8 0, .int .i64 0, .int .i64 0, .int .i64 0, .slice none 0 0] 24)))
        refine hK.out _ _ (by exact kx2) (fun hHeld2 => ?_)
        clear hK K
        clear kx2
        generalize wx1.alloc (.cells #[.int .u8 0, .int .i64 0, .int .i64 0, .int .i64 0, .slice none 0 0] 24) = wx2 at hz2 PZ OE hHeld2 ⊢
        refine wpAnyH_ready (rs := [9]) (by kernel_rfl) (by simp) ?_
        refine (AllReadyH.cons (o := { dst := some 36, op := Go.Op.call { callee := Go.Callee.value (Go.Operand.func 45), args := #[Go.Operand.tmp 35], argTypes := #[22] }, type := 3, pos := "ref.go:55", after := #[{ on := 8, ground := Go.Ground.data }], guard := none }) rfl (fun K hK => ?_) AllReadyH.nil)
        go_simp
        refine (N1 _ hHeld2).out.mono ?_
        rintro e wp ⟨rfl, rfl⟩
        refine hK.out _ _ (by exact hHeld2) (fun hHeld3 => ?_)
        clear hK K
        refine wpAnyH_ready (rs := [12]) (by kernel_rfl) (by simp) ?_
        refine (AllReadyH.cons (o := { dst := some 39, op := Go.Op.call { callee := Go.Callee.value (Go.Operand.func 45), args := #[Go.Operand.tmp 38], argTypes := #[22] }, type := 3, pos := "ref.go:55", after := #[{ on := 11, ground := Go.Ground.data }, { on := 9, ground := Go.Ground.chain }], guard := none }) rfl (fun K hK => ?_) AllReadyH.nil)
        go_simp
        refine (N2 _ hHeld3).out.mono ?_
        rintro e wp ⟨rfl, rfl⟩
        refine hK.out _ _ (by exact hHeld3) (fun hHeld4 => ?_)
        clear hK K
        refine wpAnyH_ready (rs := [19]) (by kernel_rfl) (by simp) ?_
        refine (AllReadyH.cons (o := { dst := some 46, op := Go.Op.call { callee := Go.Callee.builtin Go.Builtin.append, args := #[Go.Operand.tmp 40, Go.Operand.tmp 45], argTypes := #[22, 22] }, type := 22, pos := "ref.go:55", after := #[{ on := 13, ground := Go.Ground.data }, { on := 18, ground := Go.Ground.data }, { on := 12, ground := Go.Ground.chain }], guard := none }) rfl (fun K hK => ?_) AllReadyH.nil)
        refine step_app0 rfl (.tmp 40) (.tmp 45) rfl w1.heap.size (w1.heap.size) rfl OE.out ⟨b.block, b.off + 13, none⟩ (n - 17) (c - 13) ((xs.drop 13).take (n - 17)) LP rfl (at_drop (HC1.out.below hHeld4) 13 (n - 17) (by omega)) (by omega) w1 hHeld4 hHeld4.size ?_
        intro a3 c3 w3 HI3 HN3 hc3 HQ3 hb3 hs3 hg3
        have hx3 : ∀ q, a3 = some q → w1.heap.size ≤ q.block ∧ w1.heap.size + 1 ≠ q.block := fun q hq => by
          have h := HQ3.out q hq
          refine ⟨h.1, ?_⟩
          omega
        replace PZ := box (PZ.out.grown hg3 (by omega))
        clear HQ3 hg3 OE
        refine hK.out _ _ (by exact hb3) (fun hHeld5 => ?_)
        clear hK K
        refine wpAnyH_take (i := 20) (oi := { dst := some 47, op := Go.Op.build 24 #[(0, Go.Operand.tmp 29), (1, Go.Operand.tmp 33), (2, Go.Operand.tmp 36), (3, Go.Operand.tmp 39), (4, Go.Operand.tmp 46)], type := 24, pos := "ref.go:55", after := #[{ on := 2, ground := Go.Ground.data }, { on := 6, ground := Go.Ground.data }, { on := 9, ground := Go.Ground.data }, { on := 12, ground := Go.Ground.data }, { on := 19, ground := Go.Ground.data }], guard := none }) (v := ?_) rfl (by kernel_rfl) (by kernel_rfl) (by kernel_rfl) (fun _ _ _ h => h) (Or.inl ⟨by rfl, ?_⟩) (by assumption) ?_
        rotate_left
        · (intro w hSw; (try dsimp only at hSw); go_simp; (try with_reducible rfl))
        simp only [Act.put, List.setIfInBounds_toArray, List.set_cons_zero, List.set_cons_succ]
        have DC := decCut_put (w1 := w1) (ys := (xs.drop 13).take (n - 17)) p0 p1 (numTo ((xs.drop 2).take 5) 5) (numTo ((xs.drop 7).take 5) 5) PZ.out HI3.out HN3.out hc3 hx3 (by omega) hHeld5
        obtain ⟨qz0, qz1, qz2, qz3, qz4, qzz⟩ := PZ.out
        refine wpAnyH_ready (rs := [22]) (by kernel_rfl) (by simp) ?_
        refine (AllReadyH.cons (o := { dst := none, op := Go.Op.store 24 (Go.Operand.tmp 4) (Go.Operand.tmp 47), type := 0, pos := "ref.go:55", after := #[{ on := 21, ground := Go.Ground.data }, { on := 20, ground := Go.Ground.data }, { on := 19, ground := Go.Ground.chain }, { on := 0, ground := Go.Ground.phase }, { on := 1, ground := Go.Ground.phase }, { on := 2, ground := Go.Ground.phase }, { on := 3, ground := Go.Ground.phase }, { on := 4, ground := Go.Ground.phase }, { on := 5, ground := Go.Ground.phase }, { on := 6, ground := Go.Ground.phase }, { on := 7, ground := Go.Ground.phase }, { on := 8, ground := Go.Ground.phase }, { on := 9, ground := Go.Ground.phase }, { on := 10, ground := Go.Ground.phase }, { on := 11, ground := Go.Ground.phase }, { on := 12, ground := Go.Ground.phase }, { on := 13, ground := Go.Ground.phase }, { on := 14, ground := Go.Ground.phase }, { on := 15, ground := Go.Ground.phase }, { on := 16, ground := Go.Ground.phase }, { on := 17, ground := Go.Ground.phase }, { on := 18, ground := Go.Ground.phase }, { on := 19, ground := Go.Ground.phase }, { on := 20, ground := Go.Ground.phase }, { on := 21, ground := Go.Ground.phase }], guard := none }) rfl (fun K hK => ?_) AllReadyH.nil)
        go_simp
        refine hK.out _ _ (by exact put5_below hHeld5 (by omega) _ _ _ _ _) (fun hHeld99 => ?_)
        clear hK K
        refine wpAnyH_done (by kernel_rfl) ?_ _
        go_wp2_with fail
        go_meet
        exact DC
    · go_simp
      have kx1 := Below.alloc hHeld hHeld.size (.cells #[.int .u8 0, .int .i64 0, .int .i64 0, .int .i64 0, .slice none 0 0] 24)
      have hz1 : (wa.alloc (.cells #[.int .u8 0, .int .i64 0, .int .i64 0, .int .i64 0, .slice none 0 0] 24)).heap.size = wa.heap.size + 1 := by show (wa.heap.push _).size = _; rw [Array.size_push]
      have PZ := box (pk5_newz wa (w1.heap.size) (by omega))
      refine hK.out _ _ (by exact kx1) (fun hHeld1 => ?_)
      clear hK K
      clear kx1
      generalize wa.alloc (.cells #[.int .u8 0, .int .i64 0, .int .i64 0, .int .i64 0, .slice none 0 0] 24) = wx1 at hz1 PZ hHeld1 ⊢
      refine wpAnyH_ready (rs := [9, 13]) (by kernel_rfl) (by simp) ?_
      refine (AllReadyH.cons (o := { dst := some 36, op := Go.Op.call { callee := Go.Callee.value (Go.Operand.func 45), args := #[Go.Operand.tmp 35], argTypes := #[22] }, type := 3, pos := "ref.go:55", after := #[{ on := 8, ground := Go.Ground.data }], guard := none }) rfl (fun K hK => ?_) (AllReadyH.cons (o := { dst := some 40, op := Go.Op.buildSlice 22 0 #[], type := 22, pos := "ref.go:55", after := #[], guard := none }) rfl (fun K hK => ?_) AllReadyH.nil))
      · go_simp
        refine (N1 _ hHeld1).out.mono ?_
        rintro e wp ⟨rfl, rfl⟩
        refine hK.out _ _ (by exact hHeld1) (fun hHeld2 => ?_)
        clear hK K
        refine wpAnyH_ready (rs := [12, 13]) (by kernel_rfl) (by simp) ?_
        refine (AllReadyH.cons (o := { dst := some 39, op := Go.Op.call { callee := Go.Callee.value (Go.Operand.func 45), args := #[Go.Operand.tmp 38], argTypes := #[22] }, type := 3, pos := "ref.go:55", after := #[{ on := 11, ground := Go.Ground.data }, { on := 9, ground := Go.Ground.chain }], guard := none }) rfl (fun K hK => ?_) (AllReadyH.cons (o := { dst := some 40, op := Go.Op.buildSlice 22 0 #[], type := 22, pos := "ref.go:55", after := #[], guard := none }) rfl (fun K hK => ?_) AllReadyH.nil))
        · go_simp
          refine (N2 _ hHeld2).out.mono ?_
          rintro e wp ⟨rfl, rfl⟩
          refine hK.out _ _ (by exact hHeld2) (fun hHeld3 => ?_)
          clear hK K
          refine wpAnyH_ready (rs := [13]) (by kernel_rfl) (by simp) ?_
          refine (AllReadyH.cons (o := { dst := some 40, op := Go.Op.buildSlice 22 0 #[], type := 22, pos := "ref.go:55", after := #[], guard := none }) rfl (fun K hK => ?_) AllReadyH.nil)
          go_simp
          have kx4 := Below.alloc hHeld3 hHeld3.size (.cells #[] 5)
          have hz4 : (wx1.alloc (.cells #[] 5)).heap.size = wx1.heap.size + 1 := by show (wx1.heap.push _).size = _; rw [Array.size_push]
          have OE := box (own_empty wx1 w1.heap.size (w1.heap.size + 1) hHeld3.size (by omega))
          replace PZ := box (PZ.out.keep ((Below.refl _ _).alloc (Nat.le_refl _) (.cells #[] 5)))
          refine hK.out _ _ (by exact kx4) (fun hHeld4 => ?_)
          clear hK K
          clear kx4
          generalize wx1.alloc (.cells #[] 5) = wx4 at hz4 OE PZ hHeld4 ⊢
          refine wpAnyH_ready (rs := [19]) (by kernel_rfl) (by simp) ?_
          refine (AllReadyH.cons (o := { dst := some 46, op := Go.Op.call { callee := Go.Callee.builtin Go.Builtin.append, args := #[Go.Operand.tmp 40, Go.Operand.tmp 45], argTypes := #[22, 22] }, type := 22, pos := "ref.go:55", after := #[{ on := 13, ground := Go.Ground.data }, { on := 18, ground := Go.Ground.data }, { on := 12, ground := Go.Ground.chain }], guard := none }) rfl (fun K hK => ?_) AllReadyH.nil)
          refine step_app0 rfl (.tmp 40) (.tmp 45) rfl w1.heap.size (w1.heap.size + 1) rfl OE.out ⟨b.block, b.off + 13, none⟩ (n - 17) (c - 13) ((xs.drop 13).take (n - 17)) LP rfl (at_drop (HC1.out.below hHeld4) 13 (n - 17) (by omega)) (by omega) w1 hHeld4 hHeld4.size ?_
          intro a3 c3 w3 HI3 HN3 hc3 HQ3 hb3 hs3 hg3
          have hx3 : ∀ q, a3 = some q → w1.heap.size ≤ q.block ∧ w1.heap.size ≠ q.block := fun q hq => by
            have h := HQ3.out q hq
            refine ⟨h.1, ?_⟩
            omega
          replace PZ := box (PZ.out.grown hg3 (by omega))
          clear HQ3 hg3 OE
          refine hK.out _ _ (by exact hb3) (fun hHeld5 => ?_)
          clear hK K
          refine wpAnyH_take (i := 20) (oi := { dst := some 47, op := Go.Op.build 24 #[(0, Go.Operand.tmp 29), (1, Go.Operand.tmp 33), (2, Go.Operand.tmp 36), (3, Go.Operand.tmp 39), (4, Go.Operand.tmp 46)], type := 24, pos := "ref.go:55", after := #[{ on := 2, ground := Go.Ground.data }, { on := 6, ground := Go.Ground.data }, { on := 9, ground := Go.Ground.data }, { on := 12, ground := Go.Ground.data }, { on := 19, ground := Go.Ground.data }], guard := none }) (v := ?_) rfl (by kernel_rfl) (by kernel_rfl) (by kernel_rfl) (fun _ _ _ h => h) (Or.inl ⟨by rfl, ?_⟩) (by assumption) ?_
          rotate_left
          · (intro w hSw; (try dsimp only at hSw); go_simp; (try with_reducible rfl))
          simp only [Act.put, List.setIfInBounds_toArray, List.set_cons_zero, List.set_cons_succ]
          have DC := decCut_put (w1 := w1) (ys := (xs.drop 13).take (n - 17)) p0 p1 (numTo ((xs.drop 2).take 5) 5) (numTo ((xs.drop 7).take 5) 5) PZ.out HI3.out HN3.out hc3 hx3 (by omega) hHeld5
          obtain ⟨qz0, qz1, qz2, qz3, qz4, qzz⟩ := PZ.out
          refine wpAnyH_ready (rs := [22]) (by kernel_rfl) (by simp) ?_
          refine (AllReadyH.cons (o := { dst := none, op := Go.Op.store 24 (Go.Operand.tmp 4) (Go.Operand.tmp 47), type := 0, pos := "ref.go:55", after := #[{ on := 21, ground := Go.Ground.data }, { on := 20, ground := Go.Ground.data }, { on := 19, ground := Go.Ground.chain }, { on := 0, ground := Go.Ground.phase }, { on := 1, ground := Go.Ground.phase }, { on := 2, ground := Go.Ground.phase }, { on := 3, ground := Go.Ground.phase }, { on := 4, ground := Go.Ground.phase }, { on := 5, ground := Go.Ground.phase }, { on := 6, ground := Go.Ground.phase }, { on := 7, ground := Go.Ground.phase }, { on := 8, ground := Go.Ground.phase }, { on := 9, ground := Go.Ground.phase }, { on := 10, ground := Go.Ground.phase }, { on := 11, ground := Go.Ground.phase }, { on := 12, ground := Go.Ground.phase }, { on := 13, ground := Go.Ground.phase }, { on := 14, ground := Go.Ground.phase }, { on := 15, ground := Go.Ground.phase }, { on := 16, ground := Go.Ground.phase }, { on := 17, ground := Go.Ground.phase }, { on := 18, ground := Go.Ground.phase }, { on := 19, ground := Go.Ground.phase }, { on := 20, ground := Go.Ground.phase }, { on := 21, ground := Go.Ground.phase }], guard := none }) rfl (fun K hK => ?_) AllReadyH.nil)
          go_simp
          refine hK.out _ _ (by exact put5_below hHeld5 (by omega) _ _ _ _ _) (fun hHeld99 => ?_)
          clear hK K
          refine wpAnyH_done (by kernel_rfl) ?_ _
          go_wp2_with fail
          go_meet
          exact DC
        · go_simp
          have kx3 := Below.alloc hHeld2 hHeld2.size (.cells #[] 5)
          have hz3 : (wx1.alloc (.cells #[] 5)).heap.size = wx1.heap.size + 1 := by show (wx1.heap.push _).size = _; rw [Array.size_push]
          have OE := box (own_empty wx1 w1.heap.size (w1.heap.size + 1) hHeld2.size (by omega))
          replace PZ := box (PZ.out.keep ((Below.refl _ _).alloc (Nat.le_refl _) (.cells #[] 5)))
          refine hK.out _ _ (by exact kx3) (fun hHeld3 => ?_)
          clear hK K
          clear kx3
          generalize wx1.alloc (.cells #[] 5) = wx3 at hz3 OE PZ hHeld3 ⊢
          refine wpAnyH_ready (rs := [12]) (by kernel_rfl) (by simp) ?_
          refine (AllReadyH.cons (o := { dst := some 39, op := Go.Op.call { callee := Go.Callee.value (Go.Operand.func 45), args := #[Go.Operand.tmp 38], argTypes := #[22] }, type := 3, pos := "ref.go:55", after := #[{ on := 11, ground := Go.Ground.data }, { on := 9, ground := Go.Ground.chain }], guard := none }) rfl (fun K hK => ?_) AllReadyH.nil)
          go_simp
          refine (N2 _ hHeld3).out.mono ?_
          rintro e wp ⟨rfl, rfl⟩
          refine hK.out _ _ (by exact hHeld3) (fun hHeld4 => ?_)
          clear hK K
          refine wpAnyH_ready (rs := [19]) (by kernel_rfl) (by simp) ?_
          refine (AllReadyH.cons (o := { dst := some 46, op := Go.Op.call { callee := Go.Callee.builtin Go.Builtin.append, args := #[Go.Operand.tmp 40, Go.Operand.tmp 45], argTypes := #[22, 22] }, type := 22, pos := "ref.go:55", after := #[{ on := 13, ground := Go.Ground.data }, { on := 18, ground := Go.Ground.data }, { on := 12, ground := Go.Ground.chain }], guard := none }) rfl (fun K hK => ?_) AllReadyH.nil)
          refine step_app0 rfl (.tmp 40) (.tmp 45) rfl w1.heap.size (w1.heap.size + 1) rfl OE.out ⟨b.block, b.off + 13, none⟩ (n - 17) (c - 13) ((xs.drop 13).take (n - 17)) LP rfl (at_drop (HC1.out.below hHeld4) 13 (n - 17) (by omega)) (by omega) w1 hHeld4 hHeld4.size ?_
          intro a3 c3 w3 HI3 HN3 hc3 HQ3 hb3 hs3 hg3
          have hx3 : ∀ q, a3 = some q → w1.heap.size ≤ q.block ∧ w1.heap.size ≠ q.block := fun q hq => by
            have h := HQ3.out q hq
            refine ⟨h.1, ?_⟩
            omega
          replace PZ := box (PZ.out.grown hg3 (by omega))
          clear HQ3 hg3 OE
          refine hK.out _ _ (by exact hb3) (fun hHeld5 => ?_)
          clear hK K
          refine wpAnyH_take (i := 20) (oi := { dst := some 47, op := Go.Op.build 24 #[(0, Go.Operand.tmp 29), (1, Go.Operand.tmp 33), (2, Go.Operand.tmp 36), (3, Go.Operand.tmp 39), (4, Go.Operand.tmp 46)], type := 24, pos := "ref.go:55", after := #[{ on := 2, ground := Go.Ground.data }, { on := 6, ground := Go.Ground.data }, { on := 9, ground := Go.Ground.data }, { on := 12, ground := Go.Ground.data }, { on := 19, ground := Go.Ground.data }], guard := none }) (v := ?_) rfl (by kernel_rfl) (by kernel_rfl) (by kernel_rfl) (fun _ _ _ h => h) (Or.inl ⟨by rfl, ?_⟩) (by assumption) ?_
          rotate_left
          · (intro w hSw; (try dsimp only at hSw); go_simp; (try with_reducible rfl))
          simp only [Act.put, List.setIfInBounds_toArray, List.set_cons_zero, List.set_cons_succ]
          have DC := decCut_put (w1 := w1) (ys := (xs.drop 13).take (n - 17)) p0 p1 (numTo ((xs.drop 2).take 5) 5) (numTo ((xs.drop 7).take 5) 5) PZ.out HI3.out HN3.out hc3 hx3 (by omega) hHeld5
          obtain ⟨qz0, qz1, qz2, qz3, qz4, qzz⟩ := PZ.out
          refine wpAnyH_ready (rs := [22]) (by kernel_rfl) (by simp) ?_
          refine (AllReadyH.cons (o := { dst := none, op := Go.Op.store 24 (Go.Operand.tmp 4) (Go.Operand.tmp 47), type := 0, pos := "ref.go:55", after := #[{ on := 21, ground := Go.Ground.data }, { on := 20, ground := Go.Ground.data }, { on := 19, ground := Go.Ground.chain }, { on := 0, ground := Go.Ground.phase }, { on := 1, ground := Go.Ground.phase }, { on := 2, ground := Go.Ground.phase }, { on := 3, ground := Go.Ground.phase }, { on := 4, ground := Go.Ground.phase }, { on := 5, ground := Go.Ground.phase }, { on := 6, ground := Go.Ground.phase }, { on := 7, ground := Go.Ground.phase }, { on := 8, ground := Go.Ground.phase }, { on := 9, ground := Go.Ground.phase }, { on := 10, ground := Go.Ground.phase }, { on := 11, ground := Go.Ground.phase }, { on := 12, ground := Go.Ground.phase }, { on := 13, ground := Go.Ground.phase }, { on := 14, ground := Go.Ground.phase }, { on := 15, ground := Go.Ground.phase }, { on := 16, ground := Go.Ground.phase }, { on := 17, ground := Go.Ground.phase }, { on := 18, ground := Go.Ground.phase }, { on := 19, ground := Go.Ground.phase }, { on := 20, ground := Go.Ground.phase }, { on := 21, ground := Go.Ground.phase }], guard := none }) rfl (fun K hK => ?_) AllReadyH.nil)
          go_simp
          refine hK.out _ _ (by exact put5_below hHeld5 (by omega) _ _ _ _ _) (fun hHeld99 => ?_)
          clear hK K
          refine wpAnyH_done (by kernel_rfl) ?_ _
          go_wp2_with fail
          go_meet
          exact DC
      · go_simp
        have kx2 := Below.alloc hHeld1 hHeld1.size (.cells #[] 5)
        have hz2 : (wx1.alloc (.cells #[] 5)).heap.size = wx1.heap.size + 1 := by show (wx1.heap.push _).size = _; rw [Array.size_push]
        have OE := box (own_empty wx1 w1.heap.size (w1.heap.size + 1) hHeld1.size (by omega))
        replace PZ := box (PZ.out.keep ((Below.refl _ _).alloc (Nat.le_refl _) (.cells #[] 5)))
        refine hK.out _ _ (by exact kx2) (fun hHeld2 => ?_)
        clear hK K
        clear kx2
        generalize wx1.alloc (.cells #[] 5) = wx2 at hz2 OE PZ hHeld2 ⊢
        refine wpAnyH_ready (rs := [9]) (by kernel_rfl) (by simp) ?_
        refine (AllReadyH.cons (o := { dst := some 36, op := Go.Op.call { callee := Go.Callee.value (Go.Operand.func 45), args := #[Go.Operand.tmp 35], argTypes := #[22] }, type := 3, pos := "ref.go:55", after := #[{ on := 8, ground := Go.Ground.data }], guard := none }) rfl (fun K hK => ?_) AllReadyH.nil)
        go_simp
        refine (N1 _ hHeld2).out.mono ?_
        rintro e wp ⟨rfl, rfl⟩
        refine hK.out _ _ (by exact hHeld2) (fun hHeld3 => ?_)
        clear hK K
        refine wpAnyH_ready (rs := [12]) (by kernel_rfl) (by simp) ?_
        refine (AllReadyH.cons (o := { dst := some 39, op := Go.Op.call { callee := Go.Callee.value (Go.Operand.func 45), args := #[Go.Operand.tmp 38], argTypes := #[22] }, type := 3, pos := "ref.go:55", after := #[{ on := 11, ground := Go.Ground.data }, { on := 9, ground := Go.Ground.chain }], guard := none }) rfl (fun K hK => ?_) AllReadyH.nil)
        go_simp
        refine (N2 _ hHeld3).out.mono ?_
        rintro e wp ⟨rfl, rfl⟩
        refine hK.out _ _ (by exact hHeld3) (fun hHeld4 => ?_)
        clear hK K
        refine wpAnyH_ready (rs := [19]) (by kernel_rfl) (by simp) ?_
        refine (AllReadyH.cons (o := { dst := some 46, op := Go.Op.call { callee := Go.Callee.builtin Go.Builtin.append, args := #[Go.Operand.tmp 40, Go.Operand.tmp 45], argTypes := #[22, 22] }, type := 22, pos := "ref.go:55", after := #[{ on := 13, ground := Go.Ground.data }, { on := 18, ground := Go.Ground.data }, { on := 12, ground := Go.Ground.chain }], guard := none }) rfl (fun K hK => ?_) AllReadyH.nil)
        refine step_app0 rfl (.tmp 40) (.tmp 45) rfl w1.heap.size (w1.heap.size + 1) rfl OE.out ⟨b.block, b.off + 13, none⟩ (n - 17) (c - 13) ((xs.drop 13).take (n - 17)) LP rfl (at_drop (HC1.out.below hHeld4) 13 (n - 17) (by omega)) (by omega) w1 hHeld4 hHeld4.size ?_
        intro a3 c3 w3 HI3 HN3 hc3 HQ3 hb3 hs3 hg3
        have hx3 : ∀ q, a3 = some q → w1.heap.size ≤ q.block ∧ w1.heap.size ≠ q.block := fun q hq => by
          have h := HQ3.out q hq
          refine ⟨h.1, ?_⟩
          omega
        replace PZ := box (PZ.out.grown hg3 (by omega))
        clear HQ3 hg3 OE
        refine hK.out _ _ (by exact hb3) (fun hHeld5 => ?_)
        clear hK K
        refine wpAnyH_take (i := 20) (oi := { dst := some 47, op := Go.Op.build 24 #[(0, Go.Operand.tmp 29), (1, Go.Operand.tmp 33), (2, Go.Operand.tmp 36), (3, Go.Operand.tmp 39), (4, Go.Operand.tmp 46)], type := 24, pos := "ref.go:55", after := #[{ on := 2, ground := Go.Ground.data }, { on := 6, ground := Go.Ground.data }, { on := 9, ground := Go.Ground.data }, { on := 12, ground := Go.Ground.data }, { on := 19, ground := Go.Ground.data }], guard := none }) (v := ?_) rfl (by kernel_rfl) (by kernel_rfl) (by kernel_rfl) (fun _ _ _ h => h) (Or.inl ⟨by rfl, ?_⟩) (by assumption) ?_
        rotate_left
        · (intro w hSw; (try dsimp only at hSw); go_simp; (try with_reducible rfl))
        simp only [Act.put, List.setIfInBounds_toArray, List.set_cons_zero, List.set_cons_succ]
        have DC := decCut_put (w1 := w1) (ys := (xs.drop 13).take (n - 17)) p0 p1 (numTo ((xs.drop 2).take 5) 5) (numTo ((xs.drop 7).take 5) 5) PZ.out HI3.out HN3.out hc3 hx3 (by omega) hHeld5
        obtain ⟨qz0, qz1, qz2, qz3, qz4, qzz⟩ := PZ.out
        refine wpAnyH_ready (rs := [22]) (by kernel_rfl) (by simp) ?_
        refine (AllReadyH.cons (o := { dst := none, op := Go.Op.store 24 (Go.Operand.tmp 4) (Go.Operand.tmp 47), type := 0, pos := "ref.go:55", after := #[{ on := 21, ground := Go.Ground.data }, { on := 20, ground := Go.Ground.data }, { on := 19, ground := Go.Ground.chain }, { on := 0, ground := Go.Ground.phase }, { on := 1, ground := Go.Ground.phase }, { on := 2, ground := Go.Ground.phase }, { on := 3, ground := Go.Ground.phase }, { on := 4, ground := Go.Ground.phase }, { on := 5, ground := Go.Ground.phase }, { on := 6, ground := Go.Ground.phase }, { on := 7, ground := Go.Ground.phase }, { on := 8, ground := Go.Ground.phase }, { on := 9, ground := Go.Ground.phase }, { on := 10, ground := Go.Ground.phase }, { on := 11, ground := Go.Ground.phase }, { on := 12, ground := Go.Ground.phase }, { on := 13, ground := Go.Ground.phase }, { on := 14, ground := Go.Ground.phase }, { on := 15, ground := Go.Ground.phase }, { on := 16, ground := Go.Ground.phase }, { on := 17, ground := Go.Ground.phase }, { on := 18, ground := Go.Ground.phase }, { on := 19, ground := Go.Ground.phase }, { on := 20, ground := Go.Ground.phase }, { on := 21, ground := Go.Ground.phase }], guard := none }) rfl (fun K hK => ?_) AllReadyH.nil)
        go_simp
        refine hK.out _ _ (by exact put5_below hHeld5 (by omega) _ _ _ _ _) (fun hHeld99 => ?_)
        clear hK K
        refine wpAnyH_done (by kernel_rfl) ?_ _
        go_wp2_with fail
        go_meet
        exact DC
  case rest =>
    obtain ⟨p, a3, c3, rfl, hPk, hI3, hN3, hc3, hq3, hp, hbc⟩ := hcut
    obtain ⟨L17, hL17⟩ : ∃ q, n - 17 = q := ⟨_, rfl⟩
    rw [hL17] at hPk hI3 hc3
    have HL17 := box hL17
    clear hL17
    have PK := box hPk
    have HI3 := box hI3
    have HN3 := box hN3
    have HQ3 := box hq3
    have kc : Below w.heap.size w wc := kb.trans (hbc.mono kb.size)
    have HCc := box (HC1.out.below hbc)
    have hZk := box (show Pk5 wc w.heap.size (nU8 0) (.int .i64 0) (.int .i64 0) (.int .i64 0) (.slice none 0 0) from (show Pk5 w1 w.heap.size _ _ _ _ _ from ⟨ZC.out 0, ZC.out 1, ZC.out 2, ZC.out 3, ZC.out 4, ZF.out⟩).keep hbc)
    clear hPk hI3 hN3 hq3 g0 g1 N1 N2 bd L5 LP
    obtain ⟨m4, hm4⟩ : ∃ m4, n = m4 + 4 := ⟨n - 4, by omega⟩
    have hml : (xs.take m4).length = m4 := by simp; omega
    have HM := box (fun x h => HX.out x (List.mem_of_mem_take h) : ∀ x ∈ xs.take m4, x < 256)
    have SU := box (Crc.rsum_any (some b) m4 c (xs.take m4) hml HM.out (by omega) wc (in_take (.inr ⟨b, rfl, HCc.out⟩) m4))
    have hs := Crc.crc_lt HM.out
    have HD : Box (decE xs = if xs.drop m4 ≠ Crc.le4 (Crc.crc (xs.take m4)) then 9 else if okP p0 p1 (numAt xs 2) (numAt xs 7) L17 then 0 else 1) := box (by
      have h12 : xs.getD 12 0 = x := HX12.out
      have hLx := HL.out
      unfold decE
      rw [if_neg (by omega), if_neg (by rw [h12]; omega), show xs.length - 4 = m4 by omega, HP01.out.1, HP01.out.2, hn, HL17.out])
    generalize Crc.crc (xs.take m4) = s at SU hs HD
    have y20 : (m4 : Int) ≤ (c : Int) := by omega
    have y21 : (n : Int) - 4 = (m4 : Int) := by omega
    have y22 : wrap64 ((n : Int) - 4) = (m4 : Int) := by unfold wrap64; omega
    clear y1 y2 y3 y4 y5 y6 y7 y11 y12 y13 y14
    go_wp2_with fail
    refine SU.out.mono ?_
    rintro e w9 ⟨rfl, hw9⟩
    have hw9' := hw9.symm
    subst hw9'
    clear SU
    go_wp2_with fail
    have HLS := box (le4_at s)
    have hw1w : w.heap.size < w1.heap.size := by have := KZ.out; omega
    obtain ⟨p2, hp2⟩ : ∃ q, numTo ((xs.drop 2).take 5) 5 = q := ⟨_, rfl⟩
    obtain ⟨p3, hp3⟩ : ∃ q, numTo ((xs.drop 7).take 5) 5 = q := ⟨_, rfl⟩
    rw [hp2, hp3] at PK
    have HP23 := box (show numAt xs 2 = p2 ∧ numAt xs 7 = p3 from ⟨hp2, hp3⟩)
    clear hp2 hp3
    rw [HP23.out.1, HP23.out.2] at HD
    go_loopw [6] (fun t6 wr => ∃ k t : Nat, k ≤ 4 ∧ t6 = .int .i64 k ∧ Box (wr = wc.drewN t) ∧ Box (∀ j < k, xs.getD (m4 + j) 0 = (Crc.le4 s).getD j 0)) (fun t6 _ => 4 - (intOf t6).toNat)
    case atStart => exact ⟨0, 0, by omega, rfl, box rfl, box (fun j hj => by omega)⟩
    case round =>
      obtain ⟨k, t, hk, rfl, hwr, heq⟩ := hrel
      have kd : Below wc.heap.size wc wr := by rw [hwr.out]; exact drewN_below wc t
      have kr := kc.trans (kd.mono kc.size)
      by_cases hlt : k < 4
      · have hidx : m4 + k < xs.length := by omega
        have cx := keepc kd (HCc.out (m4 + k) hidx)
        have lx2 := getD_lt HX.out hidx
        have HSK := HLS.out k hlt
        obtain ⟨x', hx'⟩ : ∃ q, xs.getD (m4 + k) 0 = q := ⟨_, rfl⟩
        have HXK := box hx'
        rw [hx'] at cx lx2
        clear hx'
        obtain ⟨y, hy⟩ : ∃ y, s / 2 ^ (8 * k) = y := ⟨_, rfl⟩
        have ey : (s : Int) / 2 ^ (8 * k) = (y : Int) := by rw [← hy]; push_cast; rfl
        have e8 : (8 * (k : Int)).toNat = 8 * k := by omega
        rw [hy] at HSK
        clear hy
        have e2 : (y : Int) % 256 = ((y % 256 : Nat) : Int) := by omega
        have lz : y % 256 < 256 := Nat.mod_lt _ (by decide)
        generalize y % 256 = z at e2 HSK lz
        have HZK := box HSK
        clear HSK
        have et : ((m4 : Int) + (k : Int)).toNat = m4 + k := by omega
        have ez : (m4 : Int) + (k : Int) < (n : Int) := by omega
        by_cases hxz : x' = z
        · have dz : ((x' : Int) != (z : Int)) = false := by simp [hxz]
          have HXZ := box hxz
          clear hxz
          go_wp2_with fail
          go_quiet (fail)
          go_wp2_with fail
          go_roundw
          case rel =>
            refine ⟨k + 1, t + nq, by omega, by go_num, box ?_, box (fun j hj => ?_)⟩
            · rw [hwr.out]; exact drewN_two wc t nq
            · rcases Nat.lt_or_ge j k with h | h
              · exact heq.out j h
              · obtain rfl : j = k := by omega
                rw [HXK.out, HXZ.out, HZK.out]
          case measure => simp [intOf]; omega
        · have dz : ((x' : Int) != (z : Int)) = true := by simp; omega
          have hd9 : decE xs = 9 := by
            rw [HD.out, if_pos]
            intro hE
            apply hxz
            rw [← HXK.out, ← HZK.out, ← hE]
            simp [List.getD_eq_getElem?_getD]
          have HF := fun w' (h : Below w.heap.size w w') => box (show RDec xs w (.returned (.tuple #[pk0, .int .i64 9])) w' from ⟨h, .inl ⟨by omega, by rw [hd9]; rfl⟩⟩)
          clear hd9 hxz
          go_wp2_with fail
          go_quiet (fail)
          have kq : Below wc.heap.size wc (wr.drewN nq) := kd.trans ((drewN_below wr nq).mono kd.size)
          have Z4 := box (hZk.out.keep kq)
          have KQ := box (kc.trans (kq.mono kc.size))
          obtain ⟨z0, z1, z2, z3, z4, zz⟩ := Z4.out
          go_wp2_with fail
          have Y := pk5_put Z4.out (nU8 0) (.int .i64 0) (.int .i64 0) (.int .i64 0) (.slice none 0 0)
          have YB := put5_below (q := w.heap.size) KQ.out (Nat.le_refl _) (nU8 0) (.int .i64 0) (.int .i64 0) (.int .i64 0) (.slice none 0 0)
          change bodyPost _ _ _ _ _ (put5 (wr.drewN nq) w.heap.size (nU8 0) (.int .i64 0) (.int .i64 0) (.int .i64 0) (.slice none 0 0))
          generalize put5 (wr.drewN nq) w.heap.size (nU8 0) (.int .i64 0) (.int .i64 0) (.int .i64 0) (.slice none 0 0) = w5 at Y YB ⊢
          clear z0 z1 z2 z3 z4 zz
          obtain ⟨z0, z1, z2, z3, z4, _⟩ := Y
          exact bodyPost_ret (v := .tuple #[pk0, .int .i64 9]) (by simp [results, Tryd.results23, go_sem, z0, z1, z2, z3, z4]) rfl (HF _ YB).out
      · have hsl : xs.drop m4 = Crc.le4 s := by
          refine list_eq (by simp [Crc.le4_length]; omega) (fun j hj => ?_)
          have hj4 : j < 4 := by simp at hj; omega
          rw [← heq.out j (by omega)]
          simp [List.getD_eq_getElem?_getD]
        have HD2 : Box (decE xs = if okP p0 p1 p2 p3 L17 then 0 else 1) := box (by rw [HD.out, if_neg (fun h => h hsl)])
        clear hsl
        obtain ⟨r, hr⟩ : ∃ r, okP p0 p1 p2 p3 L17 = r := ⟨_, rfl⟩
        have VA := box (rvalid_any p0 p1 p2 p3 a3 L17 c3 r hr wr)
        have HRR := box hr
        clear hr
        have PKr := box (PK.out.keep kd)
        have Zr := box (hZk.out.keep kd)
        have I3r := box (HI3.out.below kd)
        have ez : ¬ ((k : Int) < 4) := by omega
        have wq : w.heap.size ≠ p := by omega
        obtain ⟨q0, q1, q2, q3, q4, qz⟩ := PKr.out
        go_wp2_with fail
        refine VA.out.mono ?_
        rintro e w4 ⟨rfl, hb4⟩
        have K4 := box (kr.trans (hb4.mono kr.size))
        have PK4 := box (PKr.out.keep hb4)
        have PZ4 := box (Zr.out.keep hb4)
        have I4 := box (I3r.out.below hb4)
        clear VA PKr Zr I3r hb4 q0 q1 q2 q3 q4 qz kr kd
        obtain ⟨r0, r1, r2, r3, r4, rz⟩ := PK4.out
        obtain ⟨s0, s1, s2, s3, s4, sz⟩ := PZ4.out
        cases r
        · have HF := fun w' (h : Below w.heap.size w w') => box (show RDec xs w (.returned (.tuple #[pk0, .int .i64 1])) w' from ⟨h, .inl ⟨by rw [HD2.out, HRR.out]; simp, by rw [HD2.out, HRR.out]; rfl⟩⟩)
          go_wp2_with fail
          have Y := pk5_put PZ4.out (nU8 0) (.int .i64 0) (.int .i64 0) (.int .i64 0) (.slice none 0 0)
          have YB := put5_below (q := w.heap.size) K4.out (Nat.le_refl _) (nU8 0) (.int .i64 0) (.int .i64 0) (.int .i64 0) (.slice none 0 0)
          change bodyPost _ _ _ _ _ (put5 w4 w.heap.size (nU8 0) (.int .i64 0) (.int .i64 0) (.int .i64 0) (.slice none 0 0))
          generalize put5 w4 w.heap.size (nU8 0) (.int .i64 0) (.int .i64 0) (.int .i64 0) (.slice none 0 0) = w5 at Y YB ⊢
          clear r0 r1 r2 r3 r4 rz s0 s1 s2 s3 s4 sz
          obtain ⟨z0, z1, z2, z3, z4, _⟩ := Y
          exact bodyPost_ret (v := .tuple #[pk0, .int .i64 1]) (by simp [results, Tryd.results23, go_sem, z0, z1, z2, z3, z4]) rfl (HF _ YB).out
        · have hln : xs.length - 17 = L17 := by have := HL17.out; omega
          have HF := fun w' (h : Below w.heap.size w w') (hi : In w' a3 ((xs.drop 13).take L17)) => box (show RDec xs w (.returned (.tuple #[pkV p0 p1 p2 p3 a3 L17 c3, .int .i64 0])) w' from ⟨h, .inr ⟨by rw [HD2.out, HRR.out]; rfl, a3, c3, by rw [HP01.out.1, HP01.out.2, HP23.out.1, HP23.out.2, hln], by rw [hln]; exact hi, HN3.out, by omega, fun g hg => by have := HQ3.out g hg; omega⟩⟩)
          go_wp2_with fail
          have Y := pk5_put PZ4.out (nU8 p0) (.int .i64 p1) (.int .i64 p2) (.int .i64 p3) (.slice a3 L17 c3)
          have YB := put5_below (q := w.heap.size) K4.out (Nat.le_refl _) (nU8 p0) (.int .i64 p1) (.int .i64 p2) (.int .i64 p3) (.slice a3 L17 c3)
          have YI := put5_in I4.out w.heap.size (nU8 p0) (.int .i64 p1) (.int .i64 p2) (.int .i64 p3) (.slice a3 L17 c3) (fun g hg => by have := HQ3.out g hg; omega)
          change bodyPost _ _ _ _ _ (put5 w4 w.heap.size (nU8 p0) (.int .i64 p1) (.int .i64 p2) (.int .i64 p3) (.slice a3 L17 c3))
          generalize put5 w4 w.heap.size (nU8 p0) (.int .i64 p1) (.int .i64 p2) (.int .i64 p3) (.slice a3 L17 c3) = w5 at Y YB YI ⊢
          clear r0 r1 r2 r3 r4 rz s0 s1 s2 s3 s4 sz
          obtain ⟨z0, z1, z2, z3, z4, _⟩ := Y
          exact bodyPost_ret (v := .tuple #[pkV p0 p1 p2 p3 a3 L17 c3, .int .i64 0]) (by simp [results, Tryd.results23, go_sem, z0, z1, z2, z3, z4]) rfl (HF _ YB YI).out

theorem rdec_any (a : Option Addr) (n c : Nat) (xs : List Nat) (hn : xs.length = n) (hx : ∀ x ∈ xs, x < 256) (hcap : n ≤ c) (w : World) (hc : In w a xs) :
    Calls Tryd.prog 23 #[.slice a n c] w (RDec xs w) := by
  by_cases h17 : n < 17
  · exact rdec_short a n c xs hn h17 w
  rcases hc with h | ⟨b, rfl, hc⟩
  · subst h; simp at hn; omega
  by_cases hf : 64 < xs.getD 12 0 ∨ xs.getD 12 0 + 17 ≠ n
  · exact rdec_form b n c xs hn hx h17 hf w hc
  · exact rdec_main b n c xs hn hx hcap h17 hf w hc
end Go.Proofs.YthfoakomapmkeaaDoor
