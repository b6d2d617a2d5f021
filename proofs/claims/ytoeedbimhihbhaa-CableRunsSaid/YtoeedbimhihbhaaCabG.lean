/- New, and the cable's small methods. -/
import Derived.Test.YtoeedbimhihbhaaCabF
namespace Go.Proofs.Ytoeedbimhihbhaa
open Go.RowKit

/-- What a method of a cable leaves: all but the cable's block and its row is as it was; its new row is the old one, or new. -/
structure Steps (g : Nat) (v v' : Value) (w w' : World) : Prop where
  apart : Apart g v.ownBlock w w'
  far : ∀ k, v'.ownBlock = some k → v.ownBlock = some k ∨ w.heap.size ≤ k
theorem Apart.drew {g : Nat} {r : Option Nat} {w w' : World} (x : Apart g r w w') : Apart g r w w'.drew := ⟨x.os, x.tape, x.output, x.size, x.block⟩
theorem Steps.refl (g : Nat) (v : Value) (w : World) : Steps g v v w w := ⟨Apart.refl _ _ _, fun _ h => .inl h⟩
theorem Steps.trans {g : Nat} {v v' v'' : Value} {a b c : World} (x : Steps g v v' a b) (y : Steps g v' v'' b c) : Steps g v v'' a c := by
  refine ⟨⟨y.apart.os.trans x.apart.os, y.apart.tape.trans x.apart.tape, y.apart.output.trans x.apart.output, Nat.le_trans x.apart.size y.apart.size, fun k hk h1 h2 => ?_⟩, fun k hk => ?_⟩
  · refine (y.apart.block k (Nat.lt_of_lt_of_le hk x.apart.size) h1 (fun e => ?_)).trans (x.apart.block k hk h1 h2)
    rcases x.far k e.symm with h | h
    · exact h2 h.symm
    · omega
  · rcases y.far k hk with h | h
    · exact x.far k h
    · exact .inr (Nat.le_trans x.apart.size h)
theorem Steps.ofBelow {g : Nat} {v : Value} {w w' : World} (h : Below w.heap.size w w') : Steps g v v w w' := ⟨Apart.ofBelow h, fun _ h => .inl h⟩
theorem Steps.below {g B : Nat} {v v' : Value} {w0 w w' : World} (x : Steps g v v' w w') (hb : Below B w0 w) (hB : B ≤ w.heap.size) (hg : B ≤ g) (hh : ∀ k, v.ownBlock = some k → B ≤ k) : Below B w0 w' := x.apart.below hb hB hg hh

/-- A cable of which a few cells were set. -/
theorem CabAt.mod {B : Nat} {Z : Nat → Prop} {w w' : World} {g : Nat} {v : Value} {s : Cab} (x : CabAt B Z w g v s) (hk : ∀ k, k ≠ g → w'.heap[k]? = w.heap[k]?) {up : Bool} {time sent lost : Nat}
    (c0 : w'.cell? ⟨g, 0, none⟩ = some (.int .i64 s.d)) (c1 : w'.cell? ⟨g, 1, none⟩ = some (.slice s.fa s.fs.length s.fc)) (c2 : w'.cell? ⟨g, 2, none⟩ = some (.bool up)) (c3 : w'.cell? ⟨g, 3, none⟩ = some (.int .i64 time)) (c4 : w'.cell? ⟨g, 4, none⟩ = some (.int .i64 sent)) (c5 : w'.cell? ⟨g, 5, none⟩ = some v) (c6 : w'.cell? ⟨g, 6, none⟩ = some (.int .i64 lost)) (fr : ∀ j, w'.frozen? ⟨g, j, none⟩ = false) :
    CabAt B Z w' g v ⟨s.d, s.fa, s.fc, s.fs, up, time, sent, s.fl, lost⟩ :=
  ⟨c0, c1, c2, c3, c4, c5, c6, fr, row_same x.row (fun k hv => hk k (fun e => x.ne (by rw [hv, e]))), x.ne,
    fun f hf => (x.syms f hf).keep (fun k _ h2 => hk k (fun e => h2 (.inr (.inl e)))),
    x.fts.same (fun hx p hp => hk _ (fun e => x.ftn hx p hp (.inr (.inl e)))), x.ftn, x.hB, x.gz, x.vz, x.asc, x.args, x.fsl, x.fll⟩
/-- A cable whose row is empty now. -/
theorem CabAt.mod0 {B : Nat} {Z : Nat → Prop} {w w' : World} {g : Nat} {v : Value} {s : Cab} (x : CabAt B Z w g v s) (hk : ∀ k, k ≠ g → w'.heap[k]? = w.heap[k]?) {up : Bool} {time sent lost : Nat}
    (c0 : w'.cell? ⟨g, 0, none⟩ = some (.int .i64 s.d)) (c1 : w'.cell? ⟨g, 1, none⟩ = some (.slice s.fa s.fs.length s.fc)) (c2 : w'.cell? ⟨g, 2, none⟩ = some (.bool up)) (c3 : w'.cell? ⟨g, 3, none⟩ = some (.int .i64 time)) (c4 : w'.cell? ⟨g, 4, none⟩ = some (.int .i64 sent)) (c5 : w'.cell? ⟨g, 5, none⟩ = some (.slice none 0 0)) (c6 : w'.cell? ⟨g, 6, none⟩ = some (.int .i64 lost)) (fr : ∀ j, w'.frozen? ⟨g, j, none⟩ = false) :
    CabAt B Z w' g (.slice none 0 0) ⟨s.d, s.fa, s.fc, s.fs, up, time, sent, [], lost⟩ :=
  ⟨c0, c1, c2, c3, c4, c5, c6, fr, World.ownsRow_nil _ _ _ _, (fun h => by cases h),
    (fun f hf => by cases hf),
    x.fts.same (fun hx p hp => hk _ (fun e => x.ftn hx p hp (.inr (.inl e)))), (fun hx q hq h => x.ftn hx q hq (h.elim .inl (fun h => h.elim (fun h => .inr (.inl h)) (fun h => by cases h)))), x.hB, x.gz, (fun k h => by cases h), x.asc, x.args, x.fsl, Nat.zero_le _⟩

set_option maxHeartbeats 4000000 in
theorem new_range (d : Int) (hd : d < 1 ∨ 100 < d) (a : Option Addr) (n c : Nat) (w : World) :
    Calls Try.prog 12 #[.int .i64 d, .slice a n c] w fun e w' => e = .returned (.tuple #[.pointer none, .int .i64 2]) ∧ Below w.heap.size w w' := by
  by_cases h : d < 1
  · have d1 : decide (d < 1) = true := decide_eq_true h
    clear hd h
    go_enter Try.func12, Try.ntmps12
    go_wp2_with fail
    go_ret2
    exact ⟨rfl, Below.refl _ _⟩
  · have d1 : decide (d < 1) = false := decide_eq_false h
    have d2 : decide (100 < d) = true := decide_eq_true (by omega)
    clear hd h
    go_enter Try.func12, Try.ntmps12
    go_wp2_with fail
    go_ret2
    exact ⟨rfl, Below.refl _ _⟩

set_option maxHeartbeats 4000000 in
theorem new_arg (d : Int) (h0 : 1 ≤ d) (h1 : d ≤ 100) (a : Option Addr) (n c : Nat) (fs : List Ft) (hn : fs.length = n) (hbig : n ≤ 1000) (hok : okF fs = false) (w : World) (hc : FtsIn w a fs) :
    Calls Try.prog 12 #[.int .i64 d, .slice a n c] w fun e w' => e = .returned (.tuple #[.pointer none, .int .i64 1]) ∧ Below w.heap.size w w' := by
  have V := box (valid_any a n c fs hn hbig w hc)
  rw [hok] at V
  have d1 : decide (d < 1) = false := decide_eq_false (by omega)
  have d2 : decide (100 < d) = false := decide_eq_false (by omega)
  clear hok hc
  go_enter Try.func12, Try.ntmps12
  go_wp2_with fail
  refine V.out.mono ?_
  rintro e w1 ⟨rfl, hb⟩
  go_wp2_with fail
  go_ret2
  exact ⟨rfl, hb⟩

set_option maxRecDepth 100000 in
set_option maxHeartbeats 8000000 in
theorem new_ok (d : Nat) (h0 : 1 ≤ d) (h1 : d ≤ 100) (a : Option Addr) (n c : Nat) (fs : List Ft) (hn : fs.length = n) (hbig : n ≤ 1000) (hnil : a = none → c = 0) (hok : okF fs = true) (w : World) (hc : FtsIn w a fs) :
    Calls Try.prog 12 #[.int .i64 d, .slice a n c] w fun e w' => ∃ g fa fc, e = .returned (.tuple #[.pointer (some ⟨g, 0, none⟩), .int .i64 0]) ∧ Below w.heap.size w w' ∧ CabAt w.heap.size (fun k => k < w.heap.size) w' g (.slice none 0 0) ⟨d, fa, fc, fs, true, 0, 0, [], 0⟩ := by
  have V := box (valid_any a n c fs hn hbig w hc)
  rw [hok] at V
  have HASC := box (asc_of_ok hok).2
  have HARG := box (args_of_ok hok)
  have CL := fun (w' : World) (hb : Below w.heap.size w w') => box (cloneF_any a n c fs hn hbig hnil w' (hc.below hb))
  have d1 : decide ((d : Int) < 1) = false := decide_eq_false (by omega)
  have d2 : decide (100 < (d : Int)) = false := decide_eq_false (by omega)
  clear hok hc hnil
  have HN := box hn
  clear hn
  go_enter Try.func12, Try.ntmps12
  go_wp2_with fail
  refine V.out.mono ?_
  rintro e w1 ⟨rfl, hb⟩
  go_wp2_with fail
  refine (CL w1 hb).out.mono ?_
  rintro e w2 ⟨fa, fc, rfl, hown, hb2⟩
  have kb2 := hb.trans (hb2.mono hb.size)
  have HO := box hown
  clear hown V CL
  go_wp2_with fail
  go_ret2
  have k3 : Below w2.heap.size w2 (w2.alloc (.cells #[.int .i64 d, .slice fa n fc, .bool true, .int .i64 0, .int .i64 0, .slice none 0 0, .int .i64 0] 62)) := (Below.refl _ _).alloc (Nat.le_refl _) _
  have q := World.cell?_alloc_mark w2 #[.int .i64 d, .slice fa n fc, .bool true, .int .i64 0, .int .i64 0, .slice none 0 0, .int .i64 0] 62 (0, 0)
  refine ⟨w2.heap.size, fa, fc, rfl, kb2.trans (k3.mono kb2.size), ⟨q 0, ?_, q 2, q 3, q 4, q 5, q 6, fun j => ?_, World.ownsRow_nil _ _ _ _, (fun h => by cases h), (fun f hf => by cases hf), HO.out.inn.below k3, fun hx p hp h => ?_, kb2.size, fun h => ?_, (fun k h => by cases h), HASC.out, HARG.out, ?_, Nat.zero_le _⟩⟩
  · rw [HN.out]; exact q 1
  · unfold World.frozen?
    have h : (w2.alloc (.cells #[.int .i64 d, .slice fa n fc, .bool true, .int .i64 0, .int .i64 0, .slice none 0 0, .int .i64 0] 62)).heap[w2.heap.size]? = some (.cells #[.int .i64 d, .slice fa n fc, .bool true, .int .i64 0, .int .i64 0, .slice none 0 0, .int .i64 0] 62) := by show (w2.heap.push _)[w2.heap.size]? = _; simp
    rw [show (⟨w2.heap.size, j, none⟩ : Addr).block = w2.heap.size from rfl, h]
    simp
  · have h2 := HO.out.blk p hp
    have h3 := HO.out.inn
    have hp : fa = some p := hp
    rw [hp] at h3
    have h4 := h3.lt hx
    have := hb.size
    rcases h with h | h | h
    · omega
    · omega
    · cases h
  · have := kb2.size; omega
  · rw [HN.out]; exact hbig

set_option maxHeartbeats 2000000 in
theorem up_any (B : Nat) (Z : Nat → Prop) (g : Nat) (v : Value) (s : Cab) (w : World) (x : CabAt B Z w g v s) :
    Calls Try.prog 14 #[.pointer (some ⟨g, 0, none⟩)] w fun e w' => e = .returned (.bool s.up) ∧ w = w' := by
  obtain ⟨c0, c1, c2, c3, c4, c5, c6, fr, _, _, _, _, _, _, _, _, _, _, _, _⟩ := x
  go_enter Try.func14, Try.ntmps14
  go_wp2_with fail
  go_ret
  exact ⟨rfl, rfl⟩
theorem up_nil (w : World) :
    Calls Try.prog 14 #[.pointer none] w fun e w' => e = .returned (.bool false) ∧ w = w' := by
  go_enter Try.func14, Try.ntmps14
  go_wp2_with fail
  go_ret
  exact ⟨rfl, rfl⟩
set_option maxHeartbeats 2000000 in
theorem flying_any (B : Nat) (Z : Nat → Prop) (g : Nat) (v : Value) (s : Cab) (w : World) (x : CabAt B Z w g v s) :
    Calls Try.prog 15 #[.pointer (some ⟨g, 0, none⟩)] w fun e w' => e = .returned (.int .i64 s.fl.length) ∧ w = w' := by
  obtain ⟨a, c, hv⟩ : ∃ a c, v = .slice a s.fl.length c := by
    rcases row_form x.row with ⟨h, h0, _⟩ | ⟨g', c, h, _⟩
    · exact ⟨none, 0, by rw [h, h0]⟩
    · exact ⟨_, c, h⟩
  obtain ⟨c0, c1, c2, c3, c4, c5, c6, fr, _, _, _, _, _, _, _, _, _, _, _, _⟩ := x
  rw [hv] at c5
  go_enter Try.func15, Try.ntmps15
  go_wp2_with fail
  go_ret
  exact ⟨rfl, rfl⟩
theorem flying_nil (w : World) :
    Calls Try.prog 15 #[.pointer none] w fun e w' => e = .returned (.int .i64 0) ∧ w = w' := by
  go_enter Try.func15, Try.ntmps15
  go_wp2_with fail
  go_ret
  exact ⟨rfl, rfl⟩
set_option maxHeartbeats 2000000 in
theorem lost_any (B : Nat) (Z : Nat → Prop) (g : Nat) (v : Value) (s : Cab) (w : World) (x : CabAt B Z w g v s) :
    Calls Try.prog 16 #[.pointer (some ⟨g, 0, none⟩)] w fun e w' => e = .returned (.int .i64 s.lost) ∧ w = w' := by
  obtain ⟨c0, c1, c2, c3, c4, c5, c6, fr, _, _, _, _, _, _, _, _, _, _, _, _⟩ := x
  go_enter Try.func16, Try.ntmps16
  go_wp2_with fail
  go_ret
  exact ⟨rfl, rfl⟩
theorem lost_nil (w : World) :
    Calls Try.prog 16 #[.pointer none] w fun e w' => e = .returned (.int .i64 0) ∧ w = w' := by
  go_enter Try.func16, Try.ntmps16
  go_wp2_with fail
  go_ret
  exact ⟨rfl, rfl⟩

theorem fr_put {w : World} {g : Nat} (fr : ∀ j, w.frozen? ⟨g, j, none⟩ = false) (i : Nat) (v : Value) : ∀ j, (w.setCell ⟨g, i, none⟩ v).frozen? ⟨g, j, none⟩ = false := fun j => by rw [World.frozen?_setCell]; exact fr j

set_option maxHeartbeats 4000000 in
theorem mend_any (B : Nat) (Z : Nat → Prop) (g : Nat) (v : Value) (s : Cab) (w : World) (x : CabAt B Z w g v s) :
    Calls Try.prog 25 #[.pointer (some ⟨g, 0, none⟩)] w fun e w' => e = .returned (.tuple #[]) ∧ CabAt B Z w' g v ⟨s.d, s.fa, s.fc, s.fs, true, s.time, s.sent, s.fl, s.lost⟩ ∧ Steps g v v w w' := by
  have X := box x
  obtain ⟨c0, c1, c2, c3, c4, c5, c6, fr, _, _, _, _, _, _, _, _, _, _, _, _⟩ := x
  go_enter Try.func25, Try.ntmps25
  go_wp2_with fail
  go_end0
  refine ⟨rfl, X.out.mod (fun k hk => heap_else (fun e => hk e.symm) _) (cell_else (by decide) c0 _) (cell_else (by decide) c1 _) (cell_put c2 _) (cell_else (by decide) c3 _) (cell_else (by decide) c4 _) (cell_else (by decide) c5 _) (cell_else (by decide) c6 _) (fr_put fr _ _), ⟨(Apart.refl _ _ _).setCell 2 _, fun _ h => .inl h⟩⟩
theorem mend_nil (w : World) :
    Calls Try.prog 25 #[.pointer none] w fun e w' => e = .returned (.tuple #[]) ∧ w = w' := by
  go_enter Try.func25, Try.ntmps25
  go_wp2_with fail
  (try simp only [Exit.inBlock, Exit.then])
  refine bodyPost_ret (results_none rfl _ _ _) rfl ?_
  exact ⟨rfl, rfl⟩
theorem cut_nil (w : World) :
    Calls Try.prog 24 #[.pointer none] w fun e w' => e = .returned (.tuple #[]) ∧ w = w' := by
  go_enter Try.func24, Try.ntmps24
  go_wp2_with fail
  (try simp only [Exit.inBlock, Exit.then])
  refine bodyPost_ret (results_none rfl _ _ _) rfl ?_
  exact ⟨rfl, rfl⟩
end Go.Proofs.Ytoeedbimhihbhaa
