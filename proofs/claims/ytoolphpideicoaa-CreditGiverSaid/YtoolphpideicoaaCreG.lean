/- New takers; awake. -/
import Derived.Test.YtoolphpideicoaaCreF
namespace Go.Proofs.Ytoolphpideicoaa
open Go.RowKit

set_option maxRecDepth 100000 in
set_option maxHeartbeats 2000000 in
theorem newt_any (n : Nat) (h1 : 1 ≤ n) (h4 : n ≤ 4) (nI : Int) (hn : nI = n) (w : World) :
    Calls Try.prog 13 #[.int .i64 nI] w fun e w' => ∃ g h, e = .returned (.tuple #[.pointer (some ⟨g, 0, none⟩), .int .i64 0]) ∧ TkAt w' g h (List.replicate n ⟨0, 0⟩) ∧ w.heap.size ≤ g ∧ w.heap.size ≤ h ∧ Below w.heap.size w w' := by
  subst hn
  obtain ⟨i, hi1, hz1, hs1, hb1⟩ := info_parts Try.infoSup
  have mk := run_make (P := Try.prog) w 69 79 i _ Try.underlying69 hi1 hz1 .i64 .i64 n n (by omega) (Int.le_refl _) (by rw [hb1]; omega) (by omega)
  rw [hs1] at mk
  simp only [Int.toNat_natCast] at mk
  have hcs : (Value.agg #[.int .i64 0, .int .i64 0]).cells = #[.int .i64 0, .int .i64 0] := by rfl
  rw [hcs] at mk
  have C := made_cell w #[.int .i64 0, .int .i64 0] (.int .i64 0) (fun i hi => by match i, hi with | 0, _ => rfl | 1, _ => rfl) (by decide) (n * 2) 79
  have Z := unfrozen w (madeCells #[.int .i64 0, .int .i64 0] (n * 2)) 79
  have kA : Below w.heap.size w (w.alloc (.cells (madeCells #[.int .i64 0, .int .i64 0] (n * 2)) 79)) := (Below.refl _ _).alloc (Nat.le_refl _) _
  have sA : (w.alloc (.cells (madeCells #[.int .i64 0, .int .i64 0] (n * 2)) 79)).heap.size = w.heap.size + 1 := size_alloc' _ _
  have C0 := box (fun j (hj : j < n) => show C2 (w.alloc (.cells (madeCells #[.int .i64 0, .int .i64 0] (n * 2)) 79)) w.heap.size (j * 2) ⟨0, 0⟩ from ⟨C _ (by omega), C _ (by omega), Z⟩)
  have KA := box kA
  have SA := box sA
  clear C Z kA sA hcs hi1 hz1 hs1 hb1
  go_enter Try.func13, Try.ntmps13
  go_wp2_with fail
  clear mk
  generalize w.alloc (.cells (madeCells #[.int .i64 0, .int .i64 0] (n * 2)) 79) = wa at KA SA C0 ⊢
  have kB : Below wa.heap.size wa (wa.alloc (.cells #[.slice (some ⟨w.heap.size, 0, none⟩) n n] 71)) := (Below.refl _ _).alloc (Nat.le_refl _) _
  have TK : TkAt (wa.alloc (.cells #[.slice (some ⟨w.heap.size, 0, none⟩) n n] 71)) wa.heap.size w.heap.size (List.replicate n ⟨0, 0⟩) := by
    have := SA.out
    refine ⟨?_, by omega, fun j hj => ?_, by rw [size_alloc']; omega⟩
    · rw [List.length_replicate]; exact box_new _ _ _
    · rw [List.getElem_replicate]
      exact (C0.out j (by simpa using hj)).same (kB.block _ (by omega))
  have BB : Below w.heap.size w (wa.alloc (.cells #[.slice (some ⟨w.heap.size, 0, none⟩) n n] 71)) := KA.out.trans (kB.mono KA.out.size)
  rw [SA.out] at TK
  go_ret2
  exact ⟨_, _, rfl, TK, Nat.le_succ _, Nat.le_refl _, BB⟩
set_option maxHeartbeats 2000000 in
theorem newt_bad (n : Int) (hn : n < 1 ∨ 4 < n) (w : World) :
    Calls Try.prog 13 #[.int .i64 n] w fun e w' => e = .returned (.tuple #[.pointer none, .int .i64 2]) ∧ w = w' := by
  by_cases h1 : n < 1
  · clear hn
    go_enter Try.func13, Try.ntmps13
    go_wp2_with fail
    go_ret2
    exact ⟨rfl, rfl⟩
  · have h2 : 4 < n := by omega
    clear hn
    go_enter Try.func13, Try.ntmps13
    go_wp2_with fail
    go_ret2
    exact ⟨rfl, rfl⟩

theorem bel_drewN {B : Nat} {w0 w : World} (h : Below B w0 w) (n : Nat) : Below B w0 (w.drewN n) := ⟨h.os, h.tape, h.output, h.size, h.block⟩
theorem limit_b (kI : Int) (k : Nat) (hk : kI = k) (g h : Nat) (l : List Gc) (w : World) (x : GvAt w g h l) (c : Gc) (hc : l[k]? = some c) (ok : c.Ok) :
    Calls Try.prog 15 #[.pointer (some ⟨g, 0, none⟩), .int .i64 kI] w fun e w' => e = .returned (.int .i64 (c.lim : Int)) ∧ Below w.heap.size w w' :=
  (limit_any kI k hk g h l w x c hc ok).mono fun _ _ ⟨he, n, hn⟩ => ⟨he, by rw [hn]; exact drewN_below w n⟩
theorem held_b (kI : Int) (k : Nat) (hk : kI = k) (g h : Nat) (l : List Gc) (w : World) (x : GvAt w g h l) (c : Gc) (hc : l[k]? = some c) (ok : c.Ok) :
    Calls Try.prog 16 #[.pointer (some ⟨g, 0, none⟩), .int .i64 kI] w fun e w' => e = .returned (.int .i64 ((c.v : Int) - (c.f : Int))) ∧ Below w.heap.size w w' :=
  (held_any kI k hk g h l w x c hc ok).mono fun _ _ ⟨he, n, hn⟩ => ⟨he, by rw [hn]; exact drewN_below w n⟩
theorem sent_b (kI : Int) (k : Nat) (hk : kI = k) (g h : Nat) (l : List Tc) (w : World) (x : TkAt w g h l) (c : Tc) (hc : l[k]? = some c) (ok : c.Ok) :
    Calls Try.prog 17 #[.pointer (some ⟨g, 0, none⟩), .int .i64 kI] w fun e w' => e = .returned (.int .i64 (c.s : Int)) ∧ Below w.heap.size w w' :=
  (sent_any kI k hk g h l w x c hc ok).mono fun _ _ ⟨he, n, hn⟩ => ⟨he, by rw [hn]; exact drewN_below w n⟩
theorem left_b (kI : Int) (k : Nat) (hk : kI = k) (g h : Nat) (l : List Tc) (w : World) (x : TkAt w g h l) (c : Tc) (hc : l[k]? = some c) (ok : c.Ok) :
    Calls Try.prog 18 #[.pointer (some ⟨g, 0, none⟩), .int .i64 kI] w fun e w' => e = .returned (.int .i64 ((c.l : Int) - (c.s : Int))) ∧ Below w.heap.size w w' :=
  (left_any kI k hk g h l w x c hc ok).mono fun _ _ ⟨he, n, hn⟩ => ⟨he, by rw [hn]; exact drewN_below w n⟩
/-- A list of one room, laid down by a literal. -/
theorem newg_lit (z : Int) (hz : 1 ≤ z ∧ z ≤ 64) (w : World) :
    Calls Try.prog 12 #[.slice (some ⟨w.heap.size, 0, none⟩) 1 1] (w.alloc (.cells #[.int .i64 z] 3)) fun e w' => ∃ g h, e = .returned (.tuple #[.pointer (some ⟨g, 0, none⟩), .int .i64 0]) ∧ GvAt w' g h [gc0 z] ∧ w.heap.size ≤ g ∧ w.heap.size ≤ h ∧ Below w.heap.size w w' := by
  have kA : Below w.heap.size w (w.alloc (.cells #[.int .i64 z] 3)) := (Below.refl _ _).alloc (Nat.le_refl _) _
  refine (newg_any (some ⟨w.heap.size, 0, none⟩) 1 1 [z] rfl _ (.inr ⟨_, 0, rfl, fun j hj => ?_⟩) (by omega)).mono ?_
  · obtain rfl : j = 0 := by simpa using hj
    exact box_new _ _ _
  · rintro e w' (⟨-, g, h, rfl, x, hg, hh, b⟩ | ⟨hb, -⟩)
    · exact ⟨g, h, rfl, x, Nat.le_trans kA.size hg, Nat.le_trans kA.size hh, kA.trans (b.mono kA.size)⟩
    · rw [okRooms_iff.2 ⟨by simp, by simp, fun y hy => by simp at hy; subst hy; exact hz⟩] at hb
      cases hb

set_option maxRecDepth 100000 in
set_option maxHeartbeats 4000000 in
theorem awake_any (w : World) :
    Calls Try.prog 11 #[] w fun e w' => e = .returned (.bool true) ∧ Below w.heap.size w w' := by
  have NG := box (newg_lit 2 (by decide) w)
  have ok0 : (⟨2, 0, 0⟩ : Gc).Ok := gc0_ok (z := 2) (by decide)
  have ok1 : (⟨2, 1, 0⟩ : Gc).Ok := ok0.recv
  have ok2 : (⟨2, 2, 0⟩ : Gc).Ok := ok1.recv
  have ok3 : (⟨2, 2, 1⟩ : Gc).Ok := ok2.free
  have OK := box (And.intro ok0 (And.intro ok1 (And.intro ok2 ok3)))
  clear ok0 ok1 ok2 ok3
  go_enter Try.func11, Try.ntmps11
  go_wp2_with fail
  refine NG.out.mono ?_
  rintro e w1 ⟨g, h, rfl, x1, hg, hh, b1⟩
  have HH := box hh
  have X1 := box x1
  have B1 := box b1
  clear NG x1 hg hh b1
  have C1 := limit_b 0 0 rfl g h [⟨2, 0, 0⟩] w1 X1.out ⟨2, 0, 0⟩ rfl OK.out.1
  rw [show ((Gc.lim ⟨2, 0, 0⟩ : Nat) : Int) = 2 from rfl] at C1
  go_wp2_with fail
  refine C1.mono ?_
  rintro e w2 ⟨rfl, b⟩
  have X2 := box (X1.out.keep b)
  have B2 := box (B1.out.trans (b.mono B1.out.size))
  clear C1 b X1 B1
  have C2 := receive_any 0 0 rfl g h [⟨2, 0, 0⟩] w2 X2.out ⟨2, 0, 0⟩ rfl OK.out.1
  rw [show Gc.recvE ⟨2, 0, 0⟩ = 0 from rfl] at C2
  go_wp2_with fail
  refine C2.mono ?_
  rintro e w3 ⟨rfl, x, a⟩
  have X3 := box (show GvAt w3 g h [⟨2, 1, 0⟩] from x)
  have B3 := box (a.below B2.out B2.out.size HH.out (fun k hk => by cases hk))
  clear C2 x a X2 B2
  have C3 := receive_any 0 0 rfl g h [⟨2, 1, 0⟩] w3 X3.out ⟨2, 1, 0⟩ rfl OK.out.2.1
  rw [show Gc.recvE ⟨2, 1, 0⟩ = 0 from rfl] at C3
  go_wp2_with fail
  refine C3.mono ?_
  rintro e w4 ⟨rfl, x, a⟩
  have X4 := box (show GvAt w4 g h [⟨2, 2, 0⟩] from x)
  have B4 := box (a.below B3.out B3.out.size HH.out (fun k hk => by cases hk))
  clear C3 x a X3 B3
  have C4 := held_b 0 0 rfl g h [⟨2, 2, 0⟩] w4 X4.out ⟨2, 2, 0⟩ rfl OK.out.2.2.1
  rw [show (((⟨2, 2, 0⟩ : Gc).v : Int) - ((⟨2, 2, 0⟩ : Gc).f : Int)) = 2 from rfl] at C4
  go_wp2_with fail
  refine C4.mono ?_
  rintro e w5 ⟨rfl, b⟩
  have X5 := box (X4.out.keep b)
  have B5 := box (B4.out.trans (b.mono B4.out.size))
  clear C4 b X4 B4
  have C5 := limit_b 0 0 rfl g h [⟨2, 2, 0⟩] w5 X5.out ⟨2, 2, 0⟩ rfl OK.out.2.2.1
  rw [show ((Gc.lim ⟨2, 2, 0⟩ : Nat) : Int) = 2 from rfl] at C5
  go_wp2_with fail
  refine C5.mono ?_
  rintro e w6 ⟨rfl, b⟩
  have X6 := box (X5.out.keep b)
  have B6 := box (B5.out.trans (b.mono B5.out.size))
  clear C5 b X5 B5
  have C6 := free_any 0 0 rfl g h [⟨2, 2, 0⟩] w6 X6.out ⟨2, 2, 0⟩ rfl OK.out.2.2.1
  rw [show Gc.freeE ⟨2, 2, 0⟩ = 0 from rfl] at C6
  go_wp2_with fail
  refine C6.mono ?_
  rintro e w7 ⟨rfl, x, a⟩
  have X7 := box (show GvAt w7 g h [⟨2, 2, 1⟩] from x)
  have B7 := box (a.below B6.out B6.out.size HH.out (fun k hk => by cases hk))
  clear C6 x a X6 B6
  have C7 := limit_b 0 0 rfl g h [⟨2, 2, 1⟩] w7 X7.out ⟨2, 2, 1⟩ rfl OK.out.2.2.2
  rw [show ((Gc.lim ⟨2, 2, 1⟩ : Nat) : Int) = 3 from rfl] at C7
  go_wp2_with fail
  refine C7.mono ?_
  rintro e w8 ⟨rfl, b⟩
  have X8 := box (X7.out.keep b)
  have B8 := box (B7.out.trans (b.mono B7.out.size))
  clear C7 b X7 B7
  clear X8
  go_wp2_with fail
  go_ret
  exact ⟨rfl, B8.out⟩
end Go.Proofs.Ytoolphpideicoaa
