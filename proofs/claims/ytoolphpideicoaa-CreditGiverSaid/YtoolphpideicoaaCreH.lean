/- CreditAudits: its walk. -/
import Derived.Test.YtoolphpideicoaaCreG
namespace Go.Proofs.Ytoolphpideicoaa
open Go.RowKit

theorem lim_small {c : Gc} (h : c.r + c.f ≤ 1000000) : c.lim = c.r + c.f := by unfold Gc.lim LIM; omega
theorem aud_eq (c : Gc) (s : Int) (q : Nat) (hs : s = (c.v : Int) + q) (h : c.v + q ≤ c.lim) : c.audN s = q ∧ c.audE s = 0 ∧ c.audC s = ⟨c.r, c.v + q, c.f + q⟩ := by
  have hn : ¬ (s < c.v ∨ (c.lim : Int) < s) := by omega
  refine ⟨?_, if_neg hn, ?_⟩
  · unfold Gc.audN; rw [if_neg hn]; omega
  · unfold Gc.audC; rw [if_neg hn]
    have e1 : s.toNat = c.v + q := by omega
    rw [e1]; congr 1; omega
theorem aud_no (c : Gc) (s : Int) (h : s < c.v ∨ (c.lim : Int) < s) : c.audN s = 0 ∧ c.audE s = 2 ∧ c.audC s = c := ⟨if_pos h, if_pos h, if_pos h⟩
theorem recv_ok (c : Gc) (h : c.v < c.lim) : c.recvE = 0 ∧ c.recvC = ⟨c.r, c.v + 1, c.f⟩ := by
  unfold Gc.recvE Gc.recvC
  rw [if_neg (by omega), if_neg (by omega)]; exact ⟨rfl, rfl⟩
theorem free_ok (c : Gc) (h : c.v ≠ c.f) : c.freeE = 0 ∧ c.freeC = ⟨c.r, c.v, c.f + 1⟩ := by
  unfold Gc.freeE Gc.freeC
  rw [if_neg h, if_neg h]; exact ⟨rfl, rfl⟩

/-- One giver of one class. -/
structure G1 (B : Nat) (w0 w : World) (g h : Nat) (c : Gc) : Prop where
  x : GvAt w g h [c]
  bel : Below B w0 w
  sz : B ≤ w.heap.size
  bg : B ≤ g
  bh : B ≤ h
theorem G1.keep {B : Nat} {w0 w w' : World} {g h : Nat} {c : Gc} (x : G1 B w0 w g h c) (b : Below w.heap.size w w') : G1 B w0 w' g h c :=
  ⟨x.x.keep b, x.bel.trans (b.mono x.sz), Nat.le_trans x.sz b.size, x.bg, x.bh⟩
theorem G1.step {B : Nat} {w0 w w' : World} {g h : Nat} {c c' : Gc} (x : G1 B w0 w g h c) (x' : GvAt w' g h ([c].set 0 c')) (a : Apart h none w w') : G1 B w0 w' g h c' :=
  ⟨x', a.below x.bel x.sz x.bh (fun k hk => by cases hk), Nat.le_trans x.sz a.size, x.bg, x.bh⟩

set_option maxRecDepth 100000 in
set_option maxHeartbeats 8000000 in
theorem audits_any (y0 y1 y2 y3 : Nat) (h0 : y0 < 256) (h1 : y1 < 256) (h2 : y2 < 256) (h3 : y3 < 256) (odd : Int) (w : World) :
    Calls Try.prog 9 #[nU8 y0, nU8 y1, nU8 y2, nU8 y3, .int .i64 odd] w fun e w' => e = .returned (.bool true) ∧ Below w.heap.size w w' := by
  obtain ⟨n, hn⟩ : ∃ n, 1 + y0 % 8 = n := ⟨_, rfl⟩
  have hn2 : 1 + (y0 : Int) % 8 = (n : Int) := by omega
  have hn3 : 1 ≤ n ∧ n ≤ 8 := by omega
  obtain ⟨r, hr⟩ : ∃ r, y1 % (n + 1) = r := ⟨_, rfl⟩
  have hr2 : (y1 : Int) % ((n : Int) + 1) = (r : Int) := by rw [← hr]; norm_cast
  have hr3 : r ≤ n := by rw [← hr]; have := Nat.mod_lt y1 (show 0 < n + 1 by omega); omega
  obtain ⟨f, hf⟩ : ∃ f, y2 % (r + 1) = f := ⟨_, rfl⟩
  have hf2 : (y2 : Int) % ((r : Int) + 1) = (f : Int) := by rw [← hf]; norm_cast
  have hf3 : f ≤ r := by rw [← hf]; have := Nat.mod_lt y2 (show 0 < r + 1 by omega); omega
  obtain ⟨k, hk⟩ : ∃ k, y3 % (n + f - r + 1) = k := ⟨_, rfl⟩
  have hk2 : (y3 : Int) % ((n : Int) + (f : Int) - (r : Int) + 1) = (k : Int) := by rw [← hk, show (n : Int) + (f : Int) - (r : Int) + 1 = ((n + f - r + 1 : Nat) : Int) by omega]; norm_cast
  have hk3 : k ≤ n + f - r := by rw [← hk]; have := Nat.mod_lt y3 (show 0 < n + f - r + 1 by omega); omega
  clear hn hr hf hk
  have AW := box (awake_any w)
  go_enter Try.func9, Try.ntmps9
  go_wp2_with fail
  refine AW.out.mono ?_
  rintro e w1 ⟨rfl, b1⟩
  have B1 := box b1
  have NG := box (newg_lit (n : Int) (by omega) w1)
  clear AW b1
  go_wp2_with fail
  refine NG.out.mono ?_
  rintro e w2 ⟨g, h, rfl, x2, hg, hh, b2⟩
  have G0 := box (show G1 w.heap.size w w2 g h ⟨n, 0, 0⟩ from ⟨x2, B1.out.trans (b2.mono B1.out.size), Nat.le_trans B1.out.size b2.size, Nat.le_trans B1.out.size hg, Nat.le_trans B1.out.size hh⟩)
  have OK0 := box (show (⟨n, 0, 0⟩ : Gc).Ok from ⟨by show 1 ≤ n; omega, by show n ≤ 64; omega, Nat.le_refl _, Nat.zero_le _, Nat.zero_le _⟩)
  clear NG x2 hg hh b2 B1
  go_wp2_with fail
  simp only [hr2, hf2]
  go_loopw [52] (fun t52 wr => ∃ j : Nat, j ≤ r ∧ t52 = .int .i64 j ∧ Box (G1 w.heap.size w wr g h ⟨n, j, 0⟩) ∧ Box (⟨n, j, 0⟩ : Gc).Ok) (fun t52 _ => r - (intOf t52).toNat)
  case atStart => exact ⟨0, by omega, rfl, G0, OK0⟩
  case round =>
    clear G0 OK0
    obtain ⟨j, hj, rfl, hG, hO⟩ := hrel
    by_cases hjr : j < r
    · have C := box (receive_any 0 0 rfl g h [⟨n, j, 0⟩] _ hG.out.x ⟨n, j, 0⟩ rfl hO.out)
      have E := box (recv_ok ⟨n, j, 0⟩ (by rw [lim_small (by show n + 0 ≤ 1000000; omega)]; show j < n + 0; omega))
      have NO := box (show (⟨n, j + 1, 0⟩ : Gc).Ok from by have h := hO.out.recv; rw [E.out.2] at h; exact h)
      rw [E.out.1, E.out.2] at C
      go_wp2_with fail
      refine C.out.mono ?_
      rintro e w3 ⟨rfl, x, a⟩
      have NG := box (show G1 w.heap.size w w3 g h ⟨n, j + 1, 0⟩ from hG.out.step x a)
      clear x a C E hG hO
      go_wp2_with fail
      go_roundw
      case rel => exact ⟨j + 1, by omega, by go_num, NG, NO⟩
      case measure => simp [intOf]; omega
    · obtain rfl : j = r := by omega
      go_wp2_with fail
      go_loopw [58] (fun t58 wr => ∃ i : Nat, i ≤ f ∧ t58 = .int .i64 i ∧ Box (G1 w.heap.size w wr g h ⟨n, j, i⟩) ∧ Box (⟨n, j, i⟩ : Gc).Ok) (fun t58 _ => f - (intOf t58).toNat)
      case atStart => exact ⟨0, by omega, rfl, hG, hO⟩
      case round =>
        clear hG hO
        obtain ⟨i, hi, rfl, hG, hO⟩ := hrel
        by_cases hif : i < f
        · have C := box (free_any 0 0 rfl g h [⟨n, j, i⟩] _ hG.out.x ⟨n, j, i⟩ rfl hO.out)
          have E := box (free_ok ⟨n, j, i⟩ (by show j ≠ i; omega))
          have NO := box (show (⟨n, j, i + 1⟩ : Gc).Ok from by have h := hO.out.free; rw [E.out.2] at h; exact h)
          rw [E.out.1, E.out.2] at C
          go_wp2_with fail
          refine C.out.mono ?_
          rintro e w3 ⟨rfl, x, a⟩
          have NG := box (show G1 w.heap.size w w3 g h ⟨n, j, i + 1⟩ from hG.out.step x a)
          clear x a C E hG hO
          go_wp2_with fail
          go_roundw
          case rel => exact ⟨i + 1, by omega, by go_num, NG, NO⟩
          case measure => simp [intOf]; omega
        · obtain rfl : i = f := by omega
          have LM := box (show (⟨n, j, i⟩ : Gc).lim = n + i from lim_small (by show n + i ≤ 1000000; omega))
          by_cases o1 : odd < (j : Int)
          · have CX := audit_any odd 0 0 rfl g h [⟨n, j, i⟩] _ hG.out.x ⟨n, j, i⟩ rfl hO.out
            have E := aud_no ⟨n, j, i⟩ odd (.inl o1)
            rw [E.1, E.2.1, E.2.2] at CX
            clear E
            go_wp2_with fail
            refine CX.mono ?_
            rintro e w3 ⟨rfl, x, a⟩
            replace hG := box (show G1 w.heap.size w w3 g h ⟨n, j, i⟩ from hG.out.step x a)
            clear x a CX
            have CA := audit_any ((j : Int) + (k : Int)) 0 0 rfl g h [⟨n, j, i⟩] _ hG.out.x ⟨n, j, i⟩ rfl hO.out
            have EA := aud_eq ⟨n, j, i⟩ ((j : Int) + (k : Int)) k rfl (by rw [LM.out]; show j + k ≤ n + i; omega)
            rw [EA.1, EA.2.1, EA.2.2] at CA
            have OK2 := box (show (⟨n, j + k, i + k⟩ : Gc).Ok from by have h := hO.out.aud ((j : Int) + (k : Int)); rw [EA.2.2] at h; exact h)
            clear EA
            go_wp2_with fail
            refine CA.mono ?_
            rintro e w4 ⟨rfl, x, a⟩
            have G4 := box (show G1 w.heap.size w w4 g h ⟨n, j + k, i + k⟩ from hG.out.step x a)
            clear x a CA hG hO
            have CB := audit_any ((j : Int) + (k : Int)) 0 0 rfl g h [⟨n, j + k, i + k⟩] _ G4.out.x ⟨n, j + k, i + k⟩ rfl OK2.out
            have EB := aud_eq ⟨n, j + k, i + k⟩ ((j : Int) + (k : Int)) 0 (by show (j : Int) + (k : Int) = ((j + k : Nat) : Int) + ((0 : Nat) : Int); omega) (by rw [lim_small (by show n + (i + k) ≤ 1000000; omega)]; show j + k + 0 ≤ n + (i + k); omega)
            rw [EB.1, EB.2.1, EB.2.2] at CB
            clear EB
            go_wp2_with fail
            refine CB.mono ?_
            rintro e w5 ⟨rfl, x, a⟩
            have G5 := box (show G1 w.heap.size w w5 g h ⟨n, j + k, i + k⟩ from G4.out.step x a)
            clear x a CB G4
            have CH := held_b 0 0 rfl g h [⟨n, j + k, i + k⟩] _ G5.out.x ⟨n, j + k, i + k⟩ rfl OK2.out
            rw [show (((⟨n, j + k, i + k⟩ : Gc).v : Int) - ((⟨n, j + k, i + k⟩ : Gc).f : Int)) = (j : Int) - (i : Int) by show ((j + k : Nat) : Int) - ((i + k : Nat) : Int) = _; omega] at CH
            go_wp2_with fail
            refine CH.mono ?_
            rintro e w6 ⟨rfl, b⟩
            have G6 := box (G5.out.keep b)
            clear b CH G5
            have CL := limit_b 0 0 rfl g h [⟨n, j + k, i + k⟩] _ G6.out.x ⟨n, j + k, i + k⟩ rfl OK2.out
            rw [show (((⟨n, j + k, i + k⟩ : Gc).lim : Nat) : Int) = (n : Int) + (i : Int) + (k : Int) by rw [lim_small (by show n + (i + k) ≤ 1000000; omega)]; show ((n + (i + k) : Nat) : Int) = _; omega] at CL
            go_wp2_with fail
            refine CL.mono ?_
            rintro e w7 ⟨rfl, b⟩
            have FB := box (G6.out.keep b).bel
            clear b CL G6 OK2 LM
            go_wp2_with fail
            go_ret
            exact ⟨rfl, FB.out⟩
          by_cases o2 : ((n : Int) + (i : Int)) < odd
          · have CX := audit_any odd 0 0 rfl g h [⟨n, j, i⟩] _ hG.out.x ⟨n, j, i⟩ rfl hO.out
            have E := aud_no ⟨n, j, i⟩ odd (.inr (by rw [LM.out]; omega))
            rw [E.1, E.2.1, E.2.2] at CX
            clear E
            go_wp2_with fail
            refine CX.mono ?_
            rintro e w3 ⟨rfl, x, a⟩
            replace hG := box (show G1 w.heap.size w w3 g h ⟨n, j, i⟩ from hG.out.step x a)
            clear x a CX
            have CA := audit_any ((j : Int) + (k : Int)) 0 0 rfl g h [⟨n, j, i⟩] _ hG.out.x ⟨n, j, i⟩ rfl hO.out
            have EA := aud_eq ⟨n, j, i⟩ ((j : Int) + (k : Int)) k rfl (by rw [LM.out]; show j + k ≤ n + i; omega)
            rw [EA.1, EA.2.1, EA.2.2] at CA
            have OK2 := box (show (⟨n, j + k, i + k⟩ : Gc).Ok from by have h := hO.out.aud ((j : Int) + (k : Int)); rw [EA.2.2] at h; exact h)
            clear EA
            go_wp2_with fail
            refine CA.mono ?_
            rintro e w4 ⟨rfl, x, a⟩
            have G4 := box (show G1 w.heap.size w w4 g h ⟨n, j + k, i + k⟩ from hG.out.step x a)
            clear x a CA hG hO
            have CB := audit_any ((j : Int) + (k : Int)) 0 0 rfl g h [⟨n, j + k, i + k⟩] _ G4.out.x ⟨n, j + k, i + k⟩ rfl OK2.out
            have EB := aud_eq ⟨n, j + k, i + k⟩ ((j : Int) + (k : Int)) 0 (by show (j : Int) + (k : Int) = ((j + k : Nat) : Int) + ((0 : Nat) : Int); omega) (by rw [lim_small (by show n + (i + k) ≤ 1000000; omega)]; show j + k + 0 ≤ n + (i + k); omega)
            rw [EB.1, EB.2.1, EB.2.2] at CB
            clear EB
            go_wp2_with fail
            refine CB.mono ?_
            rintro e w5 ⟨rfl, x, a⟩
            have G5 := box (show G1 w.heap.size w w5 g h ⟨n, j + k, i + k⟩ from G4.out.step x a)
            clear x a CB G4
            have CH := held_b 0 0 rfl g h [⟨n, j + k, i + k⟩] _ G5.out.x ⟨n, j + k, i + k⟩ rfl OK2.out
            rw [show (((⟨n, j + k, i + k⟩ : Gc).v : Int) - ((⟨n, j + k, i + k⟩ : Gc).f : Int)) = (j : Int) - (i : Int) by show ((j + k : Nat) : Int) - ((i + k : Nat) : Int) = _; omega] at CH
            go_wp2_with fail
            refine CH.mono ?_
            rintro e w6 ⟨rfl, b⟩
            have G6 := box (G5.out.keep b)
            clear b CH G5
            have CL := limit_b 0 0 rfl g h [⟨n, j + k, i + k⟩] _ G6.out.x ⟨n, j + k, i + k⟩ rfl OK2.out
            rw [show (((⟨n, j + k, i + k⟩ : Gc).lim : Nat) : Int) = (n : Int) + (i : Int) + (k : Int) by rw [lim_small (by show n + (i + k) ≤ 1000000; omega)]; show ((n + (i + k) : Nat) : Int) = _; omega] at CL
            go_wp2_with fail
            refine CL.mono ?_
            rintro e w7 ⟨rfl, b⟩
            have FB := box (G6.out.keep b).bel
            clear b CL G6 OK2 LM
            go_wp2_with fail
            go_ret
            exact ⟨rfl, FB.out⟩
          have CA := audit_any ((j : Int) + (k : Int)) 0 0 rfl g h [⟨n, j, i⟩] _ hG.out.x ⟨n, j, i⟩ rfl hO.out
          have EA := aud_eq ⟨n, j, i⟩ ((j : Int) + (k : Int)) k rfl (by rw [LM.out]; show j + k ≤ n + i; omega)
          rw [EA.1, EA.2.1, EA.2.2] at CA
          have OK2 := box (show (⟨n, j + k, i + k⟩ : Gc).Ok from by have h := hO.out.aud ((j : Int) + (k : Int)); rw [EA.2.2] at h; exact h)
          clear EA
          go_wp2_with fail
          refine CA.mono ?_
          rintro e w4 ⟨rfl, x, a⟩
          have G4 := box (show G1 w.heap.size w w4 g h ⟨n, j + k, i + k⟩ from hG.out.step x a)
          clear x a CA hG hO
          have CB := audit_any ((j : Int) + (k : Int)) 0 0 rfl g h [⟨n, j + k, i + k⟩] _ G4.out.x ⟨n, j + k, i + k⟩ rfl OK2.out
          have EB := aud_eq ⟨n, j + k, i + k⟩ ((j : Int) + (k : Int)) 0 (by show (j : Int) + (k : Int) = ((j + k : Nat) : Int) + ((0 : Nat) : Int); omega) (by rw [lim_small (by show n + (i + k) ≤ 1000000; omega)]; show j + k + 0 ≤ n + (i + k); omega)
          rw [EB.1, EB.2.1, EB.2.2] at CB
          clear EB
          go_wp2_with fail
          refine CB.mono ?_
          rintro e w5 ⟨rfl, x, a⟩
          have G5 := box (show G1 w.heap.size w w5 g h ⟨n, j + k, i + k⟩ from G4.out.step x a)
          clear x a CB G4
          have CH := held_b 0 0 rfl g h [⟨n, j + k, i + k⟩] _ G5.out.x ⟨n, j + k, i + k⟩ rfl OK2.out
          rw [show (((⟨n, j + k, i + k⟩ : Gc).v : Int) - ((⟨n, j + k, i + k⟩ : Gc).f : Int)) = (j : Int) - (i : Int) by show ((j + k : Nat) : Int) - ((i + k : Nat) : Int) = _; omega] at CH
          go_wp2_with fail
          refine CH.mono ?_
          rintro e w6 ⟨rfl, b⟩
          have G6 := box (G5.out.keep b)
          clear b CH G5
          have CL := limit_b 0 0 rfl g h [⟨n, j + k, i + k⟩] _ G6.out.x ⟨n, j + k, i + k⟩ rfl OK2.out
          rw [show (((⟨n, j + k, i + k⟩ : Gc).lim : Nat) : Int) = (n : Int) + (i : Int) + (k : Int) by rw [lim_small (by show n + (i + k) ≤ 1000000; omega)]; show ((n + (i + k) : Nat) : Int) = _; omega] at CL
          go_wp2_with fail
          refine CL.mono ?_
          rintro e w7 ⟨rfl, b⟩
          have FB := box (G6.out.keep b).bel
          clear b CL G6 OK2 LM
          go_wp2_with fail
          go_ret
          exact ⟨rfl, FB.out⟩
end Go.Proofs.Ytoolphpideicoaa
