/- FrameDecodes: its walk. -/
import Derived.Test.YthfoakomapmkeaaDoorMrCf
import Derived.Test.YthfoakomapmkeaaDoorMrD
import Derived.Test.YthfoakomapmkeaaDoorMrC
namespace Go.Proofs.YthfoakomapmkeaaDoor
open Go.RowKit

theorem rdec_err (a : Option Addr) (n c : Nat) (xs : List Nat) (hn : xs.length = n) (hx : ∀ x ∈ xs, x < 256) (hcap : n ≤ c) (r : Nat) (hr : decE xs = r) (hr0 : r ≠ 0) (w : World) (hc : In w a xs) :
    Calls Tryd.prog 23 #[.slice a n c] w fun e w' => e = .returned (.tuple #[pk0, .int .i64 (r : Nat)]) ∧ Below w.heap.size w w' := by
  refine (rdec_any a n c xs hn hx hcap w hc).mono ?_
  rintro e w' ⟨hb, h | h⟩
  · exact ⟨by rw [h.2, hr], hb⟩
  · exact absurd (hr.symm.trans h.1) hr0
theorem rdec_ok (a : Option Addr) (n c : Nat) (xs : List Nat) (hn : xs.length = n) (hx : ∀ x ∈ xs, x < 256) (hcap : n ≤ c) (hr : decE xs = 0) (w : World) (hc : In w a xs) :
    Calls Tryd.prog 23 #[.slice a n c] w fun e w' => ∃ (a' : Option Addr) (c' : Nat), e = .returned (.tuple #[pkV (xs.getD 0 0) (xs.getD 1 0 : Nat) (numAt xs 2 : Nat) (numAt xs 7 : Nat) a' (n - 17) c', .int .i64 0]) ∧ Box (In w' a' ((xs.drop 13).take (n - 17))) ∧ Below w.heap.size w w' := by
  refine (rdec_any a n c xs hn hx hcap w hc).mono ?_
  rintro e w' ⟨hb, h | ⟨_, a', c', h1, h2, h3, h4, h5⟩⟩
  · exact absurd hr h.1
  · rw [hn] at h1 h2
    exact ⟨a', c', h1, box h2, hb⟩

set_option maxRecDepth 100000 in
set_option maxHeartbeats 8000000 in
theorem decodes_walk (a : Option Addr) (n cap : Nat) (xs : List Nat) (hn : xs.length = n) (hx : ∀ x ∈ xs, x < 256) (hcap : n ≤ cap) (w : World) (hin : In w a xs) (hT : Crc.HasTab w) (hT2 : HasTab w) :
    Calls Tryd.prog 4 #[.slice a n cap] w fun e w' => e = .returned (.bool true) ∧ Below w.heap.size w w' := by
  have HI := box hin
  have HT := box hT
  have HT2 := box hT2
  have HX := box hx
  clear hin hT hT2 hx
  go_enter Tryd.func4, Tryd.ntmps4
  go_wp2_with fail
  have k := Below.refl w.heap.size w
  refine (awake_any _ (HT.out.below k) (HT2.out.below k)).mono ?_
  rintro e w1 ⟨rfl, hb⟩
  replace k := k.trans (hb.mono k.size)
  clear hb
  by_cases hb1 : 300 < n
  · have d1 : decide ((300 : Int) < (n : Int)) = true := decide_eq_true (by omega)
    go_wp2_with fail
    go_ret
    exact ⟨rfl, k⟩
  have d1 : decide ((300 : Int) < (n : Int)) = false := decide_eq_false (by omega)
  obtain ⟨r, hr⟩ : ∃ r, decE xs = r := ⟨_, rfl⟩
  by_cases h0 : r = 0
  · subst h0
    go_wp2_with fail
    refine (fdec_ok a n cap xs hn HX.out (by omega) hcap hr _ (HI.out.below k) (HT.out.below k)).mono ?_
    rintro e w2 ⟨a1, c1, rfl, H1, _, _, _, hb⟩
    replace k := k.trans (hb.mono k.size)
    clear hb
    have hpl : ((xs.drop 13).take (n - 17)).length = n - 17 := by
      have := (bytes_dec HX.out hr).2.1
      simp; omega
    have RD := fun w' (hi : In w' a xs) => box (rdec_ok a n cap xs hn HX.out hcap hr w' hi)
    generalize xs.getD 0 0 = p0 at RD ⊢
    generalize xs.getD 1 0 = p1 at RD ⊢
    generalize numAt xs 2 = p2 at RD ⊢
    generalize numAt xs 7 = p3 at RD ⊢
    generalize (xs.drop 13).take (n - 17) = py at H1 hpl RD
    generalize n - 17 = t at hpl RD ⊢
    go_wp2_with fail
    have P := box (pk5_new w2 p0 (p1 : Nat) (p2 : Nat) (p3 : Nat) a1 t c1 w2.heap.size rfl)
    have kA := (Below.refl w2.heap.size w2).alloc (Nat.le_refl _) (.cells (pkC p0 (p1 : Nat) (p2 : Nat) (p3 : Nat) a1 t c1) 24)
    change Calls _ _ _ (w2.alloc (.cells (pkC p0 (p1 : Nat) (p2 : Nat) (p3 : Nat) a1 t c1) 24)) _
    generalize w2.alloc (.cells (pkC p0 (p1 : Nat) (p2 : Nat) (p3 : Nat) a1 t c1) 24) = wA at P kA ⊢
    have hb := kA
    replace k := k.trans (hb.mono k.size)
    replace H1 := box (H1.out.below hb)
    clear hb
    clear kA
    refine ((RD _ (HI.out.below k)).out).mono ?_
    rintro e w3 ⟨a2, c2, rfl, H2, hb⟩
    replace k := k.trans (hb.mono k.size)
    replace H1 := box (H1.out.below hb)
    replace P := box (P.out.keep hb)
    clear hb
    have Q := box (pk5_new w3 p0 (p1 : Nat) (p2 : Nat) (p3 : Nat) a2 t c2 w3.heap.size rfl)
    have kB := (Below.refl w3.heap.size w3).alloc (Nat.le_refl _) (.cells (pkC p0 (p1 : Nat) (p2 : Nat) (p3 : Nat) a2 t c2) 24)
    obtain ⟨Pq0, Pq1, Pq2, Pq3, Pq4, Pz⟩ := P.out.keep kB
    go_wp2_with fail
    clear Pq0 Pq1 Pq2 Pq3 Pq4 Pz
    change Calls _ _ _ (w3.alloc (.cells (pkC p0 (p1 : Nat) (p2 : Nat) (p3 : Nat) a2 t c2) 24)) _
    generalize w3.alloc (.cells (pkC p0 (p1 : Nat) (p2 : Nat) (p3 : Nat) a2 t c2) 24) = wB at Q kB ⊢
    have hb := kB
    replace k := k.trans (hb.mono k.size)
    replace H1 := box (H1.out.below hb)
    replace P := box (P.out.keep hb)
    replace H2 := box (H2.out.below hb)
    clear hb
    clear kB
    refine (psame_any p0 (p1 : Nat) (p2 : Nat) (p3 : Nat) a1 a2 t c1 c2 py hpl _ H1.out H2.out).mono ?_
    rintro e w4 ⟨rfl, hb⟩
    replace k := k.trans (hb.mono k.size)
    replace H1 := box (H1.out.below hb)
    replace P := box (P.out.keep hb)
    replace H2 := box (H2.out.below hb)
    clear hb
    go_wp2_with fail
    go_ret
    exact ⟨by simp, k⟩
  · have e1 : ((r : Int) == (r : Int)) = true := by simp
    go_wp2_with fail
    refine (fdec_err a n cap xs hn HX.out (by omega) hcap r hr h0 _ (HI.out.below k) (HT.out.below k)).mono ?_
    rintro e w2 ⟨rfl, hb⟩
    replace k := k.trans (hb.mono k.size)
    clear hb
    go_wp2_with fail
    have P : Box (Pk5 (w2.alloc (.cells #[.int .u8 0, .int .i64 0, .int .i64 0, .int .i64 0, .slice none 0 0] 24)) w2.heap.size (nU8 0) (.int .i64 0) (.int .i64 0) (.int .i64 0) (.slice none 0 0)) := box (pk5_newz w2 w2.heap.size rfl)
    have kA := (Below.refl w2.heap.size w2).alloc (Nat.le_refl _) (.cells #[.int .u8 0, .int .i64 0, .int .i64 0, .int .i64 0, .slice none 0 0] 24)
    change Calls _ _ _ (w2.alloc (.cells #[.int .u8 0, .int .i64 0, .int .i64 0, .int .i64 0, .slice none 0 0] 24)) _
    generalize w2.alloc (.cells #[.int .u8 0, .int .i64 0, .int .i64 0, .int .i64 0, .slice none 0 0] 24) = wA at P kA ⊢
    have hb := kA
    replace k := k.trans (hb.mono k.size)
    clear hb
    clear kA
    refine (rdec_err a n cap xs hn HX.out hcap r hr h0 _ (HI.out.below k)).mono ?_
    rintro e w3 ⟨rfl, hb⟩
    replace k := k.trans (hb.mono k.size)
    replace P := box (P.out.keep hb)
    clear hb
    have kB := (Below.refl w3.heap.size w3).alloc (Nat.le_refl _) (.cells #[.int .u8 0, .int .i64 0, .int .i64 0, .int .i64 0, .slice none 0 0] 24)
    obtain ⟨Pq0, Pq1, Pq2, Pq3, Pq4, Pz⟩ := P.out.keep kB
    go_wp2_with fail
    clear Pq0 Pq1 Pq2 Pq3 Pq4 Pz
    change Calls _ _ #[pkV 0 0 0 0 none 0 0, pkV 0 0 0 0 none 0 0] (w3.alloc (.cells #[.int .u8 0, .int .i64 0, .int .i64 0, .int .i64 0, .slice none 0 0] 24)) _
    generalize w3.alloc (.cells #[.int .u8 0, .int .i64 0, .int .i64 0, .int .i64 0, .slice none 0 0] 24) = wB at kB ⊢
    have hb := kB
    replace k := k.trans (hb.mono k.size)
    replace P := box (P.out.keep hb)
    clear hb
    clear kB
    refine (psame_any 0 0 0 0 none none 0 0 0 [] rfl _ (.inl rfl) (.inl rfl)).mono ?_
    rintro e w4 ⟨rfl, hb⟩
    replace k := k.trans (hb.mono k.size)
    replace P := box (P.out.keep hb)
    clear hb
    go_wp2_with fail
    go_ret
    exact ⟨by simp, k⟩
end Go.Proofs.YthfoakomapmkeaaDoor
