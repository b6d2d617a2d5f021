/- The contract of Errors. -/
import Derived.Test.YthfoakomapmkeaaDoorCrcA
import Derived.Test.YthfoakomapmkeaaDoorCrcB
import Derived.Deep.QuietTactic
import Derived.BigQuiet
namespace Go.Proofs.YthfoakomapmkeaaDoor.Crc
open Go.RowKit

theorem below_drewN {W w : World} {N : Nat} (k : Nat) (h : Below N W w) : Below N W (w.drewN k) := h.trans ⟨rfl, rfl, rfl, Nat.le_refl _, fun _ _ => rfl⟩
theorem keepc {W w : World} {a : Addr} {v : Value} (hb : Below W.heap.size W w) (h : W.cell? a = some v) : w.cell? a = some v := (hb.cell (World.block_lt_of_cell? W a h)).trans h

/-- What Errors answers. -/
def errs (ds : List Nat) : Nat × Nat × Nat := es 0 ds 0 0 0

theorem getD_lt {xs : List Nat} {b k : Nat} (hx : ∀ x ∈ xs, x < b) (hk : k < xs.length) : xs.getD k 0 < b := by
  rw [List.getD_eq_getElem?_getD, List.getElem?_eq_getElem hk]; exact hx _ (List.getElem_mem hk)
theorem drop_getD {xs : List Nat} {k : Nat} (hk : k < xs.length) : xs.drop k = xs.getD k 0 :: xs.drop (k + 1) := by
  rw [List.drop_eq_getElem_cons hk, List.getD_eq_getElem?_getD, List.getElem?_eq_getElem hk]; rfl
theorem zip_getD {xs ys : List Nat} {k : Nat} (hk : k < xs.length) (hk' : k < ys.length) : (List.zipWith (· ^^^ ·) xs ys).getD k 0 = xs.getD k 0 ^^^ ys.getD k 0 := by
  simp [List.getD_eq_getElem?_getD, List.getElem?_zipWith, List.getElem?_eq_getElem hk, List.getElem?_eq_getElem hk']

set_option maxHeartbeats 8000000 in
theorem errors_at (a b : Addr) (n ca cb : Nat) (xs ys : List Nat) (hn : xs.length = n) (hm : ys.length = n) (hx : ∀ x ∈ xs, x < 256) (hy : ∀ x ∈ ys, x < 256) (hbig : n ≤ 1000) (w : World) (hc : At w a xs) (hd : At w b ys) :
    Calls Tryd.prog 35 #[.slice (some a) n ca, .slice (some b) n cb] w fun e w' =>
      e = .returned (.tuple #[.int .i64 ((errs (List.zipWith (· ^^^ ·) xs ys)).1 : Int), .int .i64 ((errs (List.zipWith (· ^^^ ·) xs ys)).2.2 - (errs (List.zipWith (· ^^^ ·) xs ys)).2.1 : Int)]) ∧ Below w.heap.size w w' := by
  have HX := Lib.hid hx
  have HY := Lib.hid hy
  have HC := Lib.hid hc
  have HD := Lib.hid hd
  clear hx hy hc hd
  obtain ⟨ds, hds⟩ : ∃ ds, List.zipWith (· ^^^ ·) xs ys = ds := ⟨_, rfl⟩
  have HDS := Lib.hid hds
  rw [hds]
  clear hds
  have hdl : ds.length = n := by rw [← HDS.out]; simp [hn, hm]
  obtain ⟨rc, rf, rl, hres⟩ : ∃ rc rf rl, errs ds = (rc, rf, rl) := ⟨_, _, _, rfl⟩
  have HR := Lib.hid hres
  rw [hres]
  clear hres
  go_enter Tryd.func35, Tryd.ntmps35
  go_wp2_with fail
  go_loopw [6, 7, 8, 18] (fun t6 t7 t8 t18 wr => ∃ (k c f l : Nat), k ≤ n ∧ t18 = .int .i64 k ∧ t6 = .int .i64 c ∧ t7 = .int .i64 f ∧ t8 = .int .i64 ((l : Int) - 1) ∧ c ≤ 8 * k ∧ f ≤ 8 * k ∧ l ≤ 8 * k ∧ Hid (errs ds = es k (ds.drop k) c f l) ∧ Below w.heap.size w wr) (fun _ _ _ t18 _ => n - (intOf t18).toNat)
  case atStart => exact ⟨0, 0, 0, 0, Nat.zero_le _, rfl, rfl, rfl, rfl, by omega, by omega, by omega, rfl, Below.refl _ _⟩
  case round =>
    obtain ⟨k, c, f, l, hk, rfl, rfl, rfl, rfl, lc, lf, ll, hes, kb⟩ := hrel
    by_cases hlt : k < n
    · have h1 := keepc kb (HC.out k (by omega))
      have h2 := keepc kb (HD.out k (by omega))
      have hltz : (k : Int) < (n : Int) := by omega
      have hge : (0 : Int) ≤ (k : Int) := by omega
      have lx : xs.getD k 0 < 256 := getD_lt HX.out (by omega)
      have ly : ys.getD k 0 < 256 := getD_lt HY.out (by omega)
      have e1 := u8_xor_nat _ _ lx ly
      have ld : xs.getD k 0 ^^^ ys.getD k 0 < 256 := Nat.xor_lt_two_pow (n := 8) lx ly
      have HDr : Hid (es k (ds.drop k) c f l = es k ((xs.getD k 0 ^^^ ys.getD k 0) :: ds.drop (k + 1)) c f l) := Lib.hid (by
        rw [← zip_getD (by omega) (by omega), HDS.out, ← drop_getD (by omega)])
      generalize xs.getD k 0 ^^^ ys.getD k 0 = d at e1 ld HDr
      generalize xs.getD k 0 = x at e1 h1
      generalize ys.getD k 0 = y at e1 h2
      by_cases hd0 : d = 0
      · subst hd0
        have HE : Hid (errs ds = es (k + 1) (ds.drop (k + 1)) c f l) := Lib.hid (by rw [hes.out, HDr.out, es, if_pos rfl])
        clear hes HDr
        go_wp2_with fail
        go_quiet (fail)
        go_wp2_with fail
        go_roundw
        case rel => exact ⟨k + 1, c, f, l, by omega, by go_num, rfl, rfl, rfl, by omega, by omega, by omega, HE, below_drewN _ kb⟩
        case measure => simp [intOf]; omega
      · have hdz : ((d : Int) == 0) = false := by simp; omega
        have p1 := ones_le d ld
        have p2 := blen_le d ld
        have p3 := tz_le d ld
        have p4 := blen_pos d ld hd0
        have HE : Hid (errs ds = es (k + 1) (ds.drop (k + 1)) (c + Lib.onesCount d) (if c = 0 then 8 * k + Lib.trailingZeros8 d else f) (8 * k + Lib.bitLen d)) := Lib.hid (by rw [hes.out, HDr.out, es, if_neg hd0])
        clear hes HDr
        generalize hg1 : Lib.onesCount d = o1 at HE p1
        generalize hg2 : Lib.bitLen d = o2 at HE p2 p4
        generalize hg3 : Lib.trailingZeros8 d = o3 at HE p3
        have q1 := ones_any d
        have q2 := len8_any d
        have q3 := tz8_any d
        rw [hg1] at q1
        rw [hg2] at q2
        rw [hg3] at q3
        clear hg1 hg2 hg3
        by_cases hc0 : c = 0
        · subst hc0
          rw [if_pos rfl] at HE
          go_wp2_with fail
          go_quiet (fail)
          go_wp2_with (first | (go_at_call 56; refine (q3 _ ld).mono ?_; rintro e w' ⟨rfl, hw'⟩; have hw'' := hw'.symm; subst hw'') | (go_at_call 57; refine (q2 _ ld).mono ?_; rintro e w' ⟨rfl, hw'⟩; have hw'' := hw'.symm; subst hw'') | (go_at_call 58; refine (q1 _ ld).mono ?_; rintro e w' ⟨rfl, hw'⟩; have hw'' := hw'.symm; subst hw''))
          go_roundw
          case rel => exact ⟨k + 1, 0 + o1, 8 * k + o3, 8 * k + o2, by omega, by go_num, by go_num, by go_num, by go_num, by omega, by omega, by omega, HE, below_drewN _ kb⟩
          case measure => simp [intOf]; omega
        · rw [if_neg hc0] at HE
          have hcz : ((c : Int) == 0) = false := by simp; omega
          go_wp2_with fail
          go_quiet (fail)
          go_wp2_with (first | (go_at_call 56; refine (q3 _ ld).mono ?_; rintro e w' ⟨rfl, hw'⟩; have hw'' := hw'.symm; subst hw'') | (go_at_call 57; refine (q2 _ ld).mono ?_; rintro e w' ⟨rfl, hw'⟩; have hw'' := hw'.symm; subst hw'') | (go_at_call 58; refine (q1 _ ld).mono ?_; rintro e w' ⟨rfl, hw'⟩; have hw'' := hw'.symm; subst hw''))
          go_roundw
          case rel => exact ⟨k + 1, c + o1, f, 8 * k + o2, by omega, by go_num, by go_num, by go_num, by go_num, by omega, by omega, by omega, HE, below_drewN _ kb⟩
          case measure => simp [intOf]; omega
    · have hkn : k = ds.length := by omega
      have HE : (rc, rf, rl) = (c, f, l) := by rw [← HR.out, hes.out, hkn, List.drop_length]; rfl
      cases HE
      clear hes
      go_wp2_with fail
      refine bodyPost_ret (v := .tuple #[.int .i64 (rc : Int), .int .i64 ((rl : Int) - rf)]) (by simp [results, Tryd.results35, go_sem]; omega) rfl ⟨rfl, kb⟩

set_option maxHeartbeats 4000000 in
theorem errors_none (a b : Option Addr) (ca cb : Nat) (w : World) :
    Calls Tryd.prog 35 #[.slice a 0 ca, .slice b 0 cb] w fun e w' => e = .returned (.tuple #[.int .i64 0, .int .i64 0]) ∧ Below w.heap.size w w' := by
  go_enter Tryd.func35, Tryd.ntmps35
  go_wp2_with fail
  go_loopw [6, 7, 8, 18] (fun t6 t7 t8 t18 wr => t18 = .int .i64 0 ∧ t6 = .int .i64 0 ∧ t7 = .int .i64 0 ∧ t8 = .int .i64 (-1) ∧ Below w.heap.size w wr) (fun _ _ _ _ _ => 0)
  case atStart => exact ⟨rfl, rfl, rfl, rfl, Below.refl _ _⟩
  case round =>
    obtain ⟨rfl, rfl, rfl, rfl, kb⟩ := hrel
    go_wp2_with fail
    refine bodyPost_ret (v := .tuple #[.int .i64 0, .int .i64 0]) (by simp [results, Tryd.results35, go_sem]) rfl ⟨rfl, kb⟩

set_option maxHeartbeats 4000000 in
theorem errors_ne (a b : Option Addr) (n m ca cb : Nat) (hne : n ≠ m) (w : World) :
    Calls Tryd.prog 35 #[.slice a n ca, .slice b m cb] w fun e w' => e = .returned (.tuple #[.int .i64 (-1), .int .i64 (-1)]) ∧ Below w.heap.size w w' := by
  have hz : ((n : Int) != (m : Int)) = true := by simp; omega
  go_enter Tryd.func35, Tryd.ntmps35
  go_wp2_with fail
  refine bodyPost_ret (v := .tuple #[.int .i64 (-1), .int .i64 (-1)]) (by simp [results, Tryd.results35, go_sem]) rfl ⟨rfl, Below.refl _ _⟩

theorem errors_any (a b : Option Addr) (n ca cb : Nat) (xs ys : List Nat) (hn : xs.length = n) (hm : ys.length = n) (hx : ∀ x ∈ xs, x < 256) (hy : ∀ x ∈ ys, x < 256) (hbig : n ≤ 1000) (w : World) (hc : In w a xs) (hd : In w b ys) :
    Calls Tryd.prog 35 #[.slice a n ca, .slice b n cb] w fun e w' =>
      e = .returned (.tuple #[.int .i64 ((errs (List.zipWith (· ^^^ ·) xs ys)).1 : Int), .int .i64 ((errs (List.zipWith (· ^^^ ·) xs ys)).2.2 - (errs (List.zipWith (· ^^^ ·) xs ys)).2.1 : Int)]) ∧ Below w.heap.size w w' := by
  by_cases h0 : n = 0
  · subst h0
    obtain rfl := List.length_eq_zero_iff.1 hn
    obtain rfl := List.length_eq_zero_iff.1 hm
    exact errors_none a b ca cb w
  · rcases hc with rfl | ⟨a', rfl, hc⟩
    · simp at hn; omega
    · rcases hd with rfl | ⟨b', rfl, hd⟩
      · simp at hm; omega
      · exact errors_at a' b' n ca cb xs ys hn hm hx hy hbig w hc hd
end Go.Proofs.YthfoakomapmkeaaDoor.Crc
