/- The walk of CrcUpdates. -/
import Derived.Test.YtilacnfcohlbnaaDoorCrcT
namespace Go.Proofs.YtilacnfcohlbnaaDoor
open Go.RowKit

/-- The check sum in parts. -/
theorem crc_part (xs ys : List Nat) : reg (crc xs ^^^ 4294967295) ys ^^^ 4294967295 = crc (xs ++ ys) := by
  unfold crc
  rw [Nat.xor_assoc, Nat.xor_self, Nat.xor_zero, reg_append]

theorem own_form {B n : Nat} {w : World} {v : Value} {xs : List Nat} (hn : xs.length = n) (h : w.ownsRow B 5 1 v n (xs.map nU8)) : ∃ (a : Option Addr) (c : Nat), v = .slice a n c ∧ In w a xs ∧ (a = none → c = 0) ∧ n ≤ c := by
  have hc := h
  obtain ⟨_, hcase⟩ := h
  rcases hcase with ⟨rfl, h0⟩ | ⟨g, cap, cur, rfl, hg, hh, hnc, hcap, hsz, htake⟩
  · subst h0
    exact ⟨none, 0, rfl, .inl (List.length_eq_zero_iff.1 hn), fun _ => rfl, Nat.le_refl _⟩
  · exact ⟨some ⟨g, 0, none⟩, cap, rfl, own_in hn hc, (fun h => by cases h), hnc⟩

set_option maxHeartbeats 8000000 in
theorem updates_walk (a b d : Option Addr) (n m k ca cb cd : Nat) (xs ys zs : List Nat) (hn : xs.length = n) (hm : ys.length = m) (hk : zs.length = k) (hx : ∀ x ∈ xs, x < 256) (hy : ∀ x ∈ ys, x < 256) (hz : ∀ x ∈ zs, x < 256)
    (na : a = none → ca = 0) (nb : b = none → cb = 0) (nd : d = none → cd = 0) (w : World) (ha : In w a xs) (hb : In w b ys) (hd : In w d zs) (hT : HasTab w) :
    Calls Tryd.prog 4 #[.slice a n ca, .slice b m cb, .slice d k cd] w fun e w' => e = .returned (.bool true) ∧ Below w.heap.size w w' := by
  have HT := box hT
  have HX := box hx
  have HY := box hy
  have HZ := box hz
  have HA := box ha
  have HB := box hb
  have HD := box hd
  have NA := box na
  have NB := box nb
  have ND := box nd
  clear hT hx hy hz ha hb hd na nb nd
  have long : ∀ b1 b2 b3 : Bool, decide ((300 : Int) < (n : Int)) = b1 → decide ((300 : Int) < (m : Int)) = b2 → decide ((300 : Int) < (k : Int)) = b3 → (b1 || b2 || b3) = true →
      Calls Tryd.prog 4 #[.slice a n ca, .slice b m cb, .slice d k cd] w fun e w' => e = .returned (.bool true) ∧ Below w.heap.size w w' := by
    intro b1 b2 b3 h1 h2 h3 hor
    rcases b1 with _ | _ <;> rcases b2 with _ | _ <;> rcases b3 with _ | _ <;> (first | (exact absurd hor (by decide)) | skip)
    all_goals
      clear hor
      go_enter Tryd.func4, Tryd.ntmps4
      go_wp2_with fail
      refine (awake_any _ HT.out).mono ?_
      rintro e w1 ⟨rfl, hb1⟩
      go_wp2_with fail
      go_ret
      exact ⟨rfl, hb1⟩
  by_cases hl1 : 300 < n
  · exact long true _ _ (decide_eq_true (by omega)) rfl rfl rfl
  by_cases hl2 : 300 < m
  · exact long _ true _ rfl (decide_eq_true (by omega)) rfl (by simp)
  by_cases hl3 : 300 < k
  · exact long _ _ true rfl rfl (decide_eq_true (by omega)) (by simp)
  clear long
  have hd1 : decide ((300 : Int) < (n : Int)) = false := decide_eq_false (by omega)
  have hd2 : decide ((300 : Int) < (m : Int)) = false := decide_eq_false (by omega)
  have hd3 : decide ((300 : Int) < (k : Int)) = false := decide_eq_false (by omega)
  obtain ⟨i0, hi, hz0, hz1, hz2⟩ := info_parts Tryd.infoU8
  go_enter Tryd.func4, Tryd.ntmps4
  go_wp2_with fail
  refine (awake_any _ HT.out).mono ?_
  rintro e w1 ⟨rfl, hb1⟩
  have HSZ : ∀ {u : World} {o : Obj}, w1.heap.size ≤ u.heap.size → w1.heap.size ≤ (u.alloc o).heap.size := by
    intro u o h; show _ ≤ (u.heap.push o).size; rw [Array.size_push]; exact Nat.le_succ_of_le h
  have HSZ3 : ∀ (N : Nat) {u : World} (o : Obj), N ≤ u.heap.size → N ≤ (u.alloc o).heap.size := by
    intro N u o h; show _ ≤ (u.heap.push o).size; rw [Array.size_push]; exact Nat.le_succ_of_le h
  have HS1 : ∀ {o : Obj}, w1.heap.size ≤ (w1.alloc o).heap.size := HSZ (Nat.le_refl _)
  go_wp2_with (first | (at_builtin; refine wpList_append_in (o := ⟨some 26, _, _, _, _, _⟩) rfl (.tmp 24) (.tmp 25) rfl w1.heap.size i0 hi hz0 hz1 hz2 (.slice (some ⟨w1.heap.size, 0, none⟩) 0 0) 0 [] rfl (World.ownsRow_made w1 #[] 0 (Nat.le_refl _) (Nat.zero_le _) rfl) a n ca xs rfl hn (HA.out.below (hb1.alloc hb1.size _)) NA.out (by omega) w.heap.size w hb1.size (hb1.alloc hb1.size _) HS1 ?_; intro v2 w2 ho2 hb2 hs2) | (at_builtin; refine wpList_append_in (o := ⟨some 28, _, _, _, _, _⟩) rfl (.tmp 26) (.tmp 27) rfl w1.heap.size i0 hi hz0 hz1 hz2 v2 (0 + n) ([] ++ xs.map nU8) rfl ho2.out b m cb ys rfl hm (HB.out.below hb2) NB.out (by omega) w.heap.size w hb1.size hb2 hs2 ?_; intro v3 w3 ho3 hb3 hs3; obtain ⟨a3, c3, rfl, hi3, hn3, hc3⟩ := own_form (n := n + m) (xs := xs ++ ys) (by simp [hn, hm]) (by have h := ho3.out; simpa using h); have HI3 := box hi3; have HN3 := box hn3; clear ho2 ho3 hi3 hn3) | (at_builtin; refine wpList_append_in (o := ⟨some 31, _, _, _, _, _⟩) rfl (.tmp 29) (.tmp 30) rfl w3.heap.size i0 hi hz0 hz1 hz2 (.slice (some ⟨w3.heap.size, 0, none⟩) 0 0) 0 [] rfl (World.ownsRow_made w3 #[] 0 (Nat.le_refl _) (Nat.zero_le _) rfl) a3 (n + m) c3 (xs ++ ys) rfl (by simp [hn, hm]) (HI3.out.below ((Below.refl _ w3).alloc (Nat.le_refl _) _)) HN3.out (by omega) w3.heap.size w3 (Nat.le_refl _) ((Below.refl _ w3).alloc (Nat.le_refl _) _) (HSZ3 _ _ (Nat.le_refl _)) ?_; intro v4 w4 ho4 hb4 hs4) | (at_builtin; refine wpList_append_in (o := ⟨some 33, _, _, _, _, _⟩) rfl (.tmp 31) (.tmp 32) rfl w3.heap.size i0 hi hz0 hz1 hz2 v4 (0 + (n + m)) ([] ++ (xs ++ ys).map nU8) rfl ho4.out d k cd zs rfl hk (HD.out.below (hb3.trans (hb4.mono hb3.size))) ND.out (by omega) w3.heap.size w3 (Nat.le_refl _) hb4 hs4 ?_; intro v5 w5 ho5 hb5 hs5; obtain ⟨a5, c5, rfl, hi5, hn5, hc5⟩ := own_form (n := n + m + k) (xs := xs ++ ys ++ zs) (by simp [hn, hm, hk]; omega) (by have h := ho5.out; simpa [Nat.add_assoc] using h); have HI5 := box hi5; clear ho4 ho5 hi5 hn5) | fail)
  have kw : Below w.heap.size w w5 := hb3.trans (hb5.mono hb3.size)
  have IA := HA.out.below kw
  have IB := HB.out.below kw
  have ID := HD.out.below kw
  have I3 := HI3.out.below hb5
  have T5 := HT.out.below kw
  have L1 : crc xs < 2 ^ 32 := crc_lt HX.out
  have X12 : ∀ x ∈ xs ++ ys, x < 256 := fun x h => (List.mem_append.1 h).elim (HX.out x) (HY.out x)
  have X123 : ∀ x ∈ xs ++ ys ++ zs, x < 256 := fun x h => (List.mem_append.1 h).elim (X12 x) (HZ.out x)
  have L2 : crc (xs ++ ys) < 2 ^ 32 := crc_lt X12
  have SA := box (sum_any a n ca xs hn HX.out (by omega) w5 IA T5)
  have SAB := box (sum_any a3 (n + m) c3 (xs ++ ys) (by simp [hn, hm]) X12 (by omega) w5 I3 T5)
  have SABC := box (sum_any a5 (n + m + k) c5 (xs ++ ys ++ zs) (by simp [hn, hm, hk]; omega) X123 (by omega) w5 HI5.out T5)
  have UB := box (update_any (crc xs) L1 b m cb ys hm HY.out (by omega) w5 IB T5)
  rw [crc_part] at UB
  have UC := box (update_any (crc (xs ++ ys)) L2 d k cd zs hk HZ.out (by omega) w5 ID T5)
  rw [crc_part] at UC
  have U0 := box (update_any 0 (by decide) a n ca xs hn HX.out (by omega) w5 IA T5)
  rw [Nat.zero_xor, show reg 4294967295 xs ^^^ 4294967295 = crc xs from rfl] at U0
  have UN := box (update_none (crc xs) L1 none 0 w5)
  clear IA IB ID I3 T5 X12 X123 L1 L2
  generalize crc (xs ++ ys ++ zs) = s3 at SABC UC
  generalize crc (xs ++ ys) = s2 at SAB UB UC
  generalize crc xs = s1 at SA UB U0 UN
  refine SA.out.mono ?_
  rintro e w6 ⟨rfl, hw6⟩
  have hw6' := hw6.symm
  subst hw6'
  go_wp2_with fail
  refine UB.out.mono ?_
  rintro e w6 ⟨rfl, hw6⟩
  have hw6' := hw6.symm
  subst hw6'
  go_wp2_with fail
  refine SAB.out.mono ?_
  rintro e w6 ⟨rfl, hw6⟩
  have hw6' := hw6.symm
  subst hw6'
  go_wp2_with fail
  refine SA.out.mono ?_
  rintro e w6 ⟨rfl, hw6⟩
  have hw6' := hw6.symm
  subst hw6'
  go_wp2_with fail
  refine UB.out.mono ?_
  rintro e w6 ⟨rfl, hw6⟩
  have hw6' := hw6.symm
  subst hw6'
  go_wp2_with fail
  refine UC.out.mono ?_
  rintro e w6 ⟨rfl, hw6⟩
  have hw6' := hw6.symm
  subst hw6'
  go_wp2_with fail
  refine SABC.out.mono ?_
  rintro e w6 ⟨rfl, hw6⟩
  have hw6' := hw6.symm
  subst hw6'
  go_wp2_with fail
  refine U0.out.mono ?_
  rintro e w6 ⟨rfl, hw6⟩
  have hw6' := hw6.symm
  subst hw6'
  go_wp2_with fail
  refine SA.out.mono ?_
  rintro e w6 ⟨rfl, hw6⟩
  have hw6' := hw6.symm
  subst hw6'
  go_wp2_with fail
  refine SA.out.mono ?_
  rintro e w6 ⟨rfl, hw6⟩
  have hw6' := hw6.symm
  subst hw6'
  go_wp2_with fail
  refine UN.out.mono ?_
  rintro e w6 ⟨rfl, hw6⟩
  have hw6' := hw6.symm
  subst hw6'
  go_wp2_with fail
  refine SA.out.mono ?_
  rintro e w6 ⟨rfl, hw6⟩
  have hw6' := hw6.symm
  subst hw6'
  go_wp2_with fail
  go_ret
  exact ⟨rfl, kw⟩
end Go.Proofs.YtilacnfcohlbnaaDoor
