/- play: its walk. -/
import Derived.Test.YtfpicobjnpjhlaaRetPc
import Derived.Deep.DeepCutAuto
namespace Go.Proofs.Ytfpicobjnpjhlaa
open Go.RowKit

theorem StrAt.len {B c : Nat} {O : Nat → Nat} {w : World} {v : Value} {n : Nat} (h : StrAt B c O w v n) : ∃ a k, v = .slice a n k := by
  rcases row_form h.row with ⟨rfl, rfl, _⟩ | ⟨g, k, rfl, _⟩
  · exact ⟨none, 0, rfl⟩
  · exact ⟨_, k, rfl⟩

theorem Env.other {B : Nat} {w0 : World} {g gr gt gb xb : Nat} {cs : List Value} {O O' : Nat → Nat} {w w' : World} {v : Value} {s : Rs} {R : Nat} {vt : Value} {LT : List (List It)} {vb : Value} {LB : List (List It)} {vo : Value} {no : Nat} {va : Value} {na : Nat} (h : Env B w0 g gr gt gb xb cs O w v s R vt LT vb LB vo no va na) (st : Stp B 99 O O' w w') : Env B w0 g gr gt gb xb cs O' w' v s R vt LT vb LB vo no va na :=
  ⟨h.snd.frame st (by decide), h.rcv.frame st (by decide), h.thr.frame st (by decide) (by decide), h.bck.frame st (by decide) (by decide), h.off.frame st (by decide), h.acc.frame st (by decide), h.fix.frame st (by decide), st.tags, st.below (by decide) h.tags h.bel h.hB, Nat.le_trans h.hB st.size⟩
theorem results_tmp4 {fn : Func} {t u v x : Tmp} (h : fn.results = #[.tmp t, .tmp u, .tmp v, .tmp x]) (tmps : Array Value) (P : Program) (w : World) :
    (results fn tmps).run P w = .ok (.tuple #[tmps.getD t undef, tmps.getD u undef, tmps.getD v undef, tmps.getD x undef]) w := by
  simp [results, h]
theorem inB {B : Nat} {w1 w : World} {a : Option Addr} {xs : List Nat} (h : In w1 a xs) (hb : Below B w1 w) (e : w1.heap.size = B) : In w a xs := h.below (by rw [e]; exact hb)
theorem new_one (w : World) (v : Value) (t : TypeId) : (w.alloc (.cells #[v] t)).cell? ⟨w.heap.size, 0, none⟩ = some v ∧ (w.alloc (.cells #[v] t)).frozen? ⟨w.heap.size, 0, none⟩ = false := by
  refine ⟨World.cell?_alloc_mark w #[v] t (0, 0) 0, ?_⟩
  unfold World.frozen?
  have h : (w.alloc (.cells #[v] t)).heap[w.heap.size]? = some (.cells #[v] t) := by show (w.heap.push _)[w.heap.size]? = _; simp
  rw [show (⟨w.heap.size, 0, none⟩ : Addr).block = w.heap.size from rfl, h]
  simp

set_option maxRecDepth 100000 in
set_option maxHeartbeats 8000000 in
theorem play_any (p : Talk.Par) (h1 : 1 ≤ p.W) (h2 : p.W ≤ 16) (h3 : 1 ≤ p.τ) (h4 : p.τ ≤ 40) (h5 : p.d ≤ 6) (a1 : Option Addr) (l1 c1 : Nat) (xs1 : List Nat) (hl1 : xs1.length = l1) (a2 : Option Addr) (l2 c2 : Nat) (xs2 : List Nat) (hl2 : xs2.length = l2) (a3 : Option Addr) (l3 c3 : Nat) (xs3 : List Nat) (hl3 : xs3.length = l3)
    (hx1 : ∀ x ∈ xs1, x < 256) (hx2 : ∀ x ∈ xs2, x < 256) (hx3 : ∀ x ∈ xs3, x < 256) (ho : ∀ t, p.o t = if t < l1 then xs1.getD t 0 % 4 else 0) (hn : ∀ t, p.n t = tmN xs2 t) (hm : ∀ t, p.m t = tmN xs3 t) (ticks : Nat) (htk : ticks ≤ 1560) (w : World) (i1 : In w a1 xs1) (i2 : In w a2 xs2) (i3 : In w a3 xs3) :
    Calls Try.prog 30 #[.agg #[.int .i64 p.W, .int .i64 p.τ, .int .i64 p.d, .slice a1 l1 c1, .slice a2 l2 c2, .slice a3 l3 c3, .bool p.nk], .int .i64 ticks] w fun e w' => ∃ ao co aa ca g B O v s, e = .returned (.tuple #[.slice ao (Talk.run p ticks).s.T co, .slice aa (Talk.run p ticks).s.R ca, .pointer (some ⟨g, 0, none⟩), .bool true]) ∧ PsAt B O w' g v s ∧ Snd p.W p.τ (Talk.run p ticks).s s ∧ Below w.heap.size w w' := by
  obtain ⟨i9, z9, hi9, hz9, hs9, hb9, hc9⟩ := info_ex Try.infoStr
  have HO := box ho
  have HN := box hn
  have HMM := box hm
  have HX1 := box hx1
  have HX2 := box hx2
  have HX3 := box hx3
  have HL1 := box hl1
  have HL2 := box hl2
  have HL3 := box hl3
  have H5 := box h5
  clear ho hn hm hx1 hx2 hx3 hl1 hl2 hl3
  obtain ⟨nk, hnk⟩ : ∃ nk, p.nk = nk := ⟨_, rfl⟩
  have HNK := box hnk
  rw [hnk]
  clear hnk
  obtain ⟨cs, hcs⟩ : ∃ cs : List Value, cs = [.int .i64 p.W, .int .i64 p.τ, .int .i64 p.d, .slice a1 l1 c1, .slice a2 l2 c2, .slice a3 l3 c3, .bool nk] := ⟨_, rfl⟩
  have HCS := box hcs
  clear hcs
  obtain ⟨xb, hxb⟩ : ∃ xb, w.heap.size = xb := ⟨_, rfl⟩
  have kX : Below w.heap.size w (w.alloc (.cells #[.int .i64 p.W, .int .i64 p.τ, .int .i64 p.d, .slice a1 l1 c1, .slice a2 l2 c2, .slice a3 l3 c3, .bool nk] 52)) := (Below.refl _ _).alloc (Nat.le_refl _) _
  have KX := box kX
  have I1 := box (i1.below kX)
  have I2 := box (i2.below kX)
  have I3 := box (i3.below kX)
  have q := World.cell?_alloc_mark w #[.int .i64 p.W, .int .i64 p.τ, .int .i64 p.d, .slice a1 l1 c1, .slice a2 l2 c2, .slice a3 l3 c3, .bool nk] 52 (0, 0)
  have FX := box (show ∀ i (h : i < cs.length), (w.alloc (.cells #[.int .i64 p.W, .int .i64 p.τ, .int .i64 p.d, .slice a1 l1 c1, .slice a2 l2 c2, .slice a3 l3 c3, .bool nk] 52)).cell? ⟨xb, i, none⟩ = some cs[i] from fun i h => by
    rw [← hxb, q i]
    have e := HCS.out
    subst e
    exact (Array.getElem?_eq_getElem (by simpa using h)).trans rfl)
  have e0 : (w.alloc (.cells #[.int .i64 p.W, .int .i64 p.τ, .int .i64 p.d, .slice a1 l1 c1, .slice a2 l2 c2, .slice a3 l3 c3, .bool nk] 52)).cell? ⟨xb, 0, none⟩ = some (.int .i64 p.W) := by rw [← hxb]; exact q 0
  have e1 : (w.alloc (.cells #[.int .i64 p.W, .int .i64 p.τ, .int .i64 p.d, .slice a1 l1 c1, .slice a2 l2 c2, .slice a3 l3 c3, .bool nk] 52)).cell? ⟨xb, 1, none⟩ = some (.int .i64 p.τ) := by rw [← hxb]; exact q 1
  have HXB := box (show xb < (w.alloc (.cells #[.int .i64 p.W, .int .i64 p.τ, .int .i64 p.d, .slice a1 l1 c1, .slice a2 l2 c2, .slice a3 l3 c3, .bool nk] 52)).heap.size from by rw [size_alloc']; omega)
  clear i1 i2 i3 kX q
  go_enter Try.func30, Try.ntmps30
  go_upto_region 1 with fail
  generalize w.alloc (.cells #[.int .i64 p.W, .int .i64 p.τ, .int .i64 p.d, .slice a1 l1 c1, .slice a2 l2 c2, .slice a3 l3 c3, .bool nk] 52) = w1 at KX I1 I2 I3 FX HXB e0 e1 ⊢
  have HXBW := box hxb
  clear hxb
  have NW := new_any p.W p.τ h1 (by omega) h3 (by omega) w1
  obtain ⟨B, hB⟩ : ∃ B, w1.heap.size = B := ⟨_, rfl⟩
  rw [hB] at NW
  have NW2 := box NW
  have HB := box hB
  clear NW hB
  go_wp2_with fail
  refine NW2.out.mono ?_
  rintro e w2 ⟨g, rfl, hg, x2, b2⟩
  have NR := box (newrcv_any w2)
  have X2 := box x2
  have B2 := box b2
  clear NW2 x2 b2 e0 e1
  go_wp2_with fail
  refine NR.out.mono ?_
  rintro e w3 ⟨gr, rfl, hgr, y3, b3⟩
  have Y3 := box y3
  have B3 := box b3
  have HGR := box hgr
  clear NR y3 b3 hgr
  obtain ⟨gt, hgt⟩ : ∃ gt, w3.heap.size = gt := ⟨_, rfl⟩
  have kT : Below w3.heap.size w3 (w3.alloc (.cells #[.slice none 0 0] 75)) := (Below.refl _ _).alloc (Nat.le_refl _) _
  have kT2 : Below w3.heap.size w3 ((w3.alloc (.cells #[.slice none 0 0] 75)).alloc (.cells #[.slice none 0 0] 75)) := kT.alloc kT.size _
  obtain ⟨W5, hW5⟩ : ∃ W5, (w3.alloc (.cells #[.slice none 0 0] 75)).alloc (.cells #[.slice none 0 0] 75) = W5 := ⟨_, rfl⟩
  have HW5 := box hW5
  have CT := box (show W5.cell? ⟨gt, 0, none⟩ = some (.slice none 0 0) ∧ W5.frozen? ⟨gt, 0, none⟩ = false ∧ W5.cell? ⟨gt + 1, 0, none⟩ = some (.slice none 0 0) ∧ W5.frozen? ⟨gt + 1, 0, none⟩ = false ∧ W5.heap.size = gt + 2 from by
    rw [← hW5, ← hgt]
    have n1 := new_one w3 (.slice none 0 0) 75
    have n2 := new_one (w3.alloc (.cells #[.slice none 0 0] 75)) (.slice none 0 0) 75
    rw [size_alloc'] at n2
    have kk : Below (w3.alloc (.cells #[.slice none 0 0] 75)).heap.size (w3.alloc (.cells #[.slice none 0 0] 75)) ((w3.alloc (.cells #[.slice none 0 0] 75)).alloc (.cells #[.slice none 0 0] 75)) := (Below.refl _ _).alloc (Nat.le_refl _) _
    exact ⟨keepa _ n1.1, by rw [World.frozen?_of_block (a := ⟨w3.heap.size, 0, none⟩) (kk.block w3.heap.size (by rw [size_alloc']; omega))]; exact n1.2, n2.1, n2.2, by rw [size_alloc', size_alloc']⟩)
  rw [hW5] at kT2
  have KT2 := box kT2
  have HGT := box hgt
  clear kT kT2 hW5 hgt
  obtain ⟨O0, hO0⟩ : ∃ O0 : Nat → Nat, O0 = fun q => if q = g then 1 else if q = gr then 2 else if q = gt then 3 else if q = gt + 1 then 4 else 0 := ⟨_, rfl⟩
  have HLT := box (show B ≤ g ∧ g < gr ∧ gr < gt ∧ xb < B ∧ gr = w2.heap.size ∧ w3.heap.size = gt from ⟨hg, by rw [HGR.out]; exact X2.out.m.lt, by rw [← HGT.out]; exact World.block_lt_of_cell? w3 ⟨gr, 0, none⟩ Y3.out.q, by rw [← HB.out]; exact HXB.out, HGR.out, HGT.out⟩)
  have ENV0 := box (show Env B w1 g gr gt (gt + 1) xb cs O0 W5 (.slice none 0 0) (s0 p.W p.τ) 0 (.slice none 0 0) [] (.slice none 0 0) [] (.slice none 0 0) 0 (.slice none 0 0) 0 from by
    obtain ⟨q1, q2, q3, q4, q5, q6⟩ := HLT.out
    have og : O0 g = 1 := by rw [hO0]; exact if_pos rfl
    have ogr : O0 gr = 2 := by rw [hO0]; show (if gr = g then 1 else _) = 2; rw [if_neg (by omega), if_pos rfl]
    have ogt : O0 gt = 3 := by rw [hO0]; show (if gt = g then 1 else _) = 3; rw [if_neg (by omega), if_neg (by omega), if_pos rfl]
    have ogb : O0 (gt + 1) = 4 := by rw [hO0]; show (if gt + 1 = g then 1 else _) = 4; rw [if_neg (by omega), if_neg (by omega), if_neg (by omega), if_pos rfl]
    have oxb : O0 xb = 0 := by rw [hO0]; show (if xb = g then 1 else _) = 0; rw [if_neg (by omega), if_neg (by omega), if_neg (by omega), if_neg (by omega)]
    have hB5 : Below w2.heap.size w2 W5 := B3.out.trans (KT2.out.mono B3.out.size)
    refine ⟨⟨(X2.out.zone (E' := fun q => 2 ≤ O0 q) (fun k hk he => ?_)).keep hB5, og, fun k hk => by cases hk⟩, ⟨Y3.out.rcvB KT2.out, ogr⟩, ⟨CT.out.1, CT.out.2.1, ogt, (fun k hk => by cases hk), (fun h => by cases h), [], QRow.nil _ _, rfl, fun i hi => by cases hi⟩, ⟨CT.out.2.2.1, CT.out.2.2.2.1, ogb, (fun k hk => by cases hk), (fun h => by cases h), [], QRow.nil _ _, rfl, fun i hi => by cases hi⟩, ⟨World.ownsRow_nil _ _ _ _, fun k hk => by cases hk⟩, ⟨World.ownsRow_nil _ _ _ _, fun k hk => by cases hk⟩, ⟨oxb, ?_, fun i hi => ?_⟩, fun k hk => ?_, ?_, ?_⟩
    · have he : 2 ≤ O0 k := he
      rw [hO0] at he
      simp only at he
      refine Classical.byContradiction fun hn => ?_
      split at he
      · omega
      · split at he
        · omega
        · split at he
          · omega
          · split at he <;> omega
    · have := CT.out.2.2.2.2; omega
    · have e := keepc ((B2.out.trans (hB5.mono (by have := B2.out.size; omega))).mono (show B ≤ B from Nat.le_refl _) |>.mono (Nat.le_of_eq HB.out)) (FX.out i hi)
      exact e
    · have h5 := CT.out.2.2.2.2
      rw [hO0] at hk
      simp only at hk
      split at hk
      · omega
      · split at hk
        · omega
        · split at hk
          · omega
          · split at hk <;> omega
    · exact B2.out.trans (hB5.mono (by have := B2.out.size; have := X2.out.m.lt; omega))
    · have h5 := CT.out.2.2.2.2; omega)
  have SND0 := box (show Snd p.W p.τ (Talk.run p 0).s (s0 p.W p.τ) from ⟨rfl, rfl, rfl, fun k h => by simp at h, rfl, rfl, rfl, rfl⟩)
  have HWS := box (show Below w.heap.size w w1 from KX.out)
  have HBB := box (show w.heap.size ≤ B ∧ w1.heap.size = B from ⟨by rw [← HB.out]; exact KX.out.size, HB.out⟩)
  clear hO0 hg
  go_upto_region 6 with fail
  simp only [HGT.out, HW5.out] at *
  clear X2 B2 Y3 B3 HGR CT KT2 FX HXB HB KX HXBW HLT HW5 HGT
  generalize gt + 1 = gb at ENV0 ⊢
  have HFX := box (show ∀ (O : Nat → Nat) (w : World), FixAt O w xb cs → w.cell? ⟨xb, 2, none⟩ = some (.int .i64 p.d) ∧ w.cell? ⟨xb, 3, none⟩ = some (.slice a1 l1 c1) ∧ w.cell? ⟨xb, 4, none⟩ = some (.slice a2 l2 c2) ∧ w.cell? ⟨xb, 5, none⟩ = some (.slice a3 l3 c3) ∧ w.cell? ⟨xb, 6, none⟩ = some (.bool nk) from fun O w f => by
    have e := HCS.out
    subst e
    exact ⟨f.at_ 2 (by simp), f.at_ 3 (by simp), f.at_ 4 (by simp), f.at_ 5 (by simp), f.at_ 6 (by simp)⟩)
  have LD0 := box (show Talk.lastD p.d (Talk.run p 0).ht = [] ∧ Talk.lastD p.d (Talk.run p 0).hb = [] from ⟨by show List.drop _ [] = []; simp, by show List.drop _ [] = []; simp⟩)
  go_wp2_with fail
  go_loopw [4, 5, 6, 48] (fun t4 t5 t6 t48 wr => ∃ (t : Nat) (O : Nat → Nat) (v : Value) (s : Rs) (vt vb : Value), t ≤ ticks ∧ t48 = .int .i64 t ∧ t6 = .pointer (some ⟨g, 0, none⟩) ∧ Box (Snd p.W p.τ (Talk.run p t).s s) ∧ Box (Env B w1 g gr gt gb xb cs O wr v s (Talk.run p t).s.R vt ((Talk.lastD p.d (Talk.run p t).ht).map (List.map mT)) vb ((Talk.lastD p.d (Talk.run p t).hb).map (List.map mB)) t4 (Talk.run p t).s.T t5 (Talk.run p t).s.R)) (fun _ _ _ t48 _ => ticks - (intOf t48).toNat)
  case atStart => exact ⟨0, O0, _, _, _, _, by omega, rfl, rfl, SND0, by rw [LD0.out.1, LD0.out.2]; exact ENV0⟩
  case round =>
    obtain ⟨t, O, v, s, vt, vb, ht, rfl, rfl, hS, hE⟩ := hrel
    by_cases hlt : t < ticks
    · obtain ⟨ao, co, rfl⟩ := hE.out.off.len
      obtain ⟨aa, ca, rfl⟩ := hE.out.acc.len
      obtain ⟨x2, x3, x4, x5, x6⟩ := HFX.out _ _ hE.out.fix
      have TB := box (Talk.run_T_le p (fun q => by rw [HO.out q]; split <;> omega) t)
      have I1w := box (inB I1.out hE.out.bel HBB.out.2)
      clear ENV0 SND0 LD0
      go_upto_if 55 with fail
      go_cut [4] (fun t4 wx => ∃ (O : Nat → Nat) (v : Value) (s : Rs), Box (Snd p.W p.τ (Talk.offers p.W (Talk.run p t).s (p.o t)) s) ∧ Box (Env B w1 g gr gt gb xb cs O wx v s (Talk.run p t).s.R vt ((Talk.lastD p.d (Talk.run p t).ht).map (List.map mT)) vb ((Talk.lastD p.d (Talk.run p t).hb).map (List.map mB)) t4 (Talk.offers p.W (Talk.run p t).s (p.o t)).T (.slice aa (Talk.run p t).s.R ca) (Talk.run p t).s.R))
      case first =>
        by_cases hl : t < l1
        · obtain ⟨b1, hb1, hcell⟩ := in_some I1w.out (show t < xs1.length by rw [HL1.out]; exact hl)
          subst hb1
          have hx256 := getD_lt HX1.out (show t < xs1.length by rw [HL1.out]; exact hl)
          have hoq : p.o t = xs1.getD t 0 % 4 := by rw [HO.out, if_pos hl]
          generalize xs1.getD t 0 = x at hcell hx256 hoq
          obtain ⟨q, hq⟩ : ∃ q, x % 4 = q := ⟨_, rfl⟩
          have hq2 : (x : Int) % 4 = (q : Int) := by omega
          have hq3 : q < 4 := by omega
          rw [hq] at hoq
          have HOQ := box hoq
          clear hq hoq
          go_wp2_with fail
          have hld : decide (t < l1) = true := decide_eq_true hl
          (try simp only [hq2, hld])
          clear hq2 hcell hld
          go_loopw [4, 62] (fun t4 t62 wx => ∃ (j : Nat) (O : Nat → Nat) (v : Value) (s : Rs), j ≤ q ∧ t62 = .int .u8 j ∧ Box (Snd p.W p.τ (Talk.offers p.W (Talk.run p t).s j) s) ∧ Box (Env B w1 g gr gt gb xb cs O wx v s (Talk.run p t).s.R vt ((Talk.lastD p.d (Talk.run p t).ht).map (List.map mT)) vb ((Talk.lastD p.d (Talk.run p t).hb).map (List.map mB)) t4 (Talk.offers p.W (Talk.run p t).s j).T (.slice aa (Talk.run p t).s.R ca) (Talk.run p t).s.R)) (fun _ t62 _ => q - (intOf t62).toNat)
          case atStart => exact ⟨0, O, v, s, by omega, rfl, hS, hE⟩
          case round =>
            clear hS hE
            obtain ⟨j, O, v, s, hj, rfl, hS, hE⟩ := hrel
            obtain ⟨a4, c4, rfl⟩ := hE.out.off.len
            by_cases hjq : j < q
            · have OT := box (Talk.offers_T p.W (Talk.run p t).s j)
              have INV := box ((Talk.run_ok p t).offers j)
              have NXT := box (show Talk.offers p.W (Talk.run p t).s (j + 1) = Talk.offer p.W (Talk.offers p.W (Talk.run p t).s j) from rfl)
              have OTB := box (show (Talk.offers p.W (Talk.run p t).s j).T ≤ 4700 from by have := OT.out; have := TB.out; omega)
              obtain ⟨st, hst⟩ : ∃ st, Talk.offers p.W (Talk.run p t).s j = st := ⟨_, rfl⟩
              rw [hst] at hS hE NXT OTB INV ⊢
              clear hst OT
              obtain ⟨T1, hT1⟩ : ∃ T1, st.T = T1 := ⟨_, rfl⟩
              have HT1 := box hT1
              rw [hT1] at hE OTB ⊢
              have hT1b : T1 ≤ 4700 := OTB.out
              obtain ⟨A, hA⟩ : ∃ A, 97 + T1 % 26 = A := ⟨_, rfl⟩
              obtain ⟨D, hD⟩ : ∃ D, 48 + T1 / 26 % 10 = D := ⟨_, rfl⟩
              have HDAT := box (show dat T1 = [A, D] from by rw [← hA, ← hD]; rfl)
              have hA2 : (97 : Int) + (T1 : Int) % 26 = (A : Int) := by omega
              have hD2 : (48 : Int) + (T1 : Int) / 26 % 10 = (D : Int) := by omega
              have hA3 : A < 128 := by omega
              have hD3 : D < 128 := by omega
              have ea := enc_small A hA3
              have eb := enc_small D hD3
              have ec := str_two A D
              have hsz : (strOf [A, D]).size = 2 := strOf_size _
              have hsa : (strOf [A]).size = 1 := strOf_size _
              have hsd : (strOf [D]).size = 1 := strOf_size _
              have cvb := fun w : World => Lib.run_convert_string_bytes (P := Try.prog) w 9 32 5 (strOf [A, D]) Try.underlying9 Try.underlying32 Try.underlying5
              have BW := box (bytes_new wr [A, D] (fun x hx => by simp at hx; omega))
              have HAD := box (show (A < 256 ∧ D < 256) from ⟨by omega, by omega⟩)
              clear hT1 hA hD
              go_wp2_with fail
              generalize Lib.bytesWorld wr 5 (strOf [A, D]) = wb at BW ⊢
              generalize grownCap wr 2 0 5 = cp
              have E1 := box (hE.out.fresh BW.out.1)
              have hlen : s.ks.length < 1000 := by have e := hS.out.len; have f := INV.out.tw; omega
              have OF := offer_any (some ⟨wr.heap.size, 0, none⟩) 2 cp [A, D] rfl (fun h => by cases h) B (fun q => 2 ≤ O q) g v s wb (fun k hk => (E1.out.tags k (by show O k ≠ 0; have hk : 2 ≤ O k := hk; omega)).2) E1.out.snd.x hlen BW.out.2
              have HAT := box (show st.A ≤ st.T from by have f := INV.out; have := f.ar; have := f.rh; have := f.ht; omega)
              have SO := box (fun (a' : Option Addr) (c' : Nat) => hS.out.off HAT.out ⟨a', [A, D], c'⟩ (by rw [HT1.out]; exact HDAT.out.symm))
              by_cases hw : st.T - st.A < p.W
              · have hoc : offC s [A, D] = 0 := (SO.out none 0).2.2 hw
                have HTN := box (show (Talk.offer p.W st).T = T1 + 1 from by unfold Talk.offer; rw [if_pos hw]; show st.T + 1 = _; rw [HT1.out])
                rw [hoc] at OF
                have OF2 := box OF
                clear OF hw hoc hlen ea eb ec cvb hA2 hD2 hsa hsd
                refine OF2.out.mono ?_
                rintro e w6 ⟨v6, a6, c6, rfl, x6, st6⟩
                have E6 := box (E1.out.sender x6 st6)
                have S6 := box (SO.out a6 c6).1
                clear x6 st6 OF2 SO
                have kA : Below w6.heap.size w6 (w6.alloc (.cells #[.string (strOf [A, D])] 9)) := (Below.refl _ _).alloc (Nat.le_refl _) _
                have E7 := box (E6.out.fresh kA)
                have N7 := box (show ∀ j u, ([Value.string (strOf [A, D])] : List Value)[j]? = some u → (w6.alloc (.cells #[.string (strOf [A, D])] 9)).cell? ((⟨w6.heap.size, 0, none⟩ : Addr).add j) = some u from fun j u hu => by
                  rw [add_off]
                  refine (World.cell?_alloc_mark w6 #[.string (strOf [A, D])] 9 (0, 0) j).trans ?_
                  rw [← hu]
                  rcases j with _ | j <;> rfl)
                have ROW7 := box E7.out.off.row
                have HB7 := box E7.out.hB
                have SS := box (show strs T1 ++ [Value.string (strOf [A, D])] = strs (T1 + 1) from by unfold strs; rw [List.range_succ, List.map_append, ← HDAT.out]; rfl)
                clear kA
                go_wp2_with (at_builtin; refine wpList_append_own_at (o := ⟨some 86, _, _, _, _, _⟩) (w6.alloc (.cells #[.string (strOf [A, D])] 9)) rfl (.tmp 83) (.tmp 85) 54 rfl B 9 i9 z9 1 16 Try.underlying54 hi9 hz9 hs9 hb9 hc9 (by decide) (.slice a4 T1 c4) T1 (strs T1) rfl ROW7.out ⟨w6.heap.size, 0, none⟩ 1 1 [.string (strOf [A, D])] rfl rfl N7.out (fun u hu => by simp at hu; subst hu; rfl) (by unfold maxLen; omega) (by omega) HB7.out ?_; intro v8 w8 h8 g8 _ f8)
                have E8 := box (E7.out.offered g8 (by rw [← SS.out]; exact h8) f8)
                rw [← HTN.out] at E8
                clear h8 g8 f8
                go_roundw
                case rel =>
                  refine ⟨j + 1, _, v6, _, by omega, ?_, by rw [NXT.out]; exact S6, by rw [NXT.out]; exact E8⟩
                  first | go_num | (simp; omega) | (simp; done)
                case measure => simp [intOf]; omega
              · have hoc : offC s [A, D] ≠ 0 := fun h => hw ((SO.out none 0).2.1 h)
                have HTN := box (show Talk.offer p.W st = st from by unfold Talk.offer; rw [if_neg hw])
                obtain ⟨cd, hcd⟩ : ∃ cd, offC s [A, D] = cd := ⟨_, rfl⟩
                rw [hcd] at OF hoc
                have OF2 := box OF
                have bcd : (cd == 0) = false := by simp [hoc]
                clear OF hw hcd hoc hlen ea eb ec cvb hA2 hD2 hsa hsd
                refine OF2.out.mono ?_
                rintro e w6 ⟨v6, a6, c6, rfl, x6, st6⟩
                have E6 := box (E1.out.sender x6 st6)
                have S6 := box (SO.out a6 c6).1
                rw [HTN.out] at S6 NXT
                rw [← HT1.out] at E6
                clear x6 st6 OF2 SO
                go_wp2_with fail
                go_roundw
                case rel =>
                  rw [HT1.out] at E6
                  refine ⟨j + 1, _, v6, _, by omega, ?_, by rw [NXT.out]; exact S6, by rw [NXT.out, HT1.out]; exact E6⟩
                  first | go_num | (simp; omega) | (simp; done)
                case measure => simp [intOf]; omega
            · have hjq2 : j = q := by omega
              have FIN := box (show ∃ (O : Nat → Nat) (v : Value) (s : Rs), Box (Snd p.W p.τ (Talk.offers p.W (Talk.run p t).s (p.o t)) s) ∧ Box (Env B w1 g gr gt gb xb cs O wr v s (Talk.run p t).s.R vt ((Talk.lastD p.d (Talk.run p t).ht).map (List.map mT)) vb ((Talk.lastD p.d (Talk.run p t).hb).map (List.map mB)) (.slice a4 (Talk.offers p.W (Talk.run p t).s j).T c4) (Talk.offers p.W (Talk.run p t).s (p.o t)).T (.slice aa (Talk.run p t).s.R ca) (Talk.run p t).s.R) from ⟨O, v, s, by rw [HOQ.out, ← hjq2]; exact hS, by rw [HOQ.out, ← hjq2]; exact hE⟩)
              clear hjq2
              go_wp2_with fail
              go_meet
              exact FIN.out
        · have hoz : p.o t = 0 := by rw [HO.out, if_neg hl]
          have hd : decide ((t : Int) < (l1 : Int)) = false := decide_eq_false (by omega)
          have FIN := box (show ∃ (O : Nat → Nat) (v : Value) (s : Rs), Box (Snd p.W p.τ (Talk.offers p.W (Talk.run p t).s (p.o t)) s) ∧ Box (Env B w1 g gr gt gb xb cs O wr v s (Talk.run p t).s.R vt ((Talk.lastD p.d (Talk.run p t).ht).map (List.map mT)) vb ((Talk.lastD p.d (Talk.run p t).hb).map (List.map mB)) (.slice ao (Talk.run p t).s.T co) (Talk.offers p.W (Talk.run p t).s (p.o t)).T (.slice aa (Talk.run p t).s.R ca) (Talk.run p t).s.R) from ⟨O, v, s, by rw [hoz]; exact hS, by rw [hoz]; exact hE⟩)
          clear hoz
          go_wp2_with fail
          go_meet
          exact FIN.out
      case rest =>
        obtain ⟨O, v, s, hS, hE⟩ := hcut
        obtain ⟨a4, c4, rfl⟩ := hE.out.off.len
        have INV := box ((Talk.run_ok p t).offers (p.o t))
        have HSS := box (show (Talk.offers p.W (Talk.run p t).s (p.o t)).S < p.τ from by rw [Talk.offers_S]; exact Talk.run_S p h3 t)
        have HO3 : p.o t ≤ 3 := by
          rw [HO.out t]
          split <;> omega
        have HTT := box (show (Talk.offers p.W (Talk.run p t).s (p.o t)).T ≤ 4700 from by have h := Talk.offers_T p.W (Talk.run p t).s (p.o t); have := TB.out; omega)
        clear HO3
        have MID := box (show Talk.mid p t = Talk.tick p.τ (Talk.offers p.W (Talk.run p t).s (p.o t)) from rfl)
        obtain ⟨T1, hT1⟩ : ∃ T1, (Talk.offers p.W (Talk.run p t).s (p.o t)).T = T1 := ⟨_, rfl⟩
        have HT1 := box hT1
        rw [hT1] at hE HTT ⊢
        obtain ⟨R0, hR0⟩ : ∃ R0, (Talk.run p t).s.R = R0 := ⟨_, rfl⟩
        have HR0 := box hR0
        rw [hR0] at hE ⊢
        generalize Talk.offers p.W (Talk.run p t).s (p.o t) = st0 at hS INV HSS MID HT1
        clear hT1 hR0 I1w x2 x3 x4 x5 x6
        have OK := box (hS.out.ok INV.out h1 (by omega) h3 (by omega) HSS.out)
        have TK := ptick_any B (fun q => 2 ≤ O q) g v s _ hE.out.snd.x OK.out (by have e := hS.out.ac; have f := INV.out; have := f.ar; have := f.rh; have := f.ht; have := HTT.out; have := HT1.out; omega)
        obtain ⟨S2, hso, hsx⟩ := hS.out.tick INV.out
        rw [← MID.out] at S2 hso hsx
        have S2B := box S2
        rw [hso] at TK
        obtain ⟨tn, htn⟩ : ∃ tn, tickN s = tn := ⟨_, rfl⟩
        obtain ⟨tx, htx⟩ : ∃ tx, tickX s = tx := ⟨_, rfl⟩
        obtain ⟨ti, hti⟩ : ∃ ti, (Talk.mid p t).2.isSome = ti := ⟨_, rfl⟩
        rw [htn, htx, hti] at TK
        rw [htn, htx] at hsx
        have TK2 := box TK
        have SX := box hsx
        have HTI := box hti
        clear TK S2 hso hsx OK htn htx hti
        go_wp2_with fail
        refine TK2.out.mono ?_
        rintro e w6 ⟨a6, c6, rfl, o6, x6, st6⟩
        have E6 := box (hE.out.sender x6 st6)
        have O6 := box o6
        clear x6 st6 o6 TK2
        generalize tickS s = s6 at S2B E6
        generalize upd O v.ownBlock 1 = O6' at E6
        go_upto_if 94 with fail
        go_cut [14] (fun t14 wx => ∃ (O : Nat → Nat) (lx : List It), Box (Env B w1 g gr gt gb xb cs O wx v s6 R0 vt ((Talk.lastD p.d (Talk.run p t).ht).map (List.map mT)) vb ((Talk.lastD p.d (Talk.run p t).hb).map (List.map mB)) (.slice a4 T1 c4) T1 (.slice aa R0 ca) R0) ∧ Box (EntIn O wx t14 lx) ∧ Box (lx.length ≤ 1 ∧ rep (p.n t) lx = (Talk.out (Talk.mid p t).1 (Talk.mid p t).2 (p.n t)).map mT))
        case first =>
          rcases hmi : (Talk.mid p t).2 with _ | i
          · have FIN := box (show ∃ (O : Nat → Nat) (lx : List It), Box (Env B w1 g gr gt gb xb cs O w6 v s6 R0 vt ((Talk.lastD p.d (Talk.run p t).ht).map (List.map mT)) vb ((Talk.lastD p.d (Talk.run p t).hb).map (List.map mB)) (.slice a4 T1 c4) T1 (.slice aa R0 ca) R0) ∧ Box (EntIn O w6 (.slice none 0 0) lx) ∧ Box (lx.length ≤ 1 ∧ rep (p.n t) lx = (Talk.out (Talk.mid p t).1 (Talk.mid p t).2 (p.n t)).map mT) from ⟨O6', [], E6, box ⟨none, 0, rfl, fun _ => rfl, .inl rfl⟩, box ⟨Nat.zero_le _, by rw [rep_nil, hmi]; rfl⟩⟩)
            have hti2 : ti = false := by rw [← HTI.out, hmi]; rfl
            subst hti2
            clear E6 O6 S2B SX MID hmi HTI
            go_wp2_with fail
            go_meet
            exact FIN.out
          · obtain ⟨f1, f2⟩ := SX.out i hmi
            have hti2 : ti = true := by rw [← HTI.out, hmi]; rfl
            subst hti2
            obtain ⟨a', c', he, hin, -, -, -⟩ := own_any O6.out
            cases he
            have cv := conv_any (c := c6) (n := tx.length) rfl hin
            have kA : Below w6.heap.size w6 (w6.alloc (.cells #[.int .i64 (tn : Int), .string (strOf tx)] 78)) := (Below.refl _ _).alloc (Nat.le_refl _) _
            have E7 := box (E6.out.fresh kA)
            have q := World.cell?_alloc_mark w6 #[.int .i64 (tn : Int), .string (strOf tx)] 78 (0, 0)
            have FIN := box (show ∃ (O : Nat → Nat) (lx : List It), Box (Env B w1 g gr gt gb xb cs O (w6.alloc (.cells #[.int .i64 (tn : Int), .string (strOf tx)] 78)) v s6 R0 vt ((Talk.lastD p.d (Talk.run p t).ht).map (List.map mT)) vb ((Talk.lastD p.d (Talk.run p t).hb).map (List.map mB)) (.slice a4 T1 c4) T1 (.slice aa R0 ca) R0) ∧ Box (EntIn O (w6.alloc (.cells #[.int .i64 (tn : Int), .string (strOf tx)] 78)) (.slice (some ⟨w6.heap.size, 0, none⟩) 1 1) lx) ∧ Box (lx.length ≤ 1 ∧ rep (p.n t) lx = (Talk.out (Talk.mid p t).1 (Talk.mid p t).2 (p.n t)).map mT) from
              ⟨O6', [(tn, strOf tx)], E7, box ⟨_, 1, rfl, (fun h => by cases h), .inr ⟨w6.heap.size, 0, rfl, Classical.byContradiction (fun hn => by have := (E6.out.tags _ hn).2; omega), by rw [size_alloc']; omega, fun j hj => by
                obtain rfl : j = 0 := by simpa using hj
                exact ⟨q 0, q 1⟩⟩⟩, box ⟨Nat.le_refl _, by rw [hmi, f1, f2]; exact (rep_map mT (p.n t) (i, (Talk.mid p t).1.H)).symm⟩⟩)
            clear E6 O6 S2B SX MID E7 kA q hin f1 f2 hmi HTI
            go_wp2_with fail
            go_meet
            exact FIN.out
        case rest =>
          clear hE hS TB
          obtain ⟨O, lx, hE, hEN, hlx⟩ := hcut
          obtain ⟨x2, x3, x4, x5, x6⟩ := HFX.out _ _ hE.out.fix
          have x2d : wc.drew.cell? ⟨xb, 2, none⟩ = some (.int .i64 p.d) := x2
          have x4d : wc.drew.cell? ⟨xb, 4, none⟩ = some (.slice a2 l2 c2) := x4
          clear x3 x5 x6
          go_upto_region 21 with fail
          refine wp_region_held_drew (S := (fun w' => w'.cell? ⟨xb, 2, none⟩ = some (.int .i64 p.d) ∧ w'.cell? ⟨xb, 4, none⟩ = some (.slice a2 l2 c2))) (by kernel_rfl) (⟨x2d, x4d⟩) (fun hHeld => ?_)
          clear x2 x4 x2d x4d
          have kD : Below wc.heap.size wc wc.drew := (Below.refl _ _).drew
          have E7 := box (hE.out.fresh kD)
          have EN7 := box (hEN.out.frame (Stp.fresh 99 hE.out.tags kD) (by decide))
          clear kD
          generalize wc.drew = wd at E7 EN7 hHeld ⊢
          obtain ⟨x2, x3, x4, x5, x6⟩ := HFX.out _ _ E7.out.fix
          have TMq := times_any a2 l2 c2 xs2 HL2.out HX2.out t wd (inB I2.out E7.out.bel HBB.out.2)
          rw [← HN.out t] at TMq
          replace TMq := box TMq
          have CRq := carry_any B 3 (by decide) (by decide) O wd gt vt _ p.d u14 lx (p.n t) E7.out.thr (by rw [List.length_map, Talk.lastD_len]; omega) H5.out EN7.out hlx.out.1 (by rw [HN.out t]; exact tmN_le _ _) E7.out.tags E7.out.hB
          rw [hlx.out.2, (Talk.last_push mT p.d (Talk.run p t).ht _).1, (Talk.last_push mT p.d (Talk.run p t).ht _).2, ← Talk.run_ht] at CRq
          replace CRq := box CRq
          refine wpAnyH_take (i := 0) (oi := { dst := some 100, op := Go.Op.fieldAddr 52 (Go.Operand.tmp 2) 2, type := 0, pos := "law.go:177", after := #[], guard := none }) (v := ?_) rfl (by kernel_rfl) (by kernel_rfl) (by kernel_rfl) (fun _ _ _ h => h) (Or.inl ⟨by rfl, ?_⟩) (by assumption) ?_
          rotate_left
          · (intro w hSw; (try dsimp only at hSw); go_simp; (try with_reducible rfl))
          simp only [Act.put, List.setIfInBounds_toArray, List.set_cons_zero, List.set_cons_succ]
          refine wpAnyH_take (i := 1) (oi := { dst := some 101, op := Go.Op.load 3 (Go.Operand.tmp 100), type := 3, pos := "law.go:177", after := #[{ on := 0, ground := Go.Ground.data }], guard := none }) (v := ?_) rfl (by kernel_rfl) (by kernel_rfl) (by kernel_rfl) (fun _ _ _ h => h) (Or.inl ⟨by rfl, ?_⟩) (by assumption) ?_
          rotate_left
          · (intro w hSw; (try dsimp only at hSw); go_simp; (try with_reducible rfl))
          simp only [Act.put, List.setIfInBounds_toArray, List.set_cons_zero, List.set_cons_succ]
          refine wpAnyH_take (i := 2) (oi := { dst := some 102, op := Go.Op.move (Go.Operand.tmp 14), type := 76, pos := "law.go:177", after := #[], guard := none }) (v := ?_) rfl (by kernel_rfl) (by kernel_rfl) (by kernel_rfl) (fun _ _ _ h => h) (Or.inl ⟨by rfl, ?_⟩) (by assumption) ?_
          rotate_left
          · (intro w hSw; (try dsimp only at hSw); go_simp; (try with_reducible rfl))
          simp only [Act.put, List.setIfInBounds_toArray, List.set_cons_zero, List.set_cons_succ]
          refine wpAnyH_take (i := 3) (oi := { dst := some 103, op := Go.Op.fieldAddr 52 (Go.Operand.tmp 2) 4, type := 0, pos := "law.go:177", after := #[], guard := none }) (v := ?_) rfl (by kernel_rfl) (by kernel_rfl) (by kernel_rfl) (fun _ _ _ h => h) (Or.inl ⟨by rfl, ?_⟩) (by assumption) ?_
          rotate_left
          · (intro w hSw; (try dsimp only at hSw); go_simp; (try with_reducible rfl))
          simp only [Act.put, List.setIfInBounds_toArray, List.set_cons_zero, List.set_cons_succ]
          refine wpAnyH_take (i := 4) (oi := { dst := some 104, op := Go.Op.load 32 (Go.Operand.tmp 103), type := 32, pos := "law.go:177", after := #[{ on := 3, ground := Go.Ground.data }], guard := none }) (v := ?_) rfl (by kernel_rfl) (by kernel_rfl) (by kernel_rfl) (fun _ _ _ h => h) (Or.inl ⟨by rfl, ?_⟩) (by assumption) ?_
          rotate_left
          · (intro w hSw; (try dsimp only at hSw); go_simp; (try with_reducible rfl))
          simp only [Act.put, List.setIfInBounds_toArray, List.set_cons_zero, List.set_cons_succ]
          refine wpAnyH_take (i := 5) (oi := { dst := some 105, op := Go.Op.move (Go.Operand.tmp 12), type := 3, pos := "law.go:177", after := #[], guard := none }) (v := ?_) rfl (by kernel_rfl) (by kernel_rfl) (by kernel_rfl) (fun _ _ _ h => h) (Or.inl ⟨by rfl, ?_⟩) (by assumption) ?_
          rotate_left
          · (intro w hSw; (try dsimp only at hSw); go_simp; (try with_reducible rfl))
          simp only [Act.put, List.setIfInBounds_toArray, List.set_cons_zero, List.set_cons_succ]
          refine wpAnyH_take (i := 9) (oi := { dst := some 109, op := Go.Op.move (Go.Operand.const (Go.Value.int Go.IntKind.i64 0)), type := 3, pos := "law.go:177", after := #[], guard := none }) (v := ?_) rfl (by kernel_rfl) (by kernel_rfl) (by kernel_rfl) (fun _ _ _ h => h) (Or.inl ⟨by rfl, ?_⟩) (by assumption) ?_
          rotate_left
          · (intro w hSw; (try dsimp only at hSw); go_simp; (try with_reducible rfl))
          simp only [Act.put, List.setIfInBounds_toArray, List.set_cons_zero, List.set_cons_succ]
          refine wpAnyH_ready (rs := [6]) (by kernel_rfl) (by simp) ?_
          refine (AllReadyH.cons (o := { dst := some 106, op := Go.Op.call { callee := Go.Callee.value (Go.Operand.func 38), args := #[Go.Operand.tmp 104, Go.Operand.tmp 105], argTypes := #[32, 3] }, type := 3, pos := "law.go:177", after := #[{ on := 4, ground := Go.Ground.data }, { on := 5, ground := Go.Ground.data }], guard := none }) rfl (fun K hK => ?_) AllReadyH.nil)
          go_simp
          refine TMq.out.mono ?_
          rintro e w8 ⟨rfl, hw8⟩
          subst hw8
          refine hK.out _ _ (⟨x2, x4⟩) (fun hHeldx => ?_)
          clear hK K
          refine wpAnyH_ready (rs := [7]) (by kernel_rfl) (by simp) ?_
          refine (AllReadyH.cons (o := { dst := some 107, op := Go.Op.call { callee := Go.Callee.value (Go.Operand.func 37), args := #[Go.Operand.tmp 10, Go.Operand.tmp 101, Go.Operand.tmp 102, Go.Operand.tmp 106], argTypes := #[75, 3, 76, 3] }, type := 76, pos := "law.go:177", after := #[{ on := 1, ground := Go.Ground.data }, { on := 2, ground := Go.Ground.data }, { on := 6, ground := Go.Ground.data }, { on := 6, ground := Go.Ground.chain }], guard := none }) rfl (fun K hK => ?_) AllReadyH.nil)
          go_simp
          refine CRq.out.mono ?_
          rintro e w8 ⟨vout, vt8, O8, rfl, st8, wt8, en8⟩
          obtain ⟨av, cv8, rfl, hvn, hvi⟩ := en8
          have E8 := box (E7.out.wireT st8 wt8)
          have EN8 := box (show EntIn O8 w8 (.slice av _ cv8) _ from ⟨av, cv8, rfl, hvn, hvi⟩)
          obtain ⟨x2b, x3b, x4b, x5b, x6b⟩ := HFX.out _ _ E8.out.fix
          clear st8 wt8 hvn hvi
          refine hK.out _ _ (⟨x2b, x4b⟩) (fun hHeldx => ?_)
          clear hK K
          refine wpAnyH_take (i := 8) (oi := { dst := some 108, op := Go.Op.call { callee := Go.Callee.builtin Go.Builtin.len, args := #[Go.Operand.tmp 107], argTypes := #[76] }, type := 3, pos := "law.go:177", after := #[{ on := 7, ground := Go.Ground.data }], guard := none }) (v := ?_) rfl (by kernel_rfl) (by kernel_rfl) (by kernel_rfl) (fun _ _ _ h => h) (Or.inl ⟨by rfl, ?_⟩) (by assumption) ?_
          rotate_left
          · (intro w hSw; (try dsimp only at hSw); go_simp; (try with_reducible rfl))
          simp only [Act.put, List.setIfInBounds_toArray, List.set_cons_zero, List.set_cons_succ]
          refine wpAnyH_done (by kernel_rfl) ?_ _
          clear x2 x3 x4 x5 x6 x2b x3b x4b x5b x6b EN7 E7 TMq CRq
          have MR := box (show (Talk.there p t 0).1.R = R0 ∧ (Talk.there p t 0).2 = false from ⟨by rw [Talk.there_zero]; show (Talk.mid p t).1.R = R0; rw [← HR0.out]; unfold Talk.mid; rw [(Talk.tick_same _ _).2.2, (Talk.offers_same _ _ _).2.1], by rw [Talk.there_zero]⟩)
          obtain ⟨pl, hpl⟩ : ∃ pl, Talk.pop p.d (Talk.run p (t + 1)).ht = pl := ⟨_, rfl⟩
          have HPL := box hpl
          rw [hpl] at EN8 ⊢
          clear hpl
          obtain ⟨m1, hm1⟩ : ∃ m1, (List.map mT pl).length = m1 := ⟨_, rfl⟩
          have HM1 := box (show pl.length = m1 from by rw [← hm1, List.length_map])
          have hm2 : m1 ≤ 2 := by rw [← HM1.out, ← HPL.out]; exact Talk.popT_len p t (fun q => by rw [HN.out q]; exact tmN_le _ _)
          rw [hm1] at EN8 ⊢
          (try rw [HM1.out])
          clear hm1
          go_wp2_with fail
          go_loopw [5, 18, 109] (fun t5 t18 t109 wx => ∃ (j : Nat) (O : Nat → Nat), j ≤ m1 ∧ t109 = .int .i64 j ∧ t18 = .bool (Talk.there p t j).2 ∧ Box (Env B w1 g gr gt gb xb cs O wx v s6 (Talk.there p t j).1.R vt8 ((Talk.lastD p.d (Talk.run p (t + 1)).ht).map (List.map mT)) vb ((Talk.lastD p.d (Talk.run p t).hb).map (List.map mB)) (.slice a4 T1 c4) T1 t5 (Talk.there p t j).1.R) ∧ Box (EntIn O wx (.slice av m1 cv8) (pl.map mT))) (fun _ _ t109 _ => m1 - (intOf t109).toNat)
          case atStart => exact ⟨0, O8, by omega, rfl, by rw [MR.out.2], by rw [MR.out.1]; exact E8, EN8⟩
          case round =>
            clear hE hEN E8 EN8
            obtain ⟨j, O, hj, rfl, rfl, hE, hEN⟩ := hrel
            obtain ⟨a5, c5, rfl⟩ := hE.out.acc.len
            by_cases hjm : j < m1
            · have hjp : j < (Talk.pop p.d (Talk.run p (t + 1)).ht).length := by rw [HPL.out, HM1.out]; exact hjm
              have NUM := Talk.there_number p t j (by omega) hjp
              have NXT := box (Talk.there_succ p t j hjp)
              have IV := Talk.there_inv p t j
              simp only [HPL.out] at NUM NXT
              obtain ⟨k, hk⟩ : ∃ k, (pl[j]'(by rw [HM1.out]; exact hjm)) = k := ⟨_, rfl⟩
              rw [hk] at NUM NXT
              obtain ⟨hb, hi, hc', hav, hbo, hbl, hcell⟩ := (show EntIn O _ (.slice av (pl.map mT).length cv8) (pl.map mT) by rw [List.length_map, HM1.out]; exact hEN.out).cells (fun e => by have h := congrArg List.length e; rw [List.length_map, HM1.out] at h; simp at h; omega)
              injection hav with hav _ _hcv
              clear _hcv
              subst hav
              have hcj := itCells_at (pl.map mT) j (by rw [List.length_map, HM1.out]; exact hjm)
              have y0 := hcell _ _ hcj.1
              have y1 := hcell _ _ hcj.2
              rw [add_at] at y0 y1
              rw [← Nat.add_assoc] at y1
              simp only [List.getElem_map, hk, mT] at y0 y1
              have THT := box (show (Talk.there p t j).1.T = T1 from by unfold Talk.there; rw [(Talk.recvs_same _ _).2.2.2.2.1]; show (Talk.mid p t).1.T = T1; rw [MID.out, (Talk.tick_same _ _).2.1, HT1.out])
              have RB := box (show (Talk.there p t j).1.R ≤ 4700 from by have := IV.rh; have := IV.ht; have := THT.out; have := HTT.out; omega)
              clear IV hcj hcell hk hjp THT
              obtain ⟨kn, hkn⟩ : ∃ kn, k.1 = kn := ⟨_, rfl⟩
              have NXT2 := box (show Talk.there p t (j + 1) = if kn = (Talk.there p t j).1.R then ({ (Talk.there p t j).1 with R := (Talk.there p t j).1.R + 1 }, (Talk.there p t j).2) else ((Talk.there p t j).1, true) from by rw [NXT.out, ← hkn]; rfl)
              rw [hkn] at y0 y1 NUM
              clear hkn NXT
              obtain ⟨th, hth⟩ : ∃ th, Talk.there p t j = th := ⟨_, rfl⟩
              rw [hth] at hE NUM NXT2 RB ⊢
              clear hth
              obtain ⟨Rj, hRj⟩ : ∃ Rj, th.1.R = Rj := ⟨_, rfl⟩
              rw [hRj] at hE NUM NXT2 RB ⊢
              have HRJ := box hRj
              clear hRj
              obtain ⟨bj, hbj⟩ : ∃ bj, th.2 = bj := ⟨_, rfl⟩
              rw [hbj] at NXT2 ⊢
              clear hbj
              obtain ⟨kid, hkid⟩ : ∃ kid, kn % 256 = kid := ⟨_, rfl⟩
              rw [hkid] at y0 NUM
              have RB2 : Rj ≤ 4700 := RB.out
              have NUM2 := box (show ((kid : Int) = (Rj : Int) % 256 ↔ kn = Rj) from by rw [← NUM]; omega)
              clear hkid NUM
              have kA : Below wr.heap.size wr (wr.alloc (.cells #[.int .i64 (kid : Int), .string (strOf (dat kn))] 78)) := (Below.refl _ _).alloc (Nat.le_refl _) _
              have E1 := box (hE.out.fresh kA)
              have EN1 := box (hEN.out.frame (Stp.fresh 99 hE.out.tags kA) (by decide))
              obtain ⟨mm, hmm⟩ : ∃ mm, wr.heap.size = mm := ⟨_, rfl⟩
              have q0 : (wr.alloc (.cells #[.int .i64 (kid : Int), .string (strOf (dat kn))] 78)).cell? ⟨mm, 0, none⟩ = some (.int .i64 (kid : Int)) := by rw [← hmm]; exact World.cell?_alloc_mark wr #[.int .i64 (kid : Int), .string (strOf (dat kn))] _ (0, 0) 0
              have q1 : (wr.alloc (.cells #[.int .i64 (kid : Int), .string (strOf (dat kn))] 78)).cell? ⟨mm, 1, none⟩ = some (.string (strOf (dat kn))) := by rw [← hmm]; exact World.cell?_alloc_mark wr #[.int .i64 (kid : Int), .string (strOf (dat kn))] _ (0, 0) 1
              have hsz : (strOf (dat kn)).size = 2 := strOf_size _
              have cvb := fun w : World => Lib.run_convert_string_bytes (P := Try.prog) w 9 32 5 (strOf (dat kn)) Try.underlying9 Try.underlying32 Try.underlying5
              clear kA
              go_upto_region 24 with fail
              generalize wr.alloc (.cells #[.int .i64 (kid : Int), .string (strOf (dat kn))] 78) = wa at E1 EN1 q0 q1 ⊢
              clear hE hEN y0 y1 hmm hbo hbl
              have BW := box (bytes_new wa (dat kn) (dat_lt kn))
              have hWA := box (show gr < wa.heap.size from World.block_lt_of_cell? wa ⟨gr, 0, none⟩ E1.out.rcv.x.q)
              go_wp2_with fail
              generalize Lib.bytesWorld wa 5 (strOf (dat kn)) = wb at BW ⊢
              generalize grownCap wa 2 0 5 = cp
              have E2 := box (E1.out.fresh BW.out.1)
              have EN2 := box (EN1.out.frame (Stp.fresh 99 E1.out.tags BW.out.1) (by decide))
              have RC := receive_any (kid : Int) (some ⟨wa.heap.size, 0, none⟩) 2 cp (dat kn) rfl (by decide) (fun h => by cases h) gr Rj wb BW.out.2 (fun _ q hq e => by cases hq; have := hWA.out; have e : wa.heap.size = gr := e; omega) E2.out.rcv.x (by omega)
              clear hsz cvb q0 q1 E1 EN1
              by_cases hac : kn = Rj
              · subst hac
                have hx : (kid : Int) = (kn : Int) % 256 := NUM2.out.2 rfl
                have hX1 : rcvX kn (kid : Int) (dat kn) = dat kn := by unfold rcvX; rw [if_pos hx]
                have hX2 : rcvR kn (kid : Int) = kn + 1 := by unfold rcvR; rw [if_pos hx]
                rw [hX1, hX2, decide_eq_true hx] at RC
                have RC2 := box RC
                have NX3 := box (show Talk.there p t (j + 1) = ({ th.1 with R := kn + 1 }, bj) from by rw [NXT2.out, if_pos rfl])
                clear RC hx hX1 hX2 NXT2 NUM2
                refine RC2.out.mono ?_
                rintro e w6 ⟨a6, c6, rfl, o6, y6, ap6⟩
                have E3 := box (E2.out.receiver y6 ap6)
                have EN3 := box (show EntIn O w6 (.slice (some ⟨hb, hi, none⟩) m1 cv8) (pl.map mT) from EN2.out.frame (c := 2) (B := B) (O' := O) ⟨ap6.os, ap6.tape, ap6.output, ap6.size, fun k hk ho => ap6.block k hk (fun e => ho (by rw [e]; exact E2.out.rcv.og)) (fun e => by cases e), fun _ _ => rfl, E3.out.tags⟩ (by decide))
                obtain ⟨a', c', he, hin, -, -, -⟩ := own_any o6
                cases he
                have cv := conv_any (c := c6) (n := (dat kn).length) rfl hin
                have kA : Below w6.heap.size w6 (w6.alloc (.cells #[.string (strOf (dat kn))] 9)) := (Below.refl _ _).alloc (Nat.le_refl _) _
                have E7 := box (E3.out.fresh kA)
                have EN7 := box (EN3.out.frame (Stp.fresh 99 E3.out.tags kA) (by decide))
                have N7 := box (show ∀ j u, ([Value.string (strOf (dat kn))] : List Value)[j]? = some u → (w6.alloc (.cells #[.string (strOf (dat kn))] 9)).cell? ((⟨w6.heap.size, 0, none⟩ : Addr).add j) = some u from fun j u hu => by
                  rw [add_off]
                  refine (World.cell?_alloc_mark w6 #[.string (strOf (dat kn))] 9 (0, 0) j).trans ?_
                  rw [← hu]
                  rcases j with _ | j <;> rfl)
                have ROW7 := box E7.out.acc.row
                have HB7 := box E7.out.hB
                have SS := box (show strs kn ++ [Value.string (strOf (dat kn))] = strs (kn + 1) from by unfold strs; rw [List.range_succ, List.map_append]; rfl)
                clear kA o6 y6 ap6 hin RC2 E2 EN2
                go_wp2_with (at_builtin; refine wpList_append_own_at (o := ⟨some 128, _, _, _, _, _⟩) (w6.alloc (.cells #[.string (strOf (dat kn))] 9)) rfl (.tmp 124) (.tmp 127) 54 rfl B 9 i9 z9 1 16 Try.underlying54 hi9 hz9 hs9 hb9 hc9 (by decide) (.slice a5 kn c5) kn (strs kn) rfl ROW7.out ⟨w6.heap.size, 0, none⟩ 1 1 [.string (strOf (dat kn))] rfl rfl N7.out (fun u hu => by simp at hu; subst hu; rfl) (by unfold maxLen; omega) (by omega) HB7.out ?_; intro v8 w8 h8 g8 _ f8)
                have E8 := box (E7.out.accepted g8 (by rw [← SS.out]; exact h8) f8)
                have EN8 := box (show EntIn (upd O v8.ownBlock 6) w8 (.slice (some ⟨hb, hi, none⟩) m1 cv8) (pl.map mT) from EN7.out.frame (E7.out.acc.grow E7.out.tags g8 (by rw [← SS.out]; exact h8) f8).1 (by decide))
                clear h8 g8 f8 cv
                go_roundw
                case rel => exact ⟨j + 1, _, by omega, by go_num, by rw [NX3.out], by rw [NX3.out]; exact E8, EN8⟩
                case measure => simp [intOf]; omega
              · have hx : ¬ (kid : Int) = (Rj : Int) % 256 := fun h => hac (NUM2.out.1 h)
                have hX1 : rcvX Rj (kid : Int) (dat kn) = [] := by unfold rcvX; rw [if_neg hx]
                have hX2 : rcvR Rj (kid : Int) = Rj := by unfold rcvR; rw [if_neg hx]
                rw [hX1, hX2, decide_eq_false hx] at RC
                have RC2 := box RC
                have NX3 := box (show Talk.there p t (j + 1) = (th.1, true) from by rw [NXT2.out, if_neg hac])
                clear RC hx hX1 hX2 NXT2 NUM2 hac
                refine RC2.out.mono ?_
                rintro e w6 ⟨a6, c6, rfl, -, y6, ap6⟩
                have E3 := box (E2.out.receiver y6 ap6)
                have EN3 := box (show EntIn O w6 (.slice (some ⟨hb, hi, none⟩) m1 cv8) (pl.map mT) from EN2.out.frame (c := 2) (B := B) (O' := O) ⟨ap6.os, ap6.tape, ap6.output, ap6.size, fun k hk ho => ap6.block k hk (fun e => ho (by rw [e]; exact E2.out.rcv.og)) (fun e => by cases e), fun _ _ => rfl, E3.out.tags⟩ (by decide))
                clear y6 ap6 RC2 E2 EN2
                go_wp2_with fail
                go_roundw
                case rel => exact ⟨j + 1, _, by omega, by go_num, by rw [NX3.out], by rw [NX3.out]; show Box (Env B w1 g gr gt gb xb cs O w6 v s6 th.1.R vt8 ((Talk.lastD p.d (Talk.run p (t + 1)).ht).map (List.map mT)) vb ((Talk.lastD p.d (Talk.run p t).hb).map (List.map mB)) (.slice a4 T1 c4) T1 (.slice a5 Rj c5) th.1.R); rw [HRJ.out]; exact E3, EN3⟩
                case measure => simp [intOf]; omega
            · have hjm1 : j = m1 := by omega
              have HG := box (show Talk.there p t j = Talk.got p t from by rw [hjm1, ← HM1.out, ← HPL.out]; exact Talk.there_end p t)
              rw [HG.out] at hE ⊢
              clear hjm1 HG
              have GI := Talk.there_inv p t (Talk.pop p.d (Talk.run p (t + 1)).ht).length
              rw [Talk.there_end] at GI
              have GT := box (show (Talk.got p t).1.T = T1 from by have h := Talk.there_T p t (Talk.pop p.d (Talk.run p (t + 1)).ht).length; rw [Talk.there_end] at h; rw [h, ← HT1.out]; have e := Talk.tick_same p.τ st0; rw [← MID.out] at e; rw [← e.2.1]; unfold Talk.mid; exact ((Talk.tick_same _ _).2.1).symm)
              have GRT := box (show (Talk.got p t).1.R ≤ T1 from by have := GI.rh; have := GI.ht; have := GT.out; omega)
              have GSND := box (show Snd p.W p.τ (Talk.got p t).1 s6 from by
                have e := Talk.recvs_same (Talk.pop p.d (Talk.run p (t + 1)).ht) ((Talk.mid p t).1, false)
                have e : (Talk.got p t).1.A = (Talk.mid p t).1.A ∧ (Talk.got p t).1.N = (Talk.mid p t).1.N ∧ (Talk.got p t).1.H = (Talk.mid p t).1.H ∧ (Talk.got p t).1.S = (Talk.mid p t).1.S ∧ (Talk.got p t).1.T = (Talk.mid p t).1.T ∧ _ := e
                obtain ⟨q1, q2, q3, q4, q5, q6, q7, q8⟩ := S2B.out
                exact ⟨q1, q2, by rw [e.1, e.2.2.2.2.1]; exact q3, fun k hk => by rw [e.1]; exact q4 k hk, by rw [e.1]; exact q5, by rw [e.1, e.2.1]; exact q6, by rw [e.1, e.2.2.1]; exact q7, by rw [e.2.2.2.1]; exact q8⟩)
              have BSAME := box (fun (q : Nat) => Talk.back_same p t q)
              have BZ := box (show Talk.back p t 0 = (Talk.got p t).1 from rfl)
              clear GI S2B
              obtain ⟨G, hG⟩ : ∃ G, Talk.got p t = G := ⟨_, rfl⟩
              have HGG := box hG
              rw [hG] at hE GT GRT GSND BZ ⊢
              clear hG
              obtain ⟨R2, hR2⟩ : ∃ R2, G.1.R = R2 := ⟨_, rfl⟩
              obtain ⟨b2, hb2⟩ : ∃ b2, G.2 = b2 := ⟨_, rfl⟩
              have HR2 := box hR2
              have HB2 := box hb2
              rw [hR2] at hE GRT ⊢
              rw [hb2]
              clear hR2 hb2
              have hRT : R2 ≤ T1 := GRT.out
              have hTT : T1 ≤ 4700 := HTT.out
              have EXP := box (expected_any gr R2 _ hE.out.rcv.x (by omega))
              obtain ⟨x2, x3, x4, x5, x6⟩ := HFX.out _ _ hE.out.fix
              go_wp2_with fail
              refine EXP.out.mono ?_
              rintro e w7 ⟨rfl, rfl⟩
              obtain ⟨mb, hmb⟩ : ∃ mb, wr.heap.size = mb := ⟨_, rfl⟩
              have kA : Below wr.heap.size wr (wr.alloc (.cells #[.int .i64 ((R2 : Int) % 256), .string ⟨#[]⟩] 78)) := (Below.refl _ _).alloc (Nat.le_refl _) _
              have q := World.cell?_alloc_mark wr #[.int .i64 ((R2 : Int) % 256), .string ⟨#[]⟩] 78 (0, 0)
              have O1 := box (show Stp B 99 O (upd O (some mb) 99) wr (wr.alloc (.cells #[.int .i64 ((R2 : Int) % 256), .string ⟨#[]⟩] 78)) from
                Stp.row (r := none) hE.out.tags kA.os kA.tape kA.output kA.size (fun k hk _ => kA.block k hk) (fun k hk => by cases hk) (fun k hk => .inr (by have := Option.some.inj hk; omega)) (fun k hk => by have h := Option.some.inj hk; have h2 := hE.out.hB; rw [size_alloc']; omega))
              have E1 := box (hE.out.other O1.out)
              have q0 : (wr.alloc (.cells #[.int .i64 ((R2 : Int) % 256), .string ⟨#[]⟩] 78)).cell? ⟨mb, 0, none⟩ = some (.int .i64 ((R2 : Int) % 256)) := by rw [← hmb]; exact q 0
              have q1 : (wr.alloc (.cells #[.int .i64 ((R2 : Int) % 256), .string ⟨#[]⟩] 78)).cell? ⟨mb, 1, none⟩ = some (.string ⟨#[]⟩) := by rw [← hmb]; exact q 1
              have qz : (wr.alloc (.cells #[.int .i64 ((R2 : Int) % 256), .string ⟨#[]⟩] 78)).frozen? ⟨mb, 1, none⟩ = false := by
                rw [← hmb]
                unfold World.frozen?
                have h : (wr.alloc (.cells #[.int .i64 ((R2 : Int) % 256), .string ⟨#[]⟩] 78)).heap[wr.heap.size]? = some (.cells #[.int .i64 ((R2 : Int) % 256), .string ⟨#[]⟩] 78) := by show (wr.heap.push _)[wr.heap.size]? = _; simp
                rw [show (⟨wr.heap.size, 1, none⟩ : Addr).block = wr.heap.size from rfl, h]
                simp
              have x6a : (wr.alloc (.cells #[.int .i64 ((R2 : Int) % 256), .string ⟨#[]⟩] 78)).cell? ⟨xb, 6, none⟩ = some (.bool nk) := keepa _ x6
              have OMB := box (show upd O (some mb) 99 mb = 99 from upd_at _ _ _ _ rfl)
              clear O1 q kA x2 x3 x4 x5 x6
              go_upto_region 30 with fail
              generalize wr.alloc (.cells #[.int .i64 ((R2 : Int) % 256), .string ⟨#[]⟩] 78) = wa at E1 q0 q1 qz x6a ⊢
              generalize upd O (some mb) 99 = O1 at E1 OMB
              clear hE hEN hmb
              go_cut [18, 137] (fun t18 t137 wx => t18 = .bool b2 ∧ t137 = .bool (b2 && nk) ∧ wx = wa)
              case first =>
                clear E1
                go_wp2_with fail
                all_goals
                  go_meet
                  refine ⟨?_, ?_, rfl⟩
                  · first | rfl | (simp [*]; done)
                  · first | rfl | (simp; done) | (simp [*]; done)
              case rest =>
                obtain ⟨rfl, rfl, hwx⟩ := hcut
                subst hwx
                obtain ⟨cc, hcc⟩ : ∃ cc, (b2 && nk) = cc := ⟨_, rfl⟩
                have HCC := box hcc
                rw [hcc]
                clear hcc
                obtain ⟨SN, hSN⟩ : ∃ SN : ByteArray, (if cc = true then NAK else ⟨#[]⟩) = SN := ⟨_, rfl⟩
                have HSN := box hSN
                clear hSN
                go_upto_if 137 with fail
                go_cut [137, 138] (fun _ _ wx => Box (Env B w1 g gr gt gb xb cs O1 wx v s6 R2 vt8 ((Talk.lastD p.d (Talk.run p (t + 1)).ht).map (List.map mT)) vb ((Talk.lastD p.d (Talk.run p t).hb).map (List.map mB)) (.slice a4 T1 c4) T1 (.slice a5 R2 c5) R2) ∧ Box (wx.cell? ⟨mb, 0, none⟩ = some (.int .i64 ((R2 : Int) % 256)) ∧ wx.cell? ⟨mb, 1, none⟩ = some (.string SN)))
                case first =>
                  have NO := box (fun (h : cc = false) => (show Box (Env B w1 g gr gt gb xb cs O1 wc v s6 R2 vt8 ((Talk.lastD p.d (Talk.run p (t + 1)).ht).map (List.map mT)) vb ((Talk.lastD p.d (Talk.run p t).hb).map (List.map mB)) (.slice a4 T1 c4) T1 (.slice a5 R2 c5) R2) ∧ Box (wc.cell? ⟨mb, 0, none⟩ = some (.int .i64 ((R2 : Int) % 256)) ∧ wc.cell? ⟨mb, 1, none⟩ = some (.string SN)) from ⟨E1, box ⟨q0, by rw [q1, ← HSN.out, h]; rfl⟩⟩))
                  have YES := box (fun (h : cc = true) => (show Box (Env B w1 g gr gt gb xb cs O1 (wc.setCell ⟨mb, 1, none⟩ (.string NAK)) v s6 R2 vt8 ((Talk.lastD p.d (Talk.run p (t + 1)).ht).map (List.map mT)) vb ((Talk.lastD p.d (Talk.run p t).hb).map (List.map mB)) (.slice a4 T1 c4) T1 (.slice a5 R2 c5) R2) ∧ Box ((wc.setCell ⟨mb, 1, none⟩ (.string NAK)).cell? ⟨mb, 0, none⟩ = some (.int .i64 ((R2 : Int) % 256)) ∧ (wc.setCell ⟨mb, 1, none⟩ (.string NAK)).cell? ⟨mb, 1, none⟩ = some (.string SN)) from ⟨box (E1.out.other (w' := World.setCell wc ⟨mb, 1, none⟩ (.string NAK)) ⟨rfl, rfl, rfl, by simp, fun k hk ho => oth_set (fun e => ho (by rw [e]; exact OMB.out)) _ _ _, fun _ _ => rfl, fun k hk => by have := E1.out.tags k hk; exact ⟨this.1, by simp; exact this.2⟩⟩), box ⟨cell_else (by decide) q0 _, by rw [cell_put q1, ← HSN.out, if_pos h]⟩⟩))
                  clear E1
                  go_wp2_with fail
                  all_goals
                    go_meet
                    first | exact YES.out (by assumption) | exact NO.out (by assumption) | exact NO.out (by simpa using ‹_›)
                case rest =>
                  clear E1 q0 q1 qz x6a
                  obtain ⟨hE, hQ⟩ := hcut
                  obtain ⟨x2, x3, x4, x5, x6⟩ := HFX.out _ _ hE.out.fix
                  have x2d : wc.drew.cell? ⟨xb, 2, none⟩ = some (.int .i64 p.d) := x2
                  have x5d : wc.drew.cell? ⟨xb, 5, none⟩ = some (.slice a3 l3 c3) := x5
                  clear x3 x4 x6
                  have HPB := box (show ∃ pb, Talk.pop p.d (Talk.run p (t + 1)).hb = pb from ⟨_, rfl⟩)
                  obtain ⟨pb, hpb⟩ := HPB.out
                  go_upto_region 32 with fail
                  go_cut [147, 148, 149] (fun t147 t148 t149 wx => t149 = .int .i64 0 ∧ ∃ (O' : Nat → Nat) (vb8 : Value) (av : Option Addr) (cv : Nat), t147 = .slice av pb.length cv ∧ t148 = .int .i64 pb.length ∧ Box (Env B w1 g gr gt gb xb cs O' wx v s6 R2 vt8 ((Talk.lastD p.d (Talk.run p (t + 1)).ht).map (List.map mT)) vb8 ((Talk.lastD p.d (Talk.run p (t + 1)).hb).map (List.map mB)) (.slice a4 T1 c4) T1 (.slice a5 R2 c5) R2) ∧ Box (EntIn O' wx (.slice av pb.length cv) (pb.map mB)))
                  case first =>
                    have q0d : wc.drew.cell? ⟨mb, 0, none⟩ = some (.int .i64 ((R2 : Int) % 256)) := hQ.out.1
                    have q1d : wc.drew.cell? ⟨mb, 1, none⟩ = some (.string SN) := hQ.out.2
                    have kA : Below wc.heap.size wc (wc.alloc (.cells #[.int .i64 ((R2 : Int) % 256), .string SN] 78)).drew := ((Below.refl _ _).alloc (Nat.le_refl _) _).drew
                    have ED := box (hE.out.fresh (Below.refl _ _).drew)
                    have E7 := box (hE.out.fresh kA)
                    have q := World.cell?_alloc_mark wc #[.int .i64 ((R2 : Int) % 256), .string SN] 78 (0, 0)
                    have EN7 := box (show EntIn O1 (wc.alloc (.cells #[.int .i64 ((R2 : Int) % 256), .string SN] 78)).drew (.slice (some ⟨wc.heap.size, 0, none⟩) 1 1) [(R2 % 256, SN)] from ⟨_, 1, rfl, (fun h => by cases h), .inr ⟨wc.heap.size, 0, rfl, Classical.byContradiction (fun hn => by have := (hE.out.tags _ hn).2; omega), (by show _ < (wc.alloc (.cells #[.int .i64 ((R2 : Int) % 256), .string SN] 78)).heap.size; rw [size_alloc']; omega), fun j hj => by
                      obtain rfl : j = 0 := by simpa using hj
                      exact ⟨(q 0).trans (by show _ = some (Value.int .i64 ((R2 % 256 : Nat) : Int)); rw [show ((R2 % 256 : Nat) : Int) = (R2 : Int) % 256 from by omega]; rfl), q 1⟩⟩⟩)
                    have TMD := times_any a3 l3 c3 xs3 HL3.out HX3.out t wc.drew (inB I3.out ED.out.bel HBB.out.2)
                    rw [← HMM.out t] at TMD
                    replace TMD := box TMD
                    have TMA := times_any a3 l3 c3 xs3 HL3.out HX3.out t (wc.alloc (.cells #[.int .i64 ((R2 : Int) % 256), .string SN] 78)).drew (inB I3.out E7.out.bel HBB.out.2)
                    rw [← HMM.out t] at TMA
                    replace TMA := box TMA
                    have RM : rep (p.m t) [(R2 % 256, SN)] = (List.replicate (p.m t) ((Talk.got p t).1.R, (Talk.got p t).2 && p.nk)).map mB := by
                      rw [rep_map, HGG.out, HR2.out, HB2.out, HNK.out]
                      unfold mB
                      rw [HCC.out, HSN.out]
                    have CRq := carry_any B 4 (by decide) (by decide) O1 (wc.alloc (.cells #[.int .i64 ((R2 : Int) % 256), .string SN] 78)).drew gb vb _ p.d _ [(R2 % 256, SN)] (p.m t) E7.out.bck (by rw [List.length_map, Talk.lastD_len]; omega) H5.out EN7.out (Nat.le_refl _) (by rw [HMM.out t]; exact tmN_le _ _) E7.out.tags E7.out.hB
                    rw [RM, (Talk.last_push mB p.d (Talk.run p t).hb _).1, (Talk.last_push mB p.d (Talk.run p t).hb _).2, ← Talk.run_hb, hpb] at CRq
                    replace CRq := box CRq
                    obtain ⟨y2, y3, y4, y5, y6⟩ := HFX.out _ _ E7.out.fix
                    have z0 : (wc.alloc (.cells #[.int .i64 ((R2 : Int) % 256), .string SN] 78)).drew.cell? ⟨mb, 0, none⟩ = some (.int .i64 ((R2 : Int) % 256)) := keepa _ hQ.out.1
                    have z1 : (wc.alloc (.cells #[.int .i64 ((R2 : Int) % 256), .string SN] 78)).drew.cell? ⟨mb, 1, none⟩ = some (.string SN) := keepa _ hQ.out.2
                    clear q y3 y4 y6 RM kA
                    refine wp_region_held_drew (S := (fun w' => w'.cell? ⟨xb, 2, none⟩ = some (.int .i64 p.d) ∧ w'.cell? ⟨xb, 5, none⟩ = some (.slice a3 l3 c3) ∧ w'.cell? ⟨mb, 0, none⟩ = some (.int .i64 ((R2 : Int) % 256)) ∧ w'.cell? ⟨mb, 1, none⟩ = some (.string SN))) (by kernel_rfl) (⟨x2d, x5d, q0d, q1d⟩) (fun hHeld => ?_)
                    refine wpAnyH_take (i := 0) (oi := { dst := some 139, op := Go.Op.fieldAddr 52 (Go.Operand.tmp 2) 2, type := 0, pos := "law.go:188", after := #[], guard := none }) (v := ?_) rfl (by kernel_rfl) (by kernel_rfl) (by kernel_rfl) (fun _ _ _ h => h) (Or.inl ⟨by rfl, ?_⟩) (by assumption) ?_
                    rotate_left
                    · (intro w hSw; (try dsimp only at hSw); go_simp; (try with_reducible rfl))
                    simp only [Act.put, List.setIfInBounds_toArray, List.set_cons_zero, List.set_cons_succ]
                    refine wpAnyH_take (i := 1) (oi := { dst := some 140, op := Go.Op.load 3 (Go.Operand.tmp 139), type := 3, pos := "law.go:188", after := #[{ on := 0, ground := Go.Ground.data }], guard := none }) (v := ?_) rfl (by kernel_rfl) (by kernel_rfl) (by kernel_rfl) (fun _ _ _ h => h) (Or.inl ⟨by rfl, ?_⟩) (by assumption) ?_
                    rotate_left
                    · (intro w hSw; (try dsimp only at hSw); go_simp; (try with_reducible rfl))
                    simp only [Act.put, List.setIfInBounds_toArray, List.set_cons_zero, List.set_cons_succ]
                    refine wpAnyH_take (i := 2) (oi := { dst := some 141, op := Go.Op.load 78 (Go.Operand.tmp 23), type := 78, pos := "law.go:188", after := #[], guard := none }) (v := ?_) rfl (by kernel_rfl) (by kernel_rfl) (by kernel_rfl) (fun _ _ _ h => h) (Or.inl ⟨by rfl, ?_⟩) (by assumption) ?_
                    rotate_left
                    · (intro w hSw; (try dsimp only at hSw); go_simp; (try with_reducible rfl))
                    simp only [Act.put, List.setIfInBounds_toArray, List.set_cons_zero, List.set_cons_succ]
                    refine wpAnyH_take (i := 4) (oi := { dst := some 143, op := Go.Op.fieldAddr 52 (Go.Operand.tmp 2) 5, type := 0, pos := "law.go:188", after := #[], guard := none }) (v := ?_) rfl (by kernel_rfl) (by kernel_rfl) (by kernel_rfl) (fun _ _ _ h => h) (Or.inl ⟨by rfl, ?_⟩) (by assumption) ?_
                    rotate_left
                    · (intro w hSw; (try dsimp only at hSw); go_simp; (try with_reducible rfl))
                    simp only [Act.put, List.setIfInBounds_toArray, List.set_cons_zero, List.set_cons_succ]
                    refine wpAnyH_take (i := 5) (oi := { dst := some 144, op := Go.Op.load 32 (Go.Operand.tmp 143), type := 32, pos := "law.go:188", after := #[{ on := 4, ground := Go.Ground.data }], guard := none }) (v := ?_) rfl (by kernel_rfl) (by kernel_rfl) (by kernel_rfl) (fun _ _ _ h => h) (Or.inl ⟨by rfl, ?_⟩) (by assumption) ?_
                    rotate_left
                    · (intro w hSw; (try dsimp only at hSw); go_simp; (try with_reducible rfl))
                    simp only [Act.put, List.setIfInBounds_toArray, List.set_cons_zero, List.set_cons_succ]
                    refine wpAnyH_take (i := 6) (oi := { dst := some 145, op := Go.Op.move (Go.Operand.tmp 12), type := 3, pos := "law.go:188", after := #[], guard := none }) (v := ?_) rfl (by kernel_rfl) (by kernel_rfl) (by kernel_rfl) (fun _ _ _ h => h) (Or.inl ⟨by rfl, ?_⟩) (by assumption) ?_
                    rotate_left
                    · (intro w hSw; (try dsimp only at hSw); go_simp; (try with_reducible rfl))
                    simp only [Act.put, List.setIfInBounds_toArray, List.set_cons_zero, List.set_cons_succ]
                    refine wpAnyH_take (i := 10) (oi := { dst := some 149, op := Go.Op.move (Go.Operand.const (Go.Value.int Go.IntKind.i64 0)), type := 3, pos := "law.go:188", after := #[], guard := none }) (v := ?_) rfl (by kernel_rfl) (by kernel_rfl) (by kernel_rfl) (fun _ _ _ h => h) (Or.inl ⟨by rfl, ?_⟩) (by assumption) ?_
                    rotate_left
                    · (intro w hSw; (try dsimp only at hSw); go_simp; (try with_reducible rfl))
                    simp only [Act.put, List.setIfInBounds_toArray, List.set_cons_zero, List.set_cons_succ]
                    refine wpAnyH_ready (rs := [3, 7]) (by kernel_rfl) (by simp) ?_
                    refine (AllReadyH.cons (o := { dst := some 142, op := Go.Op.buildSlice 76 1 #[(0, Go.Operand.tmp 141)], type := 76, pos := "law.go:188", after := #[{ on := 2, ground := Go.Ground.data }], guard := none }) rfl (fun K hK => ?_) (AllReadyH.cons (o := { dst := some 146, op := Go.Op.call { callee := Go.Callee.value (Go.Operand.func 38), args := #[Go.Operand.tmp 144, Go.Operand.tmp 145], argTypes := #[32, 3] }, type := 3, pos := "law.go:188", after := #[{ on := 5, ground := Go.Ground.data }, { on := 6, ground := Go.Ground.data }], guard := none }) rfl (fun K hK => ?_) AllReadyH.nil))
                    · go_simp
                      refine hK.out _ _ (⟨y2, y5, z0, z1⟩) (fun hHelda => ?_)
                      clear hK K
                      refine wpAnyH_ready (rs := [7]) (by kernel_rfl) (by simp) ?_
                      refine (AllReadyH.cons (o := { dst := some 146, op := Go.Op.call { callee := Go.Callee.value (Go.Operand.func 38), args := #[Go.Operand.tmp 144, Go.Operand.tmp 145], argTypes := #[32, 3] }, type := 3, pos := "law.go:188", after := #[{ on := 5, ground := Go.Ground.data }, { on := 6, ground := Go.Ground.data }], guard := none }) rfl (fun K hK => ?_) AllReadyH.nil)
                      go_simp
                      refine TMA.out.mono ?_
                      rintro e w8 ⟨rfl, hw8⟩
                      subst hw8
                      refine hK.out _ _ (⟨y2, y5, z0, z1⟩) (fun hHeldx => ?_)
                      clear hK K
                      refine wpAnyH_ready (rs := [8]) (by kernel_rfl) (by simp) ?_
                      refine (AllReadyH.cons (o := { dst := some 147, op := Go.Op.call { callee := Go.Callee.value (Go.Operand.func 37), args := #[Go.Operand.tmp 11, Go.Operand.tmp 140, Go.Operand.tmp 142, Go.Operand.tmp 146], argTypes := #[75, 3, 76, 3] }, type := 76, pos := "law.go:188", after := #[{ on := 1, ground := Go.Ground.data }, { on := 3, ground := Go.Ground.data }, { on := 7, ground := Go.Ground.data }, { on := 7, ground := Go.Ground.chain }], guard := none }) rfl (fun K hK => ?_) AllReadyH.nil)
                      go_simp
                      refine CRq.out.mono ?_
                      rintro e w8 ⟨vout, vb8, O8, rfl, st8, wt8, en8⟩
                      obtain ⟨av, cv8, rfl, hvn, hvi⟩ := en8
                      have E8 := box (E7.out.wireB st8 wt8)
                      have EN8 := box (show EntIn O8 w8 (.slice av _ cv8) _ from ⟨av, cv8, rfl, hvn, hvi⟩)
                      obtain ⟨v2, v3, v4, v5, v6⟩ := HFX.out _ _ E8.out.fix
                      have eb8 := st8.block mb (World.block_lt_of_cell? _ ⟨mb, 0, none⟩ z0) (by rw [OMB.out]; decide)
                      have t0 := (World.cell?_of_block (a := ⟨mb, 0, none⟩) eb8).trans z0
                      have t1 := (World.cell?_of_block (a := ⟨mb, 1, none⟩) eb8).trans z1
                      clear st8 wt8 hvn hvi v3 v4 v6 eb8
                      refine hK.out _ _ (⟨v2, v5, t0, t1⟩) (fun hHeldc => ?_)
                      clear hK K
                      refine wpAnyH_take (i := 9) (oi := { dst := some 148, op := Go.Op.call { callee := Go.Callee.builtin Go.Builtin.len, args := #[Go.Operand.tmp 147], argTypes := #[76] }, type := 3, pos := "law.go:188", after := #[{ on := 8, ground := Go.Ground.data }], guard := none }) (v := ?_) rfl (by kernel_rfl) (by kernel_rfl) (by kernel_rfl) (fun _ _ _ h => h) (Or.inl ⟨by rfl, ?_⟩) (by assumption) ?_
                      rotate_left
                      · (intro w hSw; (try dsimp only at hSw); go_simp; (try with_reducible rfl))
                      simp only [Act.put, List.setIfInBounds_toArray, List.set_cons_zero, List.set_cons_succ]
                      refine wpAnyH_done (by kernel_rfl) ?_ _
                      (try go_wp2_with fail)
                      go_meet
                      exact ⟨rfl, O8, vb8, av, cv8, by rw [List.length_map], rfl, E8, box (by have h := EN8.out; rw [List.length_map] at h; exact h)⟩
                    · go_simp
                      refine TMD.out.mono ?_
                      rintro e w8 ⟨rfl, hw8⟩
                      subst hw8
                      refine hK.out _ _ (⟨x2d, x5d, q0d, q1d⟩) (fun hHeldx => ?_)
                      clear hK K
                      refine wpAnyH_ready (rs := [3]) (by kernel_rfl) (by simp) ?_
                      refine (AllReadyH.cons (o := { dst := some 142, op := Go.Op.buildSlice 76 1 #[(0, Go.Operand.tmp 141)], type := 76, pos := "law.go:188", after := #[{ on := 2, ground := Go.Ground.data }], guard := none }) rfl (fun K hK => ?_) AllReadyH.nil)
                      go_simp
                      refine hK.out _ _ (⟨y2, y5, z0, z1⟩) (fun hHelda => ?_)
                      clear hK K
                      refine wpAnyH_ready (rs := [8]) (by kernel_rfl) (by simp) ?_
                      refine (AllReadyH.cons (o := { dst := some 147, op := Go.Op.call { callee := Go.Callee.value (Go.Operand.func 37), args := #[Go.Operand.tmp 11, Go.Operand.tmp 140, Go.Operand.tmp 142, Go.Operand.tmp 146], argTypes := #[75, 3, 76, 3] }, type := 76, pos := "law.go:188", after := #[{ on := 1, ground := Go.Ground.data }, { on := 3, ground := Go.Ground.data }, { on := 7, ground := Go.Ground.data }, { on := 7, ground := Go.Ground.chain }], guard := none }) rfl (fun K hK => ?_) AllReadyH.nil)
                      go_simp
                      refine CRq.out.mono ?_
                      rintro e w8 ⟨vout, vb8, O8, rfl, st8, wt8, en8⟩
                      obtain ⟨av, cv8, rfl, hvn, hvi⟩ := en8
                      have E8 := box (E7.out.wireB st8 wt8)
                      have EN8 := box (show EntIn O8 w8 (.slice av _ cv8) _ from ⟨av, cv8, rfl, hvn, hvi⟩)
                      obtain ⟨v2, v3, v4, v5, v6⟩ := HFX.out _ _ E8.out.fix
                      have eb8 := st8.block mb (World.block_lt_of_cell? _ ⟨mb, 0, none⟩ z0) (by rw [OMB.out]; decide)
                      have t0 := (World.cell?_of_block (a := ⟨mb, 0, none⟩) eb8).trans z0
                      have t1 := (World.cell?_of_block (a := ⟨mb, 1, none⟩) eb8).trans z1
                      clear st8 wt8 hvn hvi v3 v4 v6 eb8
                      refine hK.out _ _ (⟨v2, v5, t0, t1⟩) (fun hHeldc => ?_)
                      clear hK K
                      refine wpAnyH_take (i := 9) (oi := { dst := some 148, op := Go.Op.call { callee := Go.Callee.builtin Go.Builtin.len, args := #[Go.Operand.tmp 147], argTypes := #[76] }, type := 3, pos := "law.go:188", after := #[{ on := 8, ground := Go.Ground.data }], guard := none }) (v := ?_) rfl (by kernel_rfl) (by kernel_rfl) (by kernel_rfl) (fun _ _ _ h => h) (Or.inl ⟨by rfl, ?_⟩) (by assumption) ?_
                      rotate_left
                      · (intro w hSw; (try dsimp only at hSw); go_simp; (try with_reducible rfl))
                      simp only [Act.put, List.setIfInBounds_toArray, List.set_cons_zero, List.set_cons_succ]
                      refine wpAnyH_done (by kernel_rfl) ?_ _
                      (try go_wp2_with fail)
                      go_meet
                      exact ⟨rfl, O8, vb8, av, cv8, by rw [List.length_map], rfl, E8, box (by have h := EN8.out; rw [List.length_map] at h; exact h)⟩
                  case rest =>
                    clear hE hQ x2 x5 x2d x5d
                    obtain ⟨rfl, O', vb8, av2, cv2, rfl, rfl, E8, EN8⟩ := hcut
                    have HPB2 := box hpb
                    have hm3 : pb.length ≤ 2 := by rw [← hpb]; exact Talk.popB_len p t (fun q => by rw [HMM.out q]; exact tmN_le _ _)
                    have BE := box (Talk.back_end p t)
                    rw [hpb] at BE
                    clear HPB hpb
                    obtain ⟨m2, hm2b⟩ : ∃ m2, pb.length = m2 := ⟨_, rfl⟩
                    have HM2 := box hm2b
                    rw [hm2b] at EN8 hm3 BE ⊢
                    clear hm2b
                    go_wp2_with fail
                    go_loopw [149] (fun t149 wx => ∃ (j : Nat) (O : Nat → Nat) (v : Value) (s : Rs), j ≤ m2 ∧ t149 = .int .i64 j ∧ Box (Snd p.W p.τ (Talk.back p t j) s) ∧ Box (Env B w1 g gr gt gb xb cs O wx v s R2 vt8 ((Talk.lastD p.d (Talk.run p (t + 1)).ht).map (List.map mT)) vb8 ((Talk.lastD p.d (Talk.run p (t + 1)).hb).map (List.map mB)) (.slice a4 T1 c4) T1 (.slice a5 R2 c5) R2) ∧ Box (EntIn O wx (.slice av2 m2 cv2) (pb.map mB))) (fun t149 _ => m2 - (intOf t149).toNat)
                    case atStart => exact ⟨0, O', v, s6, by omega, rfl, box (by rw [BZ.out]; exact GSND.out), E8, EN8⟩
                    case round =>
                      clear E8 EN8
                      obtain ⟨j, O, v, s, hj, rfl, hS2, hE, hEN⟩ := hrel
                      have TB := box (show (Talk.back p t j).T = T1 from by rw [(BSAME.out j).1, ← (BSAME.out 0).1, BZ.out, GT.out])
                      by_cases hjm : j < m2
                      · have hjp : j < (Talk.pop p.d (Talk.run p (t + 1)).hb).length := by rw [HPB2.out, HM2.out]; exact hjm
                        have IV := Talk.back_inv p t j
                        rw [List.drop_eq_getElem_cons hjp, List.cons_append] at IV
                        have NXT := box (Talk.back_succ p t j hjp)
                        have SB := Talk.back_S p h3 t j
                        obtain ⟨y, hy⟩ : ∃ y, (Talk.pop p.d (Talk.run p (t + 1)).hb)[j] = y := ⟨_, rfl⟩
                        rw [hy] at IV NXT
                        have hy2 : (pb[j]'(by rw [HM2.out]; exact hjm)) = y := by rw [← hy]; simp only [HPB2.out]
                        obtain ⟨hb, hi, hc', hav, hbo, hbl, hcell⟩ := (show EntIn O _ (.slice av2 (pb.map mB).length cv2) (pb.map mB) by rw [List.length_map, HM2.out]; exact hEN.out).cells (fun e => by have h := congrArg List.length e; rw [List.length_map, HM2.out] at h; simp at h; omega)
                        injection hav with hav _ _hcv
                        clear _hcv
                        subst hav
                        have hcj := itCells_at (pb.map mB) j (by rw [List.length_map, HM2.out]; exact hjm)
                        have y0 := hcell _ _ hcj.1
                        have y1 := hcell _ _ hcj.2
                        rw [add_at] at y0 y1
                        rw [← Nat.add_assoc] at y1
                        simp only [List.getElem_map, hy2, mB] at y0 y1
                        have a1 := IV.ar; have a2 := IV.rh; have a3 := IV.ht; have a5b := IV.an; have a6b := IV.nh
                        have TB2 := TB.out
                        have SACK := hS2.out.ack IV (by omega)
                        have BS := box (show s.hi ≤ s.ks.length ∧ s.ac < 1000000 ∧ s.nx < 1000000 ∧ s.hi < 1000000 from by
                          obtain ⟨e1, e2, e3, e4, e5, e6, e7, e8⟩ := hS2.out
                          exact ⟨by omega, by omega, by omega, by omega⟩)
                        rw [← NXT.out] at SACK
                        replace SACK := box SACK
                        clear IV SB NXT hcj hcell hy hy2 hjp a1 a2 a3 a5b a6b TB2 hS2
                        obtain ⟨kid, hkid⟩ : ∃ kid, y.1 % 256 = kid := ⟨_, rfl⟩
                        rw [hkid] at y0 SACK
                        clear hkid
                        obtain ⟨yb, hyb⟩ : ∃ yb, y.2 = yb := ⟨_, rfl⟩
                        rw [hyb] at y1 SACK
                        clear hyb
                        obtain ⟨SY, hSY⟩ : ∃ SY : ByteArray, (if yb = true then NAK else ⟨#[]⟩) = SY := ⟨_, rfl⟩
                        rw [hSY] at y1
                        have HSY := box hSY
                        clear hSY
                        have kA : Below wr.heap.size wr (wr.alloc (.cells #[.int .i64 (kid : Int), .string SY] 78)) := (Below.refl _ _).alloc (Nat.le_refl _) _
                        have E1 := box (hE.out.fresh kA)
                        have EN1 := box (hEN.out.frame (Stp.fresh 99 hE.out.tags kA) (by decide))
                        obtain ⟨mm, hmm⟩ : ∃ mm, wr.heap.size = mm := ⟨_, rfl⟩
                        have q0 : (wr.alloc (.cells #[.int .i64 (kid : Int), .string SY] 78)).cell? ⟨mm, 0, none⟩ = some (.int .i64 (kid : Int)) := by rw [← hmm]; exact World.cell?_alloc_mark wr #[.int .i64 (kid : Int), .string SY] _ (0, 0) 0
                        have q1 : (wr.alloc (.cells #[.int .i64 (kid : Int), .string SY] 78)).cell? ⟨mm, 1, none⟩ = some (.string SY) := by rw [← hmm]; exact World.cell?_alloc_mark wr #[.int .i64 (kid : Int), .string SY] _ (0, 0) 1
                        clear kA
                        go_upto_if 155 with fail
                        generalize wr.alloc (.cells #[.int .i64 (kid : Int), .string SY] 78) = wa at E1 EN1 q0 q1 ⊢
                        clear hE hEN y0 y1 hmm hbo hbl
                        obtain ⟨bh, bac, bnx, bhi⟩ := BS.out
                        have NK := box (pnak_any (kid : Int) B _ g v s wa E1.out.snd.x bh bac bnx bhi)
                        have AK := box (pack_any (kid : Int) B _ g v s wa E1.out.snd.x bh bac bnx bhi)
                        clear bh bac bnx bhi BS
                        cases yb
                        · have hSY : ({ data := #[] } : ByteArray) = SY := HSY.out
                          subst hSY
                          replace SACK := box (show Snd p.W p.τ (Talk.back p t (j + 1)) (ackS s (kid : Int)) from SACK.out)
                          clear NK HSY
                          have dk : (({ data := #[] } : ByteArray).toList == [110, 97, 107]) = false := by decide +kernel
                          go_wp2_with fail
                          all_goals (try (exact absurd (dk.symm.trans (show (({ data := #[] } : ByteArray).toList == [110, 97, 107]) = true by assumption)) (by decide)))
                          refine AK.out.mono ?_
                          rintro e w6 ⟨v', rfl, x', st'⟩
                          have E2 := box (E1.out.sender x' st')
                          have EN2 := box (EN1.out.frame (E1.out.snd.step E1.out.tags x' st').1 (by decide))
                          clear x' st' AK E1 EN1
                          go_wp2_with fail
                          go_roundw
                          case rel => exact ⟨j + 1, _, v', _, by omega, by go_num, SACK, E2, EN2⟩
                          case measure => simp [intOf]; omega
                        · have hSY : NAK = SY := HSY.out
                          subst hSY
                          replace SACK := box (show Snd p.W p.τ (Talk.back p t (j + 1)) (nakS s (kid : Int)) from SACK.out)
                          clear AK HSY
                          have dk : (NAK.toList == [110, 97, 107]) = true := by decide +kernel
                          go_wp2_with fail
                          all_goals (try (exact absurd (dk.symm.trans (show (NAK.toList == [110, 97, 107]) = false by assumption)) (by decide)))
                          refine NK.out.mono ?_
                          rintro e w6 ⟨v', rfl, x', st'⟩
                          have E2 := box (E1.out.sender x' st')
                          have EN2 := box (EN1.out.frame (E1.out.snd.step E1.out.tags x' st').1 (by decide))
                          clear x' st' NK E1 EN1
                          go_wp2_with fail
                          go_roundw
                          case rel => exact ⟨j + 1, _, v', _, by omega, by go_num, SACK, E2, EN2⟩
                          case measure => simp [intOf]; omega
                      · obtain ⟨wc, hwc⟩ : ∃ wc, wr = wc := ⟨_, rfl⟩
                        rw [hwc] at hE hEN ⊢
                        clear hwc wr
                        have hjm2 : j = m2 := by omega
                        rw [hjm2, BE.out] at TB hS2
                        have HR3 := box (show (Talk.run p (t + 1)).s.R = R2 from by have h := (BSAME.out m2).2; rw [BE.out] at h; rw [h, HGG.out, HR2.out])
                        obtain ⟨ho, ha⟩ := (show StrAt B 5 O wc (.slice a4 T1 c4) T1 ∧ StrAt B 6 O wc (.slice a5 R2 c5) R2 from ⟨hE.out.off, hE.out.acc⟩)
                        have CO := box (show ∀ i, i < T1 → ∃ b, a4 = some ⟨b, 0, none⟩ ∧ wc.cell? ⟨b, i, none⟩ = some (.string (strOf (dat i))) from fun i hi => by
                          rcases row_form ho.row with ⟨_, h0, _⟩ | ⟨b, k, e, _, _, _, _, hc⟩
                          · omega
                          · injection e with e _ _
                            exact ⟨b, e, hc i _ (by unfold strs; simp [hi])⟩)
                        have CA := box (show ∀ i, i < R2 → ∃ b, a5 = some ⟨b, 0, none⟩ ∧ wc.cell? ⟨b, i, none⟩ = some (.string (strOf (dat i))) from fun i hi => by
                          rcases row_form ha.row with ⟨_, h0, _⟩ | ⟨b, k, e, _, _, _, _, hc⟩
                          · omega
                          · injection e with e _ _
                            exact ⟨b, e, hc i _ (by unfold strs; simp [hi])⟩)
                        clear ho ha hjm2
                        have hd : decide ((T1 : Int) < (R2 : Int)) = false := decide_eq_false (by omega)
                        go_wp2_with fail
                        go_loopw [4, 5, 6, 172] (fun t4 t5 t6 t172 wx => ∃ i : Nat, i ≤ R2 ∧ t4 = .slice a4 T1 c4 ∧ t5 = .slice a5 R2 c5 ∧ t6 = .pointer (some ⟨g, 0, none⟩) ∧ t172 = .int .i64 i ∧ wx = wc) (fun _ _ _ t172 _ => R2 - (intOf t172).toNat)
                        case atStart => exact ⟨0, by omega, rfl, rfl, rfl, rfl, rfl⟩
                        case round =>
                          obtain ⟨i, hi, rfl, rfl, rfl, rfl, hwr⟩ := hrel
                          subst hwr
                          by_cases hir : i < R2
                          · obtain ⟨b1, rfl, c1b⟩ := CO.out i (by omega)
                            obtain ⟨b2b, rfl, c2b⟩ := CA.out i hir
                            obtain ⟨SI, hSI⟩ : ∃ SI, strOf (dat i) = SI := ⟨_, rfl⟩
                            rw [hSI] at c1b c2b
                            clear hSI
                            have ds : (SI.toList == SI.toList) = true := by simp
                            clear hE hEN
                            go_wp2_with fail
                            go_roundw
                            case rel => exact ⟨i + 1, by omega, by first | rfl | trivial, by first | rfl | trivial, by first | rfl | trivial, by go_num, by first | rfl | trivial⟩
                            case measure => simp [intOf]; omega
                          · go_wp2_with fail
                            go_roundw
                            case rel => exact ⟨t + 1, O, v, s, vt8, vb8, by omega, by go_num, rfl, hS2, by rw [HR3.out, TB.out]; exact hE⟩
                            case measure => simp [intOf]; omega
    · have htt : t = ticks := by omega
      subst htt
      obtain ⟨ao, co, rfl⟩ := hE.out.off.len
      obtain ⟨aa, ca, rfl⟩ := hE.out.acc.len
      have FIN := box (show ∃ ao' co' aa' ca' g' B' O' v' s', Ending.returned (.tuple #[.slice ao (Talk.run p t).s.T co, .slice aa (Talk.run p t).s.R ca, .pointer (some ⟨g, 0, none⟩), .bool true]) = .returned (.tuple #[.slice ao' (Talk.run p t).s.T co', .slice aa' (Talk.run p t).s.R ca', .pointer (some ⟨g', 0, none⟩), .bool true]) ∧ PsAt B' O' wr g' v' s' ∧ Snd p.W p.τ (Talk.run p t).s s' ∧ Below w.heap.size w wr from ⟨ao, co, aa, ca, g, B, _, v, s, rfl, hE.out.snd.x, hS.out, HWS.out.trans (hE.out.bel.mono HBB.out.1)⟩)
      clear hE hS ENV0 SND0 LD0 HFX
      go_wp2_with fail
      (try simp only [Exit.inBlock, Exit.then])
      refine bodyPost_ret (results_tmp4 rfl _ _ _) rfl ?_
      exact FIN.out
end Go.Proofs.Ytfpicobjnpjhlaa
