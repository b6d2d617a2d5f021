/- launch. -/
import Derived.Test.YtoeedbimhihbhaaCabH
namespace Go.Proofs.Ytoeedbimhihbhaa
open Go.RowKit

/-- Symbols as a fault leaves them. -/
def damage (f : Ft) (xs : List Nat) : List Nat := if f.kind = 2 then flipA xs f.arg.toNat else xs
theorem damage_length (f : Ft) (xs : List Nat) : (damage f xs).length = xs.length := by unfold damage; split; exact flipA_length _ _; rfl
theorem damage_lt (f : Ft) {xs : List Nat} (hx : ∀ x ∈ xs, x < 256) : ∀ x ∈ damage f xs, x < 256 := by
  unfold damage; split
  · exact flipA_lt hx _
  · exact hx

theorem Try.infoTr : (Try.prog.info? 70).map (fun i => (i.zero, i.size, i.bytes)) = some (some (.agg #[.slice none 0 0, .int .i64 0]), 2, 32) := by kernel_rfl

/-- A cable to whose row a transmission was added, and the row's value stored. -/
theorem CabAt.added {B : Nat} {Z : Nat → Prop} {w w4 w5 : World} {g : Nat} {v v' : Value} {s : Cab} (x : CabAt B Z w g v s) (fl : Fl) (hroom : s.fl.length < 64) (hlo : fl.xs ≠ [] → ∀ q, fl.a = some q → ¬ Z q.block ∧ q.block ≠ g ∧ v.ownBlock ≠ some q.block ∧ v'.ownBlock ≠ some q.block)
    (hin : In w fl.a fl.xs) (hnil : fl.a = none → fl.c = 0) (hg : w.grownBy w4 v.ownBlock) (hrow : w4.ownsRow B 70 2 v' (s.fl.length + 1) (flCells s.fl ++ [.slice fl.a fl.xs.length fl.c, .int .i64 fl.t]))
    (hfar : v'.ownBlock = v.ownBlock ∨ v'.ownBlock = some w.heap.size) (hZ : ∀ k, Z k → k < w.heap.size) (hw5 : w5 = w4.setCell ⟨g, 5, none⟩ v') :
    CabAt B Z w5 g v' ⟨s.d, s.fa, s.fc, s.fs, s.up, s.time, s.sent, s.fl ++ [fl], s.lost⟩ := by
  subst hw5
  have hgv : some g ≠ v.ownBlock := fun e => x.ne e.symm
  have q : ∀ j u, w.cell? ⟨g, j, none⟩ = some u → w4.cell? ⟨g, j, none⟩ = some u := fun j u h => hg.cell h hgv
  have hne : v'.ownBlock ≠ some g := fun e => by
    rcases hfar with h | h
    · exact x.ne (h.symm.trans e)
    · rw [h] at e; have := x.lt; cases e; omega
  have hblk : ∀ k, k < w.heap.size → k ≠ g → v.ownBlock ≠ some k → (w4.setCell ⟨g, 5, none⟩ v').heap[k]? = w.heap[k]? := fun k h1 h2 h3 => by
    rw [heap_else (fun e => h2 e.symm)]; exact hg.block k h1 (fun e => h3 e.symm)
  have hfar2 : ∀ k, k < w.heap.size → v'.ownBlock = some k → v.ownBlock = some k := fun k hk h => by
    rcases hfar with h5 | h5
    · rw [← h5]; exact h
    · rw [h5] at h; cases h; omega
  refine ⟨cell_else (by decide) (q _ _ x.c0) _, cell_else (by decide) (q _ _ x.c1) _, cell_else (by decide) (q _ _ x.c2) _, cell_else (by decide) (q _ _ x.c3) _, cell_else (by decide) (q _ _ x.c4) _, cell_put (q _ _ x.c5) _, cell_else (by decide) (q _ _ x.c6) _,
    fun j => ?_, ?_, hne, fun f hf => ?_, x.fts.same (fun hx p hp => ?_), fun hx p hp h => ?_, x.hB, x.gz, fun k hk hz => ?_, x.asc, x.args, x.fsl, by simp; omega⟩
  · rw [World.frozen?_setCell]
    exact (World.frozen?_of_block (a := ⟨g, j, none⟩) (hg.block g x.lt hgv)).trans (x.fr j)
  · show World.ownsRow _ B _ 2 v' (s.fl ++ [fl]).length (flCells (s.fl ++ [fl]))
    rw [List.length_append, flCells_append]
    exact row_same hrow (fun k hk => heap_else (fun e => hne (by rw [hk, e])) _)
  · rcases List.mem_append.1 hf with hf | hf
    · have y := x.syms f hf
      exact (y.keep (w' := w4.setCell ⟨g, 5, none⟩ v') (fun k h1 h2 => hblk k h1 (fun e => h2 (.inr (.inl e))) (fun e => h2 (.inr (.inr e))))).inn |> fun i => ⟨i, fun hx p hp h => by
        have hlt := in_lt (by have := y.inn; rwa [hp] at this) hx
        exact y.blk hx p hp (h.imp id (fun h => h.imp id (hfar2 _ hlt))), y.nil⟩
    · obtain rfl := List.mem_singleton.1 hf
      refine ⟨in_same hin (fun hx p hp => ?_), fun hx p hp h => ?_, hnil⟩
      · have := hlo hx p hp
        exact hblk _ (in_lt (by rwa [hp] at hin) hx) this.2.1 this.2.2.1
      · have := hlo hx p hp
        rcases h with h | h | h
        · exact this.1 h
        · exact this.2.1 h
        · exact this.2.2.2 h
  · have hlt : p.block < w.heap.size := by have := x.fts; rw [hp] at this; exact this.lt hx
    exact hblk _ hlt (fun e => x.ftn hx p hp (.inr (.inl e))) (fun e => x.ftn hx p hp (.inr (.inr e)))
  · have hlt : p.block < w.heap.size := by have := x.fts; rw [hp] at this; exact this.lt hx
    exact x.ftn hx p hp (h.imp id (fun h => h.imp id (hfar2 _ hlt)))
  · exact x.vz k (hfar2 k (hZ k hz) hk) hz

set_option maxRecDepth 100000 in
set_option maxHeartbeats 8000000 in
theorem launch_any (B : Nat) (Z : Nat → Prop) (g : Nat) (v : Value) (s : Cab) (w : World) (hZ : ∀ k, Z k → k < w.heap.size) (x : CabAt B Z w g v s) (a : Option Addr) (n c : Nat) (xs : List Nat) (hn : xs.length = n) (hx : ∀ x ∈ xs, x < 256) (hbig : n ≤ 1000) (hin : In w a xs) (hnil : a = none → c = 0) (f : Ft) (hf : 0 ≤ f.arg) (hroom : s.fl.length < 64) (ht : s.time < 1000000) (hd : s.d ≤ 100) :
    Calls Try.prog 31 #[.pointer (some ⟨g, 0, none⟩), .slice a n c, ftV f] w fun e w' => e = .returned (.tuple #[]) ∧ ∃ v' fl, fl.xs = damage f xs ∧ fl.t = s.time + s.d ∧ CabAt B Z w' g v' ⟨s.d, s.fa, s.fc, s.fs, s.up, s.time, s.sent, s.fl ++ [fl], s.lost⟩ ∧ Steps g v v' w w' := by
  obtain ⟨va, vc, rfl⟩ : ∃ a c, v = .slice a s.fl.length c := by
    rcases row_form x.row with ⟨h, h0, _⟩ | ⟨g', c, h, _⟩
    · exact ⟨none, 0, by rw [h, h0]⟩
    · exact ⟨_, c, h⟩
  obtain ⟨m, hm⟩ : ∃ m, w.heap.size = m := ⟨_, rfl⟩
  have kA := (Below.refl w.heap.size w).alloc (Nat.le_refl _) (.cells #[.int .i64 f.at_, .int .i64 f.kind, .int .i64 f.arg] 53)
  have ks := size_alloc' w (.cells #[.int .i64 f.at_, .int .i64 f.kind, .int .i64 f.arg] 53)
  have FC := box (ft_cells w f m hm.symm)
  have X := box x
  have HIN := box (hin.below kA)
  have HX := box hx
  have HZ := box hZ
  rw [hm] at ks
  clear x hin hx hZ
  go_enter Try.func31, Try.ntmps31
  go_wp2_with fail
  generalize w.alloc (.cells #[.int .i64 f.at_, .int .i64 f.kind, .int .i64 f.arg] 53) = w1 at kA ks FC HIN ⊢
  have HM := box hm
  clear hm
  refine (clone_any a n c xs hn hbig hnil w1 HIN.out).mono ?_
  rintro e w2 ⟨v2, rfl, ho2, hb2⟩
  have HO2 := box ho2
  obtain ⟨f0, f1, f2, ff⟩ := FC.out
  have z1 := keepc hb2 f1
  have z2 := keepc hb2 f2
  have K2 := box (kA.trans (hb2.mono kA.size))
  clear f0 f1 f2 ff FC HIN ho2
  obtain ⟨i0, hi0, hz0, hz1, hz2⟩ := info_parts Try.infoTr
  have HS1 := box (show w1.heap.size = m + 1 from ks)
  by_cases hk : f.kind = 2
  · obtain ⟨K, hK⟩ := Int.eq_ofNat_of_zero_le hf
    rw [hK] at z2
    have hkd : (f.kind == 2) = true := by simp [hk]
    have IV := box (invert_any w1.heap.size v2 n xs hn HX.out hbig K w1 w2 hb2 HO2.out)
    have HD := box (show flipA xs K = damage f xs by unfold damage; rw [if_pos hk, hK]; rfl)
    clear hk
    go_wp2_with fail
    refine IV.out.mono ?_
    rintro e w3 ⟨rfl, ho3, hb3⟩
    rw [HD.out] at ho3
    have HO3 := box ho3
    have K3 := box (kA.trans (hb3.mono kA.size))
    clear ho3 hb3 hb2 HO2 K2 IV HD z1 z2 hK
    obtain ⟨ya, yc, rfl, hyi, hyn, _, hyb⟩ := own_any HO3.out
    have HYI := box hyi
    have HYN := box hyn
    have HYB := box hyb
    have X3 := box (X.out.keep K3.out)
    have kC : Below w3.heap.size w3 (w3.alloc (.cells #[.slice ya n yc, .int .i64 (IntKind.i64.wrap ((s.time : Int) + (s.d : Int)))] 70)).drew := ((Below.refl _ _).alloc (Nat.le_refl _) _).drew
    have XC := box (X3.out.keep kC)
    have HYC := box (hyi.below kC)
    have HNEW := box (show ∀ j u, ([.slice ya n yc, .int .i64 (IntKind.i64.wrap ((s.time : Int) + (s.d : Int)))] : List Value)[j]? = some u → ((w3.alloc (.cells #[.slice ya n yc, .int .i64 (IntKind.i64.wrap ((s.time : Int) + (s.d : Int)))] 70)).drew).cell? ((⟨w3.heap.size, 0, none⟩ : Addr).add j) = some u from fun j u hu => by
      rw [add_off]
      refine (World.cell?_alloc_mark w3 #[.slice ya n yc, .int .i64 (IntKind.i64.wrap ((s.time : Int) + (s.d : Int)))] 70 (0, 0) j).trans ?_
      rw [← hu]
      rcases j with _ | _ | j <;> rfl)
    have HONE := box (show ∀ u ∈ ([.slice ya n yc, .int .i64 (IntKind.i64.wrap ((s.time : Int) + (s.d : Int)))] : List Value), u.oneCell' = true from fun u hu => by simp at hu; rcases hu with rfl | rfl <;> rfl)
    have HSB := box (show B ≤ ((w3.alloc (.cells #[.slice ya n yc, .int .i64 (IntKind.i64.wrap ((s.time : Int) + (s.d : Int)))] 70)).drew).heap.size from Nat.le_trans X3.out.hB (Nat.le_of_lt XC.out.lt))
    have KC := box kC
    have HSC := box (show ((w3.alloc (.cells #[.slice ya n yc, .int .i64 (IntKind.i64.wrap ((s.time : Int) + (s.d : Int)))] 70)).drew).heap.size = w3.heap.size + 1 from size_alloc' w3 _)
    have G0 := box (fun (w4 : World) (h : ((w3.alloc (.cells #[.slice ya n yc, .int .i64 (IntKind.i64.wrap ((s.time : Int) + (s.d : Int)))] 70)).drew).grownBy w4 (Value.slice va s.fl.length vc).ownBlock) => (show w4.cell? ⟨g, 5, none⟩ = some (Value.slice va s.fl.length vc) ∧ ∀ j, w4.frozen? ⟨g, j, none⟩ = false from ⟨h.cell XC.out.c5 (fun e => XC.out.ne e.symm), fun j => (World.frozen?_of_block (a := ⟨g, j, none⟩) (h.block g XC.out.lt (fun e => XC.out.ne e.symm))).trans (XC.out.fr j)⟩))
    obtain ⟨c0, c1, c2, c3, c4, c5, c6, fr, _, _, _, _, _, _, _, _, _, _, _, _⟩ := X3.out
    clear kC hyi hyn hyb
    obtain ⟨l, hl⟩ : ∃ l, s.fl.length = l := ⟨_, rfl⟩
    have HL := box hl
    have HROW := box (show ((w3.alloc (.cells #[.slice ya n yc, .int .i64 (IntKind.i64.wrap ((s.time : Int) + (s.d : Int)))] 70)).drew).ownsRow B 70 2 (.slice va l vc) l (flCells s.fl) by rw [← hl]; exact XC.out.row)
    rw [hl] at c5 hroom G0
    have c5a : (w3.alloc (.cells #[.slice ya n yc, .int .i64 (IntKind.i64.wrap ((s.time : Int) + (s.d : Int)))] 70)).cell? ⟨g, 5, none⟩ = some (.slice va l vc) := keepa _ c5
    go_wp2_with fail
    go_region_law (refine step_row (o := ⟨some 32, _, _, _, _, _⟩) rfl (.tmp 19) (.tmp 31) 60 rfl B 70 i0 (.agg #[.slice none 0 0, .int .i64 0]) 2 32 Try.underlying60 hi0 hz0 hz1 hz2 rfl (by decide) (.slice va l vc) l (flCells s.fl) rfl HROW.out ⟨w3.heap.size, 0, none⟩ 1 1 [.slice ya n yc, .int .i64 (IntKind.i64.wrap ((s.time : Int) + (s.d : Int)))] rfl rfl HNEW.out HONE.out (by unfold maxLen; omega) (by omega) HSB.out ?_; intro va4 vc4 w4 ho4 hg4 ha4; obtain ⟨b5, bf⟩ := G0.out w4 hg4.out; clear c0 c1 c2 c3 c4 c5 c5a c6 fr)
    all_goals
      go_end0
      subst hl
      have hw : IntKind.i64.wrap ((s.time : Int) + (s.d : Int)) = ((s.time + s.d : Nat) : Int) := by rw [IntKind.wrap_i64]; omega
      have hdl : (damage f xs).length = n := by rw [damage_length, hn]
      have h1 := ho4.out
      rw [hw] at h1
      have hm := HM.out
      have hs1 := HS1.out
      have hs3 := K3.out.size
      have hsc := HSC.out
      have hlt := X.out.lt
      have hrb := row_blk X.out.row
      refine ⟨rfl, .slice va4 (s.fl.length + 1) vc4, ⟨ya, yc, damage f xs, s.time + s.d⟩, rfl, rfl, XC.out.added (w4 := w4) ⟨ya, yc, damage f xs, s.time + s.d⟩ hroom (fun hx q hq => ?_) HYC.out HYN.out hg4.out (by simp only [hdl]; exact h1) ha4.out (fun k hk => ?_) rfl, ⟨?_, fun k hk => ?_⟩⟩
      · have h2 := (HYB.out q hq).1
        have h3 := HYI.out
        rw [show ya = some q from hq] at h3
        have h4 := in_lt h3 hx
        refine ⟨fun h => ?_, (fun h => ?_), (fun h => ?_), (fun h => ?_)⟩
        · have := HZ.out _ h; omega
        · omega
        · have := hrb _ h; omega
        · rcases ha4.out with h5 | h5
          · have := hrb _ (h5.symm.trans h); omega
          · rw [h5] at h; have h6 := Option.some.inj h; omega
      · have := HZ.out k hk; omega
      · exact ((((Apart.ofBelow K3.out).trans (Apart.ofBelow KC.out)).trans (Apart.ofGrown hg4.out)).setCell 5 _)
      · rcases ha4.out with h5 | h5
        · exact .inl (h5.symm.trans hk)
        · rw [h5] at hk; have h6 := Option.some.inj hk; right; omega
  · have hkd : (f.kind == 2) = false := by simp [hk]
    have HD := box (show xs = damage f xs by unfold damage; rw [if_neg hk])
    clear hk
    obtain ⟨w3, hw3⟩ : ∃ w3, w2 = w3 := ⟨_, rfl⟩
    subst hw3
    have HO3 := box (show Own w1.heap.size w2 v2 n (damage f xs) by rw [← HD.out]; exact HO2.out)
    have K3 := K2
    obtain ⟨ya, yc, rfl, hyi, hyn, _, hyb⟩ := own_any HO3.out
    have HYI := box hyi
    have HYN := box hyn
    have HYB := box hyb
    have X3 := box (X.out.keep K3.out)
    have kC : Below w2.heap.size w2 (w2.alloc (.cells #[.slice ya n yc, .int .i64 (IntKind.i64.wrap ((s.time : Int) + (s.d : Int)))] 70)).drew := ((Below.refl _ _).alloc (Nat.le_refl _) _).drew
    have XC := box (X3.out.keep kC)
    have HYC := box (hyi.below kC)
    have HNEW := box (show ∀ j u, ([.slice ya n yc, .int .i64 (IntKind.i64.wrap ((s.time : Int) + (s.d : Int)))] : List Value)[j]? = some u → ((w2.alloc (.cells #[.slice ya n yc, .int .i64 (IntKind.i64.wrap ((s.time : Int) + (s.d : Int)))] 70)).drew).cell? ((⟨w2.heap.size, 0, none⟩ : Addr).add j) = some u from fun j u hu => by
      rw [add_off]
      refine (World.cell?_alloc_mark w2 #[.slice ya n yc, .int .i64 (IntKind.i64.wrap ((s.time : Int) + (s.d : Int)))] 70 (0, 0) j).trans ?_
      rw [← hu]
      rcases j with _ | _ | j <;> rfl)
    have HONE := box (show ∀ u ∈ ([.slice ya n yc, .int .i64 (IntKind.i64.wrap ((s.time : Int) + (s.d : Int)))] : List Value), u.oneCell' = true from fun u hu => by simp at hu; rcases hu with rfl | rfl <;> rfl)
    have HSB := box (show B ≤ ((w2.alloc (.cells #[.slice ya n yc, .int .i64 (IntKind.i64.wrap ((s.time : Int) + (s.d : Int)))] 70)).drew).heap.size from Nat.le_trans X3.out.hB (Nat.le_of_lt XC.out.lt))
    have KC := box kC
    have HSC := box (show ((w2.alloc (.cells #[.slice ya n yc, .int .i64 (IntKind.i64.wrap ((s.time : Int) + (s.d : Int)))] 70)).drew).heap.size = w2.heap.size + 1 from size_alloc' w2 _)
    have G0 := box (fun (w4 : World) (h : ((w2.alloc (.cells #[.slice ya n yc, .int .i64 (IntKind.i64.wrap ((s.time : Int) + (s.d : Int)))] 70)).drew).grownBy w4 (Value.slice va s.fl.length vc).ownBlock) => (show w4.cell? ⟨g, 5, none⟩ = some (Value.slice va s.fl.length vc) ∧ ∀ j, w4.frozen? ⟨g, j, none⟩ = false from ⟨h.cell XC.out.c5 (fun e => XC.out.ne e.symm), fun j => (World.frozen?_of_block (a := ⟨g, j, none⟩) (h.block g XC.out.lt (fun e => XC.out.ne e.symm))).trans (XC.out.fr j)⟩))
    obtain ⟨c0, c1, c2, c3, c4, c5, c6, fr, _, _, _, _, _, _, _, _, _, _, _, _⟩ := X3.out
    clear kC hyi hyn hyb
    obtain ⟨l, hl⟩ : ∃ l, s.fl.length = l := ⟨_, rfl⟩
    have HL := box hl
    have HROW := box (show ((w2.alloc (.cells #[.slice ya n yc, .int .i64 (IntKind.i64.wrap ((s.time : Int) + (s.d : Int)))] 70)).drew).ownsRow B 70 2 (.slice va l vc) l (flCells s.fl) by rw [← hl]; exact XC.out.row)
    rw [hl] at c5 hroom G0
    have c5a : (w2.alloc (.cells #[.slice ya n yc, .int .i64 (IntKind.i64.wrap ((s.time : Int) + (s.d : Int)))] 70)).cell? ⟨g, 5, none⟩ = some (.slice va l vc) := keepa _ c5
    go_wp2_with fail
    go_region_law (refine step_row (o := ⟨some 32, _, _, _, _, _⟩) rfl (.tmp 19) (.tmp 31) 60 rfl B 70 i0 (.agg #[.slice none 0 0, .int .i64 0]) 2 32 Try.underlying60 hi0 hz0 hz1 hz2 rfl (by decide) (.slice va l vc) l (flCells s.fl) rfl HROW.out ⟨w2.heap.size, 0, none⟩ 1 1 [.slice ya n yc, .int .i64 (IntKind.i64.wrap ((s.time : Int) + (s.d : Int)))] rfl rfl HNEW.out HONE.out (by unfold maxLen; omega) (by omega) HSB.out ?_; intro va4 vc4 w4 ho4 hg4 ha4; obtain ⟨b5, bf⟩ := G0.out w4 hg4.out; clear c0 c1 c2 c3 c4 c5 c5a c6 fr)
    all_goals
      go_end0
      subst hl
      have hw : IntKind.i64.wrap ((s.time : Int) + (s.d : Int)) = ((s.time + s.d : Nat) : Int) := by rw [IntKind.wrap_i64]; omega
      have hdl : (damage f xs).length = n := by rw [damage_length, hn]
      have h1 := ho4.out
      rw [hw] at h1
      have hm := HM.out
      have hs1 := HS1.out
      have hs3 := K3.out.size
      have hsc := HSC.out
      have hlt := X.out.lt
      have hrb := row_blk X.out.row
      refine ⟨rfl, .slice va4 (s.fl.length + 1) vc4, ⟨ya, yc, damage f xs, s.time + s.d⟩, rfl, rfl, XC.out.added (w4 := w4) ⟨ya, yc, damage f xs, s.time + s.d⟩ hroom (fun hx q hq => ?_) HYC.out HYN.out hg4.out (by simp only [hdl]; exact h1) ha4.out (fun k hk => ?_) rfl, ⟨?_, fun k hk => ?_⟩⟩
      · have h2 := (HYB.out q hq).1
        have h3 := HYI.out
        rw [show ya = some q from hq] at h3
        have h4 := in_lt h3 hx
        refine ⟨fun h => ?_, (fun h => ?_), (fun h => ?_), (fun h => ?_)⟩
        · have := HZ.out _ h; omega
        · omega
        · have := hrb _ h; omega
        · rcases ha4.out with h5 | h5
          · have := hrb _ (h5.symm.trans h); omega
          · rw [h5] at h; have h6 := Option.some.inj h; omega
      · have := HZ.out k hk; omega
      · exact ((((Apart.ofBelow K3.out).trans (Apart.ofBelow KC.out)).trans (Apart.ofGrown hg4.out)).setCell 5 _)
      · rcases ha4.out with h5 | h5
        · exact .inl (h5.symm.trans hk)
        · rw [h5] at hk; have h6 := Option.some.inj hk; right; omega
end Go.Proofs.Ytoeedbimhihbhaa
