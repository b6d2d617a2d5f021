/- New givers and takers; awake. -/
import Derived.Test.YtoolphpideicoaaCreE
namespace Go.Proofs.Ytoolphpideicoaa
open Go.RowKit

/-- The ints zs lie at the slice's address. -/
def Ints (w : World) (a : Option Addr) (zs : List Int) : Prop := zs = [] ∨ ∃ g o, a = some ⟨g, o, none⟩ ∧ ∀ j (h : j < zs.length), w.cell? ⟨g, o + j, none⟩ = some (.int .i64 zs[j])
theorem Ints.at_ {w : World} {a : Option Addr} {zs : List Int} (h : Ints w a zs) {j : Nat} (hj : j < zs.length) : ∃ g o, a = some ⟨g, o, none⟩ ∧ w.cell? ⟨g, o + j, none⟩ = some (.int .i64 zs[j]) := by
  rcases h with rfl | ⟨g, o, e, h⟩
  · cases hj
  · exact ⟨g, o, e, h j hj⟩
theorem Ints.below {w w' : World} {a : Option Addr} {zs : List Int} (h : Ints w a zs) (hb : Below w.heap.size w w') : Ints w' a zs := by
  rcases h with h | ⟨g, o, e, h⟩
  · exact .inl h
  · exact .inr ⟨g, o, e, fun j hj => keepc hb (h j hj)⟩
/-- Which rooms are permitted. -/
def okZ (z : Int) : Bool := decide (1 ≤ z) && decide (z ≤ 64)
def okRooms (zs : List Int) : Bool := decide (1 ≤ zs.length) && decide (zs.length ≤ 4) && zs.all okZ
theorem okRooms_iff {zs : List Int} : okRooms zs = true ↔ 1 ≤ zs.length ∧ zs.length ≤ 4 ∧ ∀ z ∈ zs, 1 ≤ z ∧ z ≤ 64 := by
  unfold okRooms okZ
  simp [List.all_eq_true, and_assoc]
def gc0 (z : Int) : Gc := ⟨z.toNat, 0, 0⟩
theorem gc0_ok {z : Int} (h : 1 ≤ z ∧ z ≤ 64) : (gc0 z).Ok := ⟨by show 1 ≤ z.toNat; omega, by show z.toNat ≤ 64; omega, Nat.le_refl _, Nat.zero_le _, Nat.zero_le _⟩

theorem Try.infoBuf : (Try.prog.info? 66).map (fun i => (i.zero, i.size, i.bytes)) = some (some (.agg #[.int .i64 0, .int .i64 0, .int .i64 0]), 3, 24) := by kernel_rfl
theorem Try.infoSup : (Try.prog.info? 79).map (fun i => (i.zero, i.size, i.bytes)) = some (some (.agg #[.int .i64 0, .int .i64 0]), 2, 16) := by kernel_rfl
/-- Equal cells in a fresh block. -/
theorem made_cell (w : World) (z : Array Value) (u : Value) (hz : ∀ i, i < z.size → z[i]! = u) (hs : 0 < z.size) (m : Nat) (t : TypeId) (j : Nat) (hj : j < m) : (w.alloc (.cells (madeCells z m) t)).cell? ⟨w.heap.size, j, none⟩ = some u := by
  rw [World.cell?_alloc_mark w (madeCells z m) t (0, 0) j]
  unfold madeCells
  rw [Array.getElem?_map, Array.getElem?_range, if_pos hj]
  simp only [Option.map_some, Option.some.injEq]
  exact hz _ (Nat.mod_lt _ hs)
theorem unfrozen (w : World) (cs : Array Value) (t : TypeId) (j : Nat) : (w.alloc (.cells cs t)).frozen? ⟨w.heap.size, j, none⟩ = false := by
  unfold World.frozen?
  have h : (w.alloc (.cells cs t)).heap[w.heap.size]? = some (.cells cs t) := by show (w.heap.push _)[w.heap.size]? = _; simp
  rw [show (⟨w.heap.size, j, none⟩ : Addr).block = w.heap.size from rfl, h]
  simp
theorem C3.set0 {w : World} {h o : Nat} {c : Gc} (x : C3 w h o c) (n : Nat) (u : Value) (hu : u = .int .i64 n) : C3 (w.setCell ⟨h, o, none⟩ u) h o ⟨n, c.v, c.f⟩ := by
  subst hu
  exact ⟨cell_put x.q0 _, cell_else (by omega) x.q1 _, cell_else (by omega) x.q2 _, fun j => by rw [World.frozen?_setCell]; exact x.z j⟩
theorem C3.touch {w w' : World} {h o p : Nat} {c : Gc} (x : C3 w h o c) (t : Touch h p 3 w w') (hp : o + 3 ≤ p ∨ p + 3 ≤ o) : C3 w' h o c :=
  ⟨(t.cell _ (by omega)).trans x.q0, (t.cell _ (by omega)).trans x.q1, (t.cell _ (by omega)).trans x.q2, fun j => (t.z j).trans (x.z j)⟩

/-- What NewGiver leaves. -/
def NewG (zs : List Int) (w : World) (e : Ending) (w' : World) : Prop :=
  okRooms zs = true ∧ (∃ g h, e = .returned (.tuple #[.pointer (some ⟨g, 0, none⟩), .int .i64 0]) ∧ GvAt w' g h (zs.map gc0) ∧ w.heap.size ≤ g ∧ w.heap.size ≤ h ∧ Below w.heap.size w w')
  ∨ okRooms zs = false ∧ e = .returned (.tuple #[.pointer none, .int .i64 2]) ∧ Below w.heap.size w w'
set_option maxRecDepth 100000 in
set_option maxHeartbeats 4000000 in
theorem newg_any (a : Option Addr) (n c : Nat) (zs : List Int) (hn : zs.length = n) (w : World) (hi : Ints w a zs) (hbig : n ≤ 1000000) :
    Calls Try.prog 12 #[.slice a n c] w fun e w' => NewG zs w e w' := by
  by_cases h14 : ¬ (1 ≤ n ∧ n ≤ 4)
  · have hb : okRooms zs = false := by
      cases he : okRooms zs
      · rfl
      · have h := okRooms_iff.1 he; omega
    have FIN := box (fun w' => show w = w' → NewG zs w (.returned (.tuple #[.pointer none, .int .i64 2])) w' from fun e => .inr ⟨hb, rfl, by subst e; exact Below.refl _ _⟩)
    by_cases h0 : n = 0
    · subst h0
      clear hb hi h14
      go_enter Try.func12, Try.ntmps12
      go_wp2_with fail
      go_ret2
      exact FIN.out _ rfl
    · have h5 : 4 < n := by omega
      clear hb hi h14
      go_enter Try.func12, Try.ntmps12
      go_wp2_with fail
      go_ret2
      exact FIN.out _ rfl
  · have h14 : 1 ≤ n ∧ n ≤ 4 := by omega
    have IQ := box hi
    obtain ⟨i, hi1, hz1, hs1, hb1⟩ := info_parts Try.infoBuf
    have mk := run_make (P := Try.prog) w 64 66 i _ Try.underlying64 hi1 hz1 .i64 .i64 n n (by omega) (Int.le_refl _) (by rw [hb1]; omega) (by omega)
    rw [hs1] at mk
    simp only [Int.toNat_natCast] at mk
    have hcs : (Value.agg #[.int .i64 0, .int .i64 0, .int .i64 0]).cells = #[.int .i64 0, .int .i64 0, .int .i64 0] := by rfl
    rw [hcs] at mk
    have C := made_cell w #[.int .i64 0, .int .i64 0, .int .i64 0] (.int .i64 0) (fun i hi => by match i, hi with | 0, _ => rfl | 1, _ => rfl | 2, _ => rfl) (by decide) (n * 3) 66
    have Z := unfrozen w (madeCells #[.int .i64 0, .int .i64 0, .int .i64 0] (n * 3)) 66
    have kA : Below w.heap.size w (w.alloc (.cells (madeCells #[.int .i64 0, .int .i64 0, .int .i64 0] (n * 3)) 66)) := (Below.refl _ _).alloc (Nat.le_refl _) _
    have sA : w.heap.size < (w.alloc (.cells (madeCells #[.int .i64 0, .int .i64 0, .int .i64 0] (n * 3)) 66)).heap.size := by rw [size_alloc']; omega
    have C0 := box (fun j (hj : j < n) => show C3 (w.alloc (.cells (madeCells #[.int .i64 0, .int .i64 0, .int .i64 0] (n * 3)) 66)) w.heap.size (j * 3) ⟨0, 0, 0⟩ from ⟨C _ (by omega), C _ (by omega), C _ (by omega), Z⟩)
    have KA := box kA
    have SA := box sA
    obtain ⟨h, hh⟩ : ∃ h, w.heap.size = h := ⟨_, rfl⟩
    clear C Z kA sA hi
    go_enter Try.func12, Try.ntmps12
    go_wp2_with fail
    generalize w.alloc (.cells (madeCells #[.int .i64 0, .int .i64 0, .int .i64 0] (n * 3)) 66) = wa at KA SA C0 ⊢
    rw [hh] at C0 SA
    have HH := box hh
    clear hh mk hcs hi1 hz1 hs1 hb1
    go_loopw [20] (fun t20 wr => ∃ i : Nat, i ≤ n ∧ t20 = .int .i64 i ∧ Box (∀ j (h : j < zs.length), j < i → 1 ≤ zs[j] ∧ zs[j] ≤ 64) ∧ Box (Below w.heap.size w wr ∧ h < wr.heap.size ∧ wa.heap.size ≤ wr.heap.size) ∧ Box (∀ j (hj : j < zs.length), C3 wr h (j * 3) (if j < i then gc0 zs[j] else ⟨0, 0, 0⟩))) (fun t20 _ => n - (intOf t20).toNat)
    case atStart => exact ⟨0, by omega, rfl, box (fun j _ h => by omega), box ⟨KA.out, SA.out, Nat.le_refl _⟩, box (fun j hj => by rw [if_neg (by omega)]; exact C0.out j (by omega))⟩
    case round =>
      obtain ⟨i, hi, rfl, hV, hB, hC⟩ := hrel
      by_cases hlt : i < n
      · have hiz : i < zs.length := by omega
        obtain ⟨g, o, rfl, cz⟩ := (IQ.out.below hB.out.1).at_ hiz
        have x0 := hC.out i hiz
        rw [if_neg (Nat.lt_irrefl i)] at x0
        obtain ⟨q0, -, -, z0⟩ := x0
        have q0 : wr.cell? ⟨h, i * 3, none⟩ = some (.int .i64 0) := q0
        have ZZ := box (show ∃ z, zs[i] = z from ⟨_, rfl⟩)
        obtain ⟨z, hz⟩ := ZZ.out
        rw [hz] at cz
        have HZ := box hz
        clear ZZ hz
        by_cases hz1 : z < 1
        · have FIN := box (fun w' => show wr = w' → NewG zs w (.returned (.tuple #[.pointer none, .int .i64 2])) w' from fun e => .inr ⟨by
            cases he : okRooms zs
            · rfl
            · have h := (okRooms_iff.1 he).2.2 z (by rw [← HZ.out]; exact List.getElem_mem _); omega, rfl, by subst e; exact hB.out.1⟩)
          go_wp2_with fail
          go_ret2
          exact FIN.out _ rfl
        · by_cases hz2 : 64 < z
          · have FIN := box (fun w' => show wr = w' → NewG zs w (.returned (.tuple #[.pointer none, .int .i64 2])) w' from fun e => .inr ⟨by
              cases he : okRooms zs
              · rfl
              · have h := (okRooms_iff.1 he).2.2 z (by rw [← HZ.out]; exact List.getElem_mem _); omega, rfl, by subst e; exact hB.out.1⟩)
            go_wp2_with fail
            go_ret2
            exact FIN.out _ rfl
          · have TT : Touch h (i * 3) 3 wr (wr.setCell ⟨h, i * 3, none⟩ (.int .i64 z)) := Touch.set _ (by omega) _
            have N := box (show Below w.heap.size w (wr.setCell ⟨h, i * 3, none⟩ (.int .i64 z)) ∧ h < (wr.setCell ⟨h, i * 3, none⟩ (.int .i64 z)).heap.size ∧ wa.heap.size ≤ (wr.setCell ⟨h, i * 3, none⟩ (.int .i64 z)).heap.size from
              ⟨TT.apart.below hB.out.1 hB.out.1.size (by rw [HH.out]; exact Nat.le_refl _) (fun k hk => by cases hk), Nat.lt_of_lt_of_le hB.out.2.1 TT.apart.size, Nat.le_trans hB.out.2.2 TT.apart.size⟩)
            have NC := box (show ∀ j (hj : j < zs.length), C3 (wr.setCell ⟨h, i * 3, none⟩ (.int .i64 z)) h (j * 3) (if j < i + 1 then gc0 zs[j] else ⟨0, 0, 0⟩) from fun j hj => by
              have x := hC.out j hj
              by_cases hji : j = i
              · subst hji
                rw [if_pos (by omega)]
                rw [if_neg (by omega)] at x
                have y := x.set0 z.toNat (.int .i64 z) (by congr 1; omega)
                rw [show gc0 zs[j] = ⟨z.toNat, 0, 0⟩ by rw [HZ.out]; rfl]
                exact y
              · have e : (if j < i + 1 then gc0 zs[j] else (⟨0, 0, 0⟩ : Gc)) = (if j < i then gc0 zs[j] else ⟨0, 0, 0⟩) := by
                  by_cases h1 : j < i
                  · rw [if_pos (by omega), if_pos h1]
                  · rw [if_neg (by omega), if_neg h1]
                rw [e]
                exact x.touch TT (by omega))
            have NV := box (show ∀ j (h : j < zs.length), j < i + 1 → 1 ≤ zs[j] ∧ zs[j] ≤ 64 from fun j hj h1 => by
              by_cases hji : j = i
              · subst hji; rw [HZ.out]; omega
              · exact hV.out j hj (by omega))
            clear TT hV hB hC
            go_wp2_with fail
            go_roundw
            case rel => exact ⟨i + 1, by omega, by go_num, NV, N, NC⟩
            case measure => simp [intOf]; omega
      · have hin : i = n := by omega
        have OKR := box (show okRooms zs = true from okRooms_iff.2 ⟨by omega, by omega, fun z hz => by
          obtain ⟨j, hj, rfl⟩ := List.getElem_of_mem hz
          exact hV.out j hj (by omega)⟩)
        have kA : Below wr.heap.size wr (wr.alloc (.cells #[.slice (some ⟨h, 0, none⟩) n n] 68)) := (Below.refl _ _).alloc (Nat.le_refl _) _
        have GV := box (show GvAt (wr.alloc (.cells #[.slice (some ⟨h, 0, none⟩) n n] 68)) wr.heap.size h (zs.map gc0) from by
          refine ⟨?_, by have := hB.out.2.1; omega, fun j hj => ?_, Nat.lt_of_lt_of_le hB.out.2.1 kA.size⟩
          · rw [List.length_map, hn]; exact box_new _ _ _
          · have hj2 : j < zs.length := by simpa using hj
            have x := hC.out j hj2
            rw [if_pos (by omega)] at x
            rw [List.getElem_map]
            exact x.same (kA.block h hB.out.2.1))
        have FB := box (show Below w.heap.size w (wr.alloc (.cells #[.slice (some ⟨h, 0, none⟩) n n] 68)) ∧ w.heap.size ≤ wr.heap.size from ⟨hB.out.1.trans (kA.mono hB.out.1.size), hB.out.1.size⟩)
        clear kA hV hB hC
        go_wp2_with fail
        go_ret2
        exact .inl ⟨OKR.out, _, h, rfl, GV.out, FB.out.2, by rw [HH.out]; exact Nat.le_refl _, FB.out.1⟩
end Go.Proofs.Ytoolphpideicoaa
