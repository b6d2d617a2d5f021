/- The reference's tick. -/
import Derived.Test.YtfpicobjnpjhlaaRetX
namespace Go.Proofs.Ytfpicobjnpjhlaa
open Go.RowKit

theorem RsAt.len {B : Nat} {E : Nat → Prop} {w : World} {g : Nat} {v : Value} {s : Rs} (x : RsAt B E w g v s) : ∃ a c, v = .slice a s.ks.length c := by
  rcases x.row with ⟨rfl, h0⟩ | ⟨r, i, cap, rfl, _⟩
  · have : s.ks = [] := by simpa using h0
    rw [this]
    exact ⟨none, 0, rfl⟩
  · exact ⟨_, cap, by rw [List.length_map]⟩

set_option maxRecDepth 100000 in
set_option maxHeartbeats 4000000 in
theorem rtick_any (B : Nat) (E : Nat → Prop) (g : Nat) (v : Value) (s : Rs) (w : World) (x : RsAt B E w g v s) (ok : s.Ok) (b1 : s.ac < 1000000) :
    Calls Try.prog 17 #[.pointer (some ⟨g, 0, none⟩)] w fun e w' => ∃ a c, e = .returned (.tuple #[.int .i64 (tickN s), .slice a (tickX s).length c, .bool (tickI s).isSome]) ∧ Own w.heap.size w' (.slice a (tickX s).length c) (tickX s).length (tickX s) ∧ RsAt B E w' g v (tickS s) ∧ Steps g v v w w' := by
  have hnx := ok.nx; have hhi := ok.hi; have hW := ok.W; have hw2 := ok.w2; have hsi := ok.si; have ht2 := ok.t2
  have kD : ∀ (w : World) q, Below w.heap.size w (w.drewN q) := fun w q => drewN_below w q
  have KD := box kD
  -- sending from an index
  have SD := box (show ∀ (s1 : Rs) (w1 : World) (hx : s1.nx < s.ks.length), s1.ks = s.ks → s1.W = s.W → s1.τ = s.τ → s1.ta = s.ta → s1.ac = s.ac → s1.hi = s.hi → RsAt B E w1 g v s1 → w.heap.size ≤ w1.heap.size → Steps g v v w w1 → tickI s = some s1.nx →
      Calls Try.prog 33 #[.pointer (some ⟨g, 0, none⟩)] w1 fun e w' => ∃ a c, e = .returned (.tuple #[.int .i64 (tickN s), .slice a (tickX s).length c, .bool (tickI s).isSome]) ∧ Own w.heap.size w' (.slice a (tickX s).length c) (tickX s).length (tickX s) ∧ RsAt B E w' g v (tickS s) ∧ Steps g v v w w' from by
    intro s1 w1 hx q1 q2 q3 q4 q5 q6 x1 hs st hI
    have e1 : tickN s = (s.ac + s1.nx) % 256 := by unfold tickN; rw [hI]
    have e2 : tickX s = (s.ks[s1.nx]'hx).xs := by unfold tickX; rw [hI]; simp only []; rw [List.getElem?_eq_getElem hx]; rfl
    have e3 : tickS s = ⟨s.W, s.τ, s.ks, s.ta, s.ac, s1.nx + 1, max s.hi (s1.nx + 1), 0⟩ := by unfold tickS; rw [hI]
    have e4 : (s1.ks[s1.nx]'(by rw [q1]; exact hx)) = s.ks[s1.nx]'hx := by simp only [q1]
    refine (rsend_any B E g v s1 w1 x1 (by rw [q1]; exact hx) (by omega) (by omega) (fun k hk => ok.xs k (q1 ▸ hk))).mono ?_
    rintro e w2 ⟨a, c, h1, h2, h3, h4⟩
    rw [e4] at h1 h2
    rw [q1, q2, q3, q4, q5, q6] at h3
    rw [e1, e2, e3, hI]
    refine ⟨a, c, ?_, World.ownsRow.mono h2 hs, h3, st.trans h4⟩
    rw [h1, q5]
    have e5 : (((s.ac + s1.nx) % 256 : Nat) : Int) = ((s.ac : Int) + (s1.nx : Int)) % 256 := by omega
    rw [e5]
    rfl)
  have NO := box (show tickI s = none → ∀ (w1 : World), RsAt B E w1 g v (tickS s) → Steps g v v w w1 → ∃ a c, Ending.returned (.tuple #[.int .i64 0, .slice none 0 0, .bool false]) = Ending.returned (.tuple #[.int .i64 (tickN s), .slice a (tickX s).length c, .bool (tickI s).isSome]) ∧ Own w.heap.size w1 (.slice a (tickX s).length c) (tickX s).length (tickX s) ∧ RsAt B E w1 g v (tickS s) ∧ Steps g v v w w1 from by
    intro hI w1 x1 st
    have e1 : tickN s = 0 := by unfold tickN; rw [hI]
    have e2 : tickX s = [] := by unfold tickX; rw [hI]
    rw [e1, e2, hI]
    exact ⟨none, 0, rfl, World.ownsRow_nil _ _ _ _, x1, st⟩)
  have X := box x
  obtain ⟨a, c, rfl⟩ := x.len
  obtain ⟨p0, p1, p2, p3, p4, p5, p6, p7, pz⟩ := x.m
  clear x kD
  by_cases h1 : s.nx < s.ks.length
  · have hI : tickI s = some s.nx := by unfold tickI; rw [if_pos h1]
    have SE := box (fun q => SD.out s (w.drewN q) h1 rfl rfl rfl rfl rfl rfl (X.out.keep (KD.out _ _)) (KD.out w q).size (Steps.ofBelow (KD.out _ _)) hI)
    clear SD NO hI
    generalize (tickI s).isSome = oi at SE ⊢
    generalize tickX s = ox at SE ⊢
    generalize tickN s = on at SE ⊢
    generalize tickS s = os at SE ⊢
    go_enter Try.func17, Try.ntmps17
    go_wp2_with fail
    go_quiet (fail)
    go_wp2_with fail
    refine (SE.out _).mono ?_
    rintro e w2 ⟨a2, c2, rfl, o2, x2, st2⟩
    have FIN := box (And.intro o2 (And.intro x2 st2))
    clear o2 x2 st2
    go_wp2_with fail
    go_ret3
    exact ⟨a2, c2, rfl, FIN.out⟩
  by_cases h2 : s.ks.length = 0
  · have hI : tickI s = none := by unfold tickI; rw [if_neg h1, if_pos h2]
    have e2 : tickS s = s := by unfold tickS; rw [hI]; simp only []; rw [if_pos h2]
    rw [e2] at NO
    have NE := box (fun q => NO.out hI (w.drewN q) (X.out.keep (KD.out _ _)) (Steps.ofBelow (KD.out _ _)))
    rw [e2]
    clear SD NO hI e2
    generalize (tickI s).isSome = oi at NE ⊢
    generalize tickX s = ox at NE ⊢
    generalize tickN s = on at NE ⊢
    go_enter Try.func17, Try.ntmps17
    go_wp2_with fail
    go_quiet (fail)
    go_wp2_with fail
    go_ret3
    exact NE.out _
  have XS := box (show ∀ w1, Below w.heap.size w w1 → ∀ q, RsAt B E ((w1.setCell ⟨g, 7, none⟩ (.int .i64 ((s.si : Int) + 1))).drewN q) g (.slice a s.ks.length c) ⟨s.W, s.τ, s.ks, s.ta, s.ac, s.nx, s.hi, s.si + 1⟩ ∧ Steps g (.slice a s.ks.length c) (.slice a s.ks.length c) w ((w1.setCell ⟨g, 7, none⟩ (.int .i64 ((s.si : Int) + 1))).drewN q) from fun w1 hb q => by
      have x1 := X.out.keep hb
      refine ⟨RsAt.keep (x1.mod (s' := ⟨s.W, s.τ, s.ks, s.ta, s.ac, s.nx, s.hi, s.si + 1⟩) (by simp) (fun k hk => oth_set hk _ _ _) rfl ?_) (KD.out _ _), ?_⟩
      · have h := x1.m.set7 (.int .i64 ((s.si : Int) + 1))
        exact h
      · exact ((Steps.ofBelow hb).trans ⟨(Apart.refl _ _ _).setCell 7 _, fun k hk => .inl hk⟩).trans (Steps.ofBelow (KD.out _ _)))
  by_cases h3 : s.si + 1 < s.τ
  · have hI : tickI s = none := by unfold tickI; rw [if_neg h1, if_neg h2, if_pos h3]
    have e2 : tickS s = ⟨s.W, s.τ, s.ks, s.ta, s.ac, s.nx, s.hi, s.si + 1⟩ := by unfold tickS; rw [hI]; simp only []; rw [if_neg h2]
    rw [e2] at NO
    have NE := box (fun w1 hb q => NO.out hI _ (XS.out w1 hb q).1 (XS.out w1 hb q).2)
    rw [e2]
    clear SD NO hI e2 XS
    generalize (tickI s).isSome = oi at NE ⊢
    generalize tickX s = ox at NE ⊢
    generalize tickN s = on at NE ⊢
    go_enter Try.func17, Try.ntmps17
    go_wp2_with fail
    go_quiet (fail)
    go_wp2_with fail
    go_quiet (fail)
    go_wp2_with fail
    go_ret3
    exact NE.out _ (KD.out _ _) _
  · have hI : tickI s = some 0 := by unfold tickI; rw [if_neg h1, if_neg h2, if_neg h3]
    have SE := box (show ∀ w1, Below w.heap.size w w1 → ∀ q, Calls Try.prog 33 #[.pointer (some ⟨g, 0, none⟩)] (((w1.setCell ⟨g, 7, none⟩ (.int .i64 ((s.si : Int) + 1))).drewN q).setCell ⟨g, 5, none⟩ (.int .i64 0)) fun e w' => ∃ a c_1, e = .returned (.tuple #[.int .i64 (tickN s), .slice a (tickX s).length c_1, .bool (tickI s).isSome]) ∧ Own w.heap.size w' (.slice a (tickX s).length c_1) (tickX s).length (tickX s) ∧ RsAt B E w' g _ (tickS s) ∧ Steps g _ _ w w' from fun w1 hb q => by
      obtain ⟨x1, st1⟩ := XS.out w1 hb q
      refine SD.out ⟨s.W, s.τ, s.ks, s.ta, s.ac, 0, s.hi, s.si + 1⟩ _ (by show 0 < s.ks.length; omega) rfl rfl rfl rfl rfl rfl (x1.mod (by simp) (fun k hk => oth_set hk _ _ _) rfl ?_) ?_ (st1.trans ⟨(Apart.refl _ _ _).setCell 5 _, fun k hk => .inl hk⟩) hI
      · have h := x1.m.set5 (.int .i64 0)
        exact h
      · exact (st1.trans ⟨(Apart.refl _ _ _).setCell 5 (.int .i64 0), fun k hk => .inl hk⟩).apart.size)
    clear SD NO hI XS
    generalize (tickI s).isSome = oi at SE ⊢
    generalize tickX s = ox at SE ⊢
    generalize tickN s = on at SE ⊢
    generalize tickS s = os at SE ⊢
    go_enter Try.func17, Try.ntmps17
    go_wp2_with fail
    go_quiet (fail)
    go_wp2_with fail
    go_quiet (fail)
    go_wp2_with fail
    refine (SE.out _ (KD.out _ _) _).mono ?_
    rintro e w2 ⟨a2, c2, rfl, o2, x2, st2⟩
    have FIN := box (And.intro o2 (And.intro x2 st2))
    clear o2 x2 st2
    go_wp2_with fail
    go_ret3
    exact ⟨a2, c2, rfl, FIN.out⟩
end Go.Proofs.Ytfpicobjnpjhlaa
