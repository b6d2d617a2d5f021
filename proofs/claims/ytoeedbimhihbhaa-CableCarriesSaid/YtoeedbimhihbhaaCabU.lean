/- CableCarries: its walk. -/
import Derived.Test.YtoeedbimhihbhaaCabT
namespace Go.Proofs.Ytoeedbimhihbhaa
open Go.RowKit

set_option maxRecDepth 100000 in
set_option maxHeartbeats 8000000 in
theorem carries_any (y : Nat) (hy : y < 256) (b : Option Addr) (n c : Nat) (l : List (List Nat)) (hn : l.length = n) (hx : ∀ xs ∈ l, ∀ x ∈ xs, x < 256) (hnil : b = none → c = 0) (hcap : n ≤ c) (w : World) (hl : BsIn w b l) :
    Calls Try.prog 5 #[.int .u8 y, .slice b n c] w fun e w' => e = .returned (.bool true) ∧ Below w.heap.size w w' := by
  have HL := box hl
  have HX := box hx
  have HNIL := box hnil
  clear hl hx hnil
  go_enter Try.func5, Try.ntmps5
  go_wp2_with fail
  refine (awake_any w).mono ?_
  rintro e w1 ⟨rfl, hb1⟩
  have B1 := box hb1
  clear hb1
  by_cases hbig : 150 < n
  · have d1 : decide ((150 : Int) < (n : Int)) = true := decide_eq_true (by omega)
    go_wp2_with fail
    refine (awake_any w1).mono ?_
    rintro e w2 ⟨rfl, hb2⟩
    go_wp2_with fail
    go_ret
    exact ⟨rfl, B1.out.trans (hb2.mono B1.out.size)⟩
  have d1 : decide ((150 : Int) < (n : Int)) = false := decide_eq_false (by omega)
  obtain ⟨d, hD⟩ : ∃ d, 1 + y % 100 = d := ⟨_, rfl⟩
  have eD : (1 : Int) + (y : Int) % 100 = (d : Int) := by omega
  have lD : 1 ≤ d := by omega
  have lD2 : d ≤ 100 := by omega
  clear hD
  obtain ⟨B, hB⟩ : ∃ B, w1.heap.size = B := ⟨_, rfl⟩
  have NW := new_ok d lD lD2 none 0 0 [] rfl (by decide) (fun _ => rfl) rfl w1 (.inl rfl)
  rw [hB] at NW
  have NW2 := box NW
  have HB := box hB
  have B1S := box (show w.heap.size ≤ B from by rw [← hB]; exact B1.out.size)
  clear NW hB
  go_wp2_with fail
  refine NW2.out.mono ?_
  rintro e w2 ⟨g, fa, fc, rfl, hb2, x2⟩
  have X2 := box x2
  have K2 := box hb2
  clear NW2 hb2 x2
  obtain ⟨N, hN⟩ : ∃ N, min n 64 = N := ⟨_, rfl⟩
  have HN := box hN
  clear hN
  have hn150 : n ≤ 150 := by omega
  go_wp2_with fail
  go_loopw [8, 9] (fun t8 t9 wr => ∃ (i : Nat) (v : Value) (fl : List Fl) (aa : Option Addr) (A ac : Nat) (cells : List Value), i ≤ n + d ∧ t9 = .int .i64 i ∧ t8 = .slice aa A ac ∧ Box (A = min N (i + 1 - d)) ∧ Box (CabAt B (fun k => k < B ∨ (Value.slice aa A ac).ownBlock = some k) wr g v ⟨d, fa, fc, [], true, i, min i N, fl, 0⟩) ∧ Box (Flight l d A (min i N) fl) ∧ Box (wr.ownsRow B 36 1 (.slice aa A ac) A cells) ∧ Box (ArrOk wr g v (.slice aa A ac) cells l) ∧ Box (Below B w1 wr)) (fun _ t9 _ => n + d - (intOf t9).toNat)
  case atStart =>
    refine ⟨0, .slice none 0 0, [], none, 0, 0, [], by omega, rfl, rfl, box (by omega), box ?_, box ⟨by simp, fun q hq => by simp at hq⟩, box (World.ownsRow_nil _ _ _ _), box (fun j hj => by simp at hj), K2⟩
    rw [Nat.zero_min]
    exact X2.out.zone (fun k _ h => h.elim id (fun h => by cases h))
  case round =>
    obtain ⟨i, v, fl, aa, A, ac, cells, hi, rfl, rfl, HA, hX, FLI0, AR, AO, BW⟩ := hrel
    by_cases hlt : i < n + d
    · have dl : decide ((i : Int) < (n : Int) + (d : Int)) = true := decide_eq_true (by omega)
      by_cases hs : i < n ∧ i < 64
      · have ds1 : decide (i < n) = true := decide_eq_true hs.1
        have ds2 : decide (i < 64) = true := decide_eq_true hs.2
        obtain ⟨hs1, hs2⟩ := hs
        have kw := box (show Below w.heap.size w wr from B1.out.trans (BW.out.mono B1S.out))
        obtain ⟨gg, ii, xa, xl, xc, rfl, z0, z2, z3, z4⟩ := (HL.out.below kw.out).at (show i < l.length by omega)
        have HXS := box (show ∀ x ∈ l[i]'(by omega), x < 256 from HX.out _ (List.getElem_mem _))
        have HGD := box (show l.getD i [] = l[i]'(by omega) by rw [List.getD_eq_getElem?_getD, List.getElem?_eq_getElem (show i < l.length by omega)]; rfl)
        have HLOW := box (show l[i]'(by omega) ≠ [] → ∀ q, xa = some q → q.block < B from fun hne q hq => by
          obtain ⟨g', i', xa', xl', xc', he, y0, y2, y3, y4⟩ := HL.out.at (show i < l.length by omega)
          cases he
          have e1 := kw.out.cell (p := ⟨gg, ii + i, none⟩) (World.block_lt_of_cell? w ⟨gg, ii + i, none⟩ y0)
          rw [z0, y0] at e1
          cases e1
          rw [hq] at y3
          exact Nat.lt_of_lt_of_le (in_lt y3 hne) B1S.out)
        generalize l[i]'(by omega) = data at z2 z3 HXS HGD HLOW
        have lx := World.block_lt_of_cell? wr ⟨gg, ii + i, none⟩ z0
        by_cases h60 : 60 < xl
        · have d60 : decide ((60 : Int) < (xl : Int)) = true := decide_eq_true (by omega)
          go_wp2_with fail
          go_ret
          exact ⟨rfl, kw.out⟩
        have d60 : decide ((60 : Int) < (xl : Int)) = false := decide_eq_false (by omega)
        have hSN : min i N = i := by have := HN.out; omega
        have hSN1 : min (i + 1) N = i + 1 := by have := HN.out; omega
        have FL0 := FLI0.out
        have XX := hX.out
        rw [hSN] at FL0 XX
        have FLB := box FL0
        have XB := box XX
        have hfl64 : fl.length < 64 := by rw [FL0.len]; omega
        have SD := box (send_any B (fun k => k < B ∨ (Value.slice aa A ac).ownBlock = some k) g v _ wr (fun k h => h.elim (fun h => Nat.lt_of_lt_of_le h (Nat.le_trans XX.hB (Nat.le_of_lt XX.lt))) (fun h => (row_blk AR.out k h).2)) XX xa xl xc data z2 HXS.out (by omega) z3 z4 (fun hne q hq => .inl (HLOW.out hne q hq)) (by simp; omega) lD2 (by simp; omega) (by simp))
        have HSN1 := box hSN1
        clear XX FL0 z2 z3 z4 HLOW hSN hSN1
        go_wp2_with fail
        refine SD.out.mono ?_
        rintro e w4 ⟨v4, s4, code, rfl, hr, x4, st4⟩
        obtain ⟨rfl, f, e1, e2, rfl⟩ := sendN_ok hfl64 hr
        have XW := box (show CabAt B (fun k => k < B ∨ (Value.slice aa A ac).ownBlock = some k) w4 g v4 ⟨d, fa, fc, [], true, i, min (i + 1) N, fl ++ [f], 0⟩ by rw [HSN1.out]; exact x4)
        have FLI := box (show Flight l d A (min (i + 1) N) (fl ++ [f]) by rw [HSN1.out]; exact FLB.out.send (by have := HA.out; omega) (by rw [e1, HGD.out]) e2)
        have AR4 := box (row_same AR.out (fun q hq => st4.apart.block q (row_blk AR.out q hq).2 (fun e => XB.out.gz (.inr (by rw [← e]; exact hq))) (fun e => XB.out.vz q e.symm (.inr hq))))
        have AO4 := box (AO.out.steps st4)
        have BW4 := box (XB.out.steps st4 BW.out)
        clear hr x4 st4 e1 e2 SD XB FLB hX FLI0 AR AO BW z0 lx hfl64
        have AR := AR4
        have AO := AO4
        have BW := BW4
        clear AR4 AO4 BW4
        generalize fl ++ [f] = FL2 at XW FLI
        have DU := box (FLI.out.due (by omega) HA.out rfl)
        obtain ⟨K, hK⟩ : ∃ K, min N (i + 2 - d) - A = K := ⟨_, rfl⟩
        rw [hK] at DU
        have HK := box hK
        have hK1 : K ≤ 1 := by have := HA.out; omega
        have hKd : 0 < K → d ≤ i + 1 := fun h => by have := HA.out; omega
        have hKA : A + K = min N (i + 2 - d) := by have := HA.out; omega
        have HKA := box hKA
        clear hK hKA
        have TK := tick_any B (fun k => k < B ∨ (Value.slice aa A ac).ownBlock = some k) g v4 _ w4 XW.out (by simp; omega)
        simp only [DU.out] at TK
        have TK2 := box TK
        clear TK
        go_wp2_with fail
        refine TK2.out.mono ?_
        rintro e w9 ⟨v9, ra, rc, rfl, hrow, x9, st9, hown, hsym⟩
        have hle : K ≤ FL2.length := by rw [← DU.out]; exact due_le _ _
        have X9 := box x9
        have S9 := box st9
        have AR9 := box (row_same AR.out (fun q hq => st9.apart.block q (row_blk AR.out q hq).2 (fun e => XW.out.gz (.inr (by rw [← e]; exact hq))) (fun e => XW.out.vz q e.symm (.inr hq))))
        have AO9 := box (AO.out.steps st9)
        have B9 := box (XW.out.steps st9 BW.out)
        have HNW := box (show (∀ ad, ra = some ad → ∀ j u, ((FL2.take K).map slV)[j]? = some u → w9.cell? (ad.add j) = some u) ∧ (ra = none → rc = 0 ∧ K = 0) from by
          rcases row_form hrow with ⟨h1, h2, h3⟩ | ⟨b, cap, h1, _, _, _, _, h2⟩
          · cases h1
            exact ⟨(fun ad h => by cases h), (fun _ => ⟨rfl, h2⟩)⟩
          · cases h1
            exact ⟨(fun ad h j u hu => by cases h; rw [add_off]; exact h2 j u hu), (fun h => by cases h)⟩)
        have HNL := box (show ((FL2.take K).map slV).length = K by rw [List.length_map, List.length_take]; omega)
        have HNO := box (slV_one (FL2.take K))
        have HNE := box (show ∀ j, j < ((FL2.take K).map slV).length → ∃ a c, ((FL2.take K).map slV)[j]? = some (.slice a (l.getD (A + j) []).length c) ∧ SymIn (fun k => k = g ∨ v9.ownBlock = some k ∨ (Value.slice aa A ac).ownBlock = some k) w9 a c (l.getD (A + j) []) from fun j hj => by
          rw [HNL.out] at hj
          have hjf : j < FL2.length := by omega
          refine ⟨FL2[j].a, FL2[j].c, ?_, ?_⟩
          · rw [List.getElem?_map, List.getElem?_take, if_pos hj, List.getElem?_eq_getElem hjf]
            show some (Value.slice _ FL2[j].xs.length _) = _
            rw [(FLI.out.each j hjf).1]
          · rw [← (FLI.out.each j hjf).1]
            exact (hsym _ (List.getElem_mem hjf)).excl (fun k _ hE => by
              rcases hE with h | h | h
              · exact .inr (.inl h)
              · exact .inr (.inr h)
              · exact .inl (.inr h)))
        have FLD := box (FLI.out.drop HKA.out)
        have CL := box (show cells.length = A from by have := AR.out.1; omega)
        clear TK2 x9 st9 hown hsym hrow hle
        generalize (FL2.take K).map slV = news at HNW HNL HNO HNE
        have hA150 : A ≤ 150 := by have := HA.out; omega
        have hBs : B ≤ w9.heap.size := Nat.le_trans X9.out.hB (Nat.le_of_lt X9.out.lt)
        go_wp2_with (at_builtin; refine wpList_append_bs (o := ⟨some 77, _, _, _, _, _⟩) rfl (.tmp 75) (.tmp 76) rfl B (.slice aa A ac) A cells rfl AR9.out ra K rc news rfl HNL.out HNW.out.2 HNW.out.1 HNO.out (by omega) hBs ?_; intro va4 vc4 w10 ho hg hfar)
        all_goals
          have AO10 := box ((AO9.out.add (fun j hj => by rw [CL.out]; exact HNE.out j hj)).grown hg.out hfar.out)
          have X10 := box (((X9.out.fresh (Z' := fun k => (k < B ∨ (Value.slice aa A ac).ownBlock = some k) ∨ k = w9.heap.size) (fun k h => h.imp id (fun h => by omega))).same (w' := w10) (fun k hk hz => hg.out.block k hk (fun e => hz (.inl (.inr e.symm))))).zone (Z' := fun k => k < B ∨ (Value.slice va4 (A + K) vc4).ownBlock = some k) (fun k _ h => by
            rcases h with h | h
            · exact .inl (.inl h)
            · rcases hfar.out with h2 | h2
              · exact .inl (.inr (h2 ▸ h))
              · rw [h2] at h; exact .inr (Option.some.inj h).symm))
          have B10 := box (own_below AR9.out (Nat.le_refl _) B9.out hBs hg.out)
          go_wp2_with fail
          go_roundw
          case rel =>
            refine ⟨i + 1, v9, FL2.drop K, va4, A + K, vc4, cells ++ news, by omega, by go_num, rfl, box (by rw [HKA.out]), box ?_, box ?_, ho, AO10, B10⟩
            · exact X10.out
            · rw [HKA.out]; exact FLD.out
          case measure => simp [intOf]; omega
      · by_cases h1 : i < n
        · have ds1 : decide (i < n) = true := decide_eq_true h1
          have ds2 : decide (i < 64) = false := decide_eq_false (fun h => hs ⟨h1, h⟩)
          have h64 : ¬ i < 64 := fun h => hs ⟨h1, h⟩
          have hge : N ≤ i := by have := HN.out; omega
          clear hs
          have hSN : min (i + 1) N = min i N := by have := HN.out; omega
          have XW := box (show CabAt B (fun k => k < B ∨ (Value.slice aa A ac).ownBlock = some k) wr g v ⟨d, fa, fc, [], true, i, min (i + 1) N, fl, 0⟩ by rw [hSN]; exact hX.out)
          have FLI := box (show Flight l d A (min (i + 1) N) fl by rw [hSN]; exact FLI0.out)
          clear hSN hX FLI0
          have DU := box (FLI.out.due (by omega) HA.out rfl)
          obtain ⟨K, hK⟩ : ∃ K, min N (i + 2 - d) - A = K := ⟨_, rfl⟩
          rw [hK] at DU
          have HK := box hK
          have hK1 : K ≤ 1 := by have := HA.out; omega
          have hKd : 0 < K → d ≤ i + 1 := fun h => by have := HA.out; omega
          have hKA : A + K = min N (i + 2 - d) := by have := HA.out; omega
          have HKA := box hKA
          clear hK hKA
          have TK := tick_any B (fun k => k < B ∨ (Value.slice aa A ac).ownBlock = some k) g v _ wr XW.out (by simp; omega)
          simp only [DU.out] at TK
          have TK2 := box TK
          clear TK
          go_wp2_with fail
          refine TK2.out.mono ?_
          rintro e w9 ⟨v9, ra, rc, rfl, hrow, x9, st9, hown, hsym⟩
          have hle : K ≤ fl.length := by rw [← DU.out]; exact due_le _ _
          have X9 := box x9
          have S9 := box st9
          have AR9 := box (row_same AR.out (fun q hq => st9.apart.block q (row_blk AR.out q hq).2 (fun e => XW.out.gz (.inr (by rw [← e]; exact hq))) (fun e => XW.out.vz q e.symm (.inr hq))))
          have AO9 := box (AO.out.steps st9)
          have B9 := box (XW.out.steps st9 BW.out)
          have HNW := box (show (∀ ad, ra = some ad → ∀ j u, ((fl.take K).map slV)[j]? = some u → w9.cell? (ad.add j) = some u) ∧ (ra = none → rc = 0 ∧ K = 0) from by
            rcases row_form hrow with ⟨h1, h2, h3⟩ | ⟨b, cap, h1, _, _, _, _, h2⟩
            · cases h1
              exact ⟨(fun ad h => by cases h), (fun _ => ⟨rfl, h2⟩)⟩
            · cases h1
              exact ⟨(fun ad h j u hu => by cases h; rw [add_off]; exact h2 j u hu), (fun h => by cases h)⟩)
          have HNL := box (show ((fl.take K).map slV).length = K by rw [List.length_map, List.length_take]; omega)
          have HNO := box (slV_one (fl.take K))
          have HNE := box (show ∀ j, j < ((fl.take K).map slV).length → ∃ a c, ((fl.take K).map slV)[j]? = some (.slice a (l.getD (A + j) []).length c) ∧ SymIn (fun k => k = g ∨ v9.ownBlock = some k ∨ (Value.slice aa A ac).ownBlock = some k) w9 a c (l.getD (A + j) []) from fun j hj => by
            rw [HNL.out] at hj
            have hjf : j < fl.length := by omega
            refine ⟨fl[j].a, fl[j].c, ?_, ?_⟩
            · rw [List.getElem?_map, List.getElem?_take, if_pos hj, List.getElem?_eq_getElem hjf]
              show some (Value.slice _ fl[j].xs.length _) = _
              rw [(FLI.out.each j hjf).1]
            · rw [← (FLI.out.each j hjf).1]
              exact (hsym _ (List.getElem_mem hjf)).excl (fun k _ hE => by
                rcases hE with h | h | h
                · exact .inr (.inl h)
                · exact .inr (.inr h)
                · exact .inl (.inr h)))
          have FLD := box (FLI.out.drop HKA.out)
          have CL := box (show cells.length = A from by have := AR.out.1; omega)
          clear TK2 x9 st9 hown hsym hrow hle
          generalize (fl.take K).map slV = news at HNW HNL HNO HNE
          have hA150 : A ≤ 150 := by have := HA.out; omega
          have hBs : B ≤ w9.heap.size := Nat.le_trans X9.out.hB (Nat.le_of_lt X9.out.lt)
          go_wp2_with (at_builtin; refine wpList_append_bs (o := ⟨some 77, _, _, _, _, _⟩) rfl (.tmp 75) (.tmp 76) rfl B (.slice aa A ac) A cells rfl AR9.out ra K rc news rfl HNL.out HNW.out.2 HNW.out.1 HNO.out (by omega) hBs ?_; intro va4 vc4 w10 ho hg hfar)
          all_goals
            have AO10 := box ((AO9.out.add (fun j hj => by rw [CL.out]; exact HNE.out j hj)).grown hg.out hfar.out)
            have X10 := box (((X9.out.fresh (Z' := fun k => (k < B ∨ (Value.slice aa A ac).ownBlock = some k) ∨ k = w9.heap.size) (fun k h => h.imp id (fun h => by omega))).same (w' := w10) (fun k hk hz => hg.out.block k hk (fun e => hz (.inl (.inr e.symm))))).zone (Z' := fun k => k < B ∨ (Value.slice va4 (A + K) vc4).ownBlock = some k) (fun k _ h => by
              rcases h with h | h
              · exact .inl (.inl h)
              · rcases hfar.out with h2 | h2
                · exact .inl (.inr (h2 ▸ h))
                · rw [h2] at h; exact .inr (Option.some.inj h).symm))
            have B10 := box (own_below AR9.out (Nat.le_refl _) B9.out hBs hg.out)
            go_wp2_with fail
            go_roundw
            case rel =>
              refine ⟨i + 1, v9, fl.drop K, va4, A + K, vc4, cells ++ news, by omega, by go_num, rfl, box (by rw [HKA.out]), box ?_, box ?_, ho, AO10, B10⟩
              · exact X10.out
              · rw [HKA.out]; exact FLD.out
            case measure => simp [intOf]; omega
        · have ds1 : decide (i < n) = false := decide_eq_false h1
          have hge : N ≤ i := by have := HN.out; omega
          clear hs
          have hSN : min (i + 1) N = min i N := by have := HN.out; omega
          have XW := box (show CabAt B (fun k => k < B ∨ (Value.slice aa A ac).ownBlock = some k) wr g v ⟨d, fa, fc, [], true, i, min (i + 1) N, fl, 0⟩ by rw [hSN]; exact hX.out)
          have FLI := box (show Flight l d A (min (i + 1) N) fl by rw [hSN]; exact FLI0.out)
          clear hSN hX FLI0
          have DU := box (FLI.out.due (by omega) HA.out rfl)
          obtain ⟨K, hK⟩ : ∃ K, min N (i + 2 - d) - A = K := ⟨_, rfl⟩
          rw [hK] at DU
          have HK := box hK
          have hK1 : K ≤ 1 := by have := HA.out; omega
          have hKd : 0 < K → d ≤ i + 1 := fun h => by have := HA.out; omega
          have hKA : A + K = min N (i + 2 - d) := by have := HA.out; omega
          have HKA := box hKA
          clear hK hKA
          have TK := tick_any B (fun k => k < B ∨ (Value.slice aa A ac).ownBlock = some k) g v _ wr XW.out (by simp; omega)
          simp only [DU.out] at TK
          have TK2 := box TK
          clear TK
          go_wp2_with fail
          refine TK2.out.mono ?_
          rintro e w9 ⟨v9, ra, rc, rfl, hrow, x9, st9, hown, hsym⟩
          have hle : K ≤ fl.length := by rw [← DU.out]; exact due_le _ _
          have X9 := box x9
          have S9 := box st9
          have AR9 := box (row_same AR.out (fun q hq => st9.apart.block q (row_blk AR.out q hq).2 (fun e => XW.out.gz (.inr (by rw [← e]; exact hq))) (fun e => XW.out.vz q e.symm (.inr hq))))
          have AO9 := box (AO.out.steps st9)
          have B9 := box (XW.out.steps st9 BW.out)
          have HNW := box (show (∀ ad, ra = some ad → ∀ j u, ((fl.take K).map slV)[j]? = some u → w9.cell? (ad.add j) = some u) ∧ (ra = none → rc = 0 ∧ K = 0) from by
            rcases row_form hrow with ⟨h1, h2, h3⟩ | ⟨b, cap, h1, _, _, _, _, h2⟩
            · cases h1
              exact ⟨(fun ad h => by cases h), (fun _ => ⟨rfl, h2⟩)⟩
            · cases h1
              exact ⟨(fun ad h j u hu => by cases h; rw [add_off]; exact h2 j u hu), (fun h => by cases h)⟩)
          have HNL := box (show ((fl.take K).map slV).length = K by rw [List.length_map, List.length_take]; omega)
          have HNO := box (slV_one (fl.take K))
          have HNE := box (show ∀ j, j < ((fl.take K).map slV).length → ∃ a c, ((fl.take K).map slV)[j]? = some (.slice a (l.getD (A + j) []).length c) ∧ SymIn (fun k => k = g ∨ v9.ownBlock = some k ∨ (Value.slice aa A ac).ownBlock = some k) w9 a c (l.getD (A + j) []) from fun j hj => by
            rw [HNL.out] at hj
            have hjf : j < fl.length := by omega
            refine ⟨fl[j].a, fl[j].c, ?_, ?_⟩
            · rw [List.getElem?_map, List.getElem?_take, if_pos hj, List.getElem?_eq_getElem hjf]
              show some (Value.slice _ fl[j].xs.length _) = _
              rw [(FLI.out.each j hjf).1]
            · rw [← (FLI.out.each j hjf).1]
              exact (hsym _ (List.getElem_mem hjf)).excl (fun k _ hE => by
                rcases hE with h | h | h
                · exact .inr (.inl h)
                · exact .inr (.inr h)
                · exact .inl (.inr h)))
          have FLD := box (FLI.out.drop HKA.out)
          have CL := box (show cells.length = A from by have := AR.out.1; omega)
          clear TK2 x9 st9 hown hsym hrow hle
          generalize (fl.take K).map slV = news at HNW HNL HNO HNE
          have hA150 : A ≤ 150 := by have := HA.out; omega
          have hBs : B ≤ w9.heap.size := Nat.le_trans X9.out.hB (Nat.le_of_lt X9.out.lt)
          go_wp2_with (at_builtin; refine wpList_append_bs (o := ⟨some 77, _, _, _, _, _⟩) rfl (.tmp 75) (.tmp 76) rfl B (.slice aa A ac) A cells rfl AR9.out ra K rc news rfl HNL.out HNW.out.2 HNW.out.1 HNO.out (by omega) hBs ?_; intro va4 vc4 w10 ho hg hfar)
          all_goals
            have AO10 := box ((AO9.out.add (fun j hj => by rw [CL.out]; exact HNE.out j hj)).grown hg.out hfar.out)
            have X10 := box (((X9.out.fresh (Z' := fun k => (k < B ∨ (Value.slice aa A ac).ownBlock = some k) ∨ k = w9.heap.size) (fun k h => h.imp id (fun h => by omega))).same (w' := w10) (fun k hk hz => hg.out.block k hk (fun e => hz (.inl (.inr e.symm))))).zone (Z' := fun k => k < B ∨ (Value.slice va4 (A + K) vc4).ownBlock = some k) (fun k _ h => by
              rcases h with h | h
              · exact .inl (.inl h)
              · rcases hfar.out with h2 | h2
                · exact .inl (.inr (h2 ▸ h))
                · rw [h2] at h; exact .inr (Option.some.inj h).symm))
            have B10 := box (own_below AR9.out (Nat.le_refl _) B9.out hBs hg.out)
            go_wp2_with fail
            go_roundw
            case rel =>
              refine ⟨i + 1, v9, fl.drop K, va4, A + K, vc4, cells ++ news, by omega, by go_num, rfl, box (by rw [HKA.out]), box ?_, box ?_, ho, AO10, B10⟩
              · exact X10.out
              · rw [HKA.out]; exact FLD.out
            case measure => simp [intOf]; omega
    · skip
      have dl : decide ((i : Int) < (n : Int) + (d : Int)) = false := decide_eq_false (by omega)
      have hAN : A = N := by have := HA.out; have := HN.out; omega
      have hS : min i N = N := by have := HN.out; omega
      have HAN := box hAN
      have hflz : fl = [] := List.eq_nil_of_length_eq_zero (by rw [FLI0.out.len]; omega)
      have HFZ := box hflz
      have CL := box (show cells.length = A from by have := AR.out.1; omega)
      have kw := box (show Below w.heap.size w wr from B1.out.trans (BW.out.mono B1S.out))
      have hN1 : N ≤ n := by have := HN.out; omega
      have LEN := box (show (l.take N).length = N by rw [List.length_take]; omega)
      have BA := box (show BsIn wr aa (l.take N) from by
        rcases row_form AR.out with ⟨h1, h2, h3⟩ | ⟨q, cap, h1, _, _, _, _, h2⟩
        · left; rw [show N = 0 by omega, List.take_zero]
        · cases h1
          refine .inr ⟨q, 0, rfl, fun j hj => ?_⟩
          rw [LEN.out] at hj
          obtain ⟨a', c', h3, h4⟩ := AO.out j (by rw [CL.out]; omega)
          have e1 : (l.take N)[j]'(by rw [LEN.out]; exact hj) = l.getD j [] := by
            rw [List.getElem_take, List.getD_eq_getElem?_getD, List.getElem?_eq_getElem (show j < l.length by omega)]; rfl
          rw [e1, Nat.zero_add]
          exact ⟨a', _, c', h2 j _ h3, rfl, h4.inn, h4.nil⟩)
      have BB := box (show BsIn wr b (l.take N) from by
        rcases HL.out.below kw.out with h | ⟨g', i', h1, h2⟩
        · left; rw [h, List.take_nil]
        · refine .inr ⟨g', i', h1, fun j hj => ?_⟩
          rw [LEN.out] at hj
          have := h2 j (by omega)
          rw [List.getElem_take]
          exact this)
      have SM := box (same_any aa b N ac c (l.take N) LEN.out (by have := HN.out; omega) wr BA.out BB.out)
      rw [← hAN] at SM
      have hmn : min (n : Int) 64 = (A : Int) := by have := HN.out; omega
      have hmi : (if (64 : Int) < (n : Int) then (64 : Int) else (n : Int)) = (A : Int) := by have := HN.out; split <;> omega
      have hAc : A ≤ c := by omega
      have hAn : A ≤ n := by omega
      have XZ := box (show CabAt B (fun k => k < B ∨ (Value.slice aa A ac).ownBlock = some k) wr g v ⟨d, fa, fc, [], true, i, min i N, [], 0⟩ by have h := hX.out; rw [hflz] at h; exact h)
      clear hflz hAN hS hX
      go_wp2_with fail
      refine SM.out.mono ?_
      rintro e w5 ⟨rfl, hb5⟩
      have X5 := box (XZ.out.keep hb5)
      have K5 := box (kw.out.trans (hb5.mono kw.out.size))
      go_wp2_with fail
      refine (flying_any _ _ _ _ _ _ X5.out).mono ?_
      rintro e w6 ⟨rfl, rfl⟩
      go_wp2_with fail
      refine (lost_any _ _ _ _ _ _ X5.out).mono ?_
      rintro e w6 ⟨rfl, rfl⟩
      go_wp2_with fail
      go_ret
      exact ⟨by simp, K5.out⟩
end Go.Proofs.Ytoeedbimhihbhaa
