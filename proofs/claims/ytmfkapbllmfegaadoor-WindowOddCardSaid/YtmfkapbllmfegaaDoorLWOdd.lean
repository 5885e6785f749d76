/- WindowOdd, walked. -/
import Derived.Test.YtmfkapbllmfegaaDoorWl0
namespace Go.Proofs.YtmfkapbllmfegaaDoor.windowOdd
open Go.RowKit Go.Proofs.YtmfkapbllmfegaaDoor.G Go.Proofs.YtmfkapbllmfegaaDoor.C04 Go.Proofs.YtmfkapbllmfegaaDoor.Sat Go.Proofs.YtmfkapbllmfegaaDoor.W13
set_option maxRecDepth 100000
set_option maxHeartbeats 8000000 in
theorem walk {w : World} {u : Value} {c : Cfg} (hE : Et w) (h : CfgAt w u c) (o : Int) (now : Int) : Calls Tryd.prog 8 #[u, .int .i64 o, .int .i64 now] w fun e w' => e = .returned (.bool true) ∧ Below w.heap.size w w' := by
  obtain ⟨A1, A2, A3, c1, c2, c3, rfl⟩ := agg_of h
  have X0 := Blk.new w 26 #[.int .i64 c.P, .int .i64 c.F, .slice A1 c.ws.length c1, .slice A2 c.cs.length c2, .slice A3 c.ac.length c3]
  have HB := b01 w (.cells #[.int .i64 c.P, .int .i64 c.F, .slice A1 c.ws.length c1, .slice A2 c.cs.length c2, .slice A3 c.ac.length c3] 26)
  have HE := Lib.hid (hE.below HB)
  have HC := Lib.hid h
  clear h hE
  go_enter Tryd.func8, Tryd.ntmps8
  go_wp2_with fail
  refine (lives_any HE.out).mono ?_
  rintro e w1 ⟨rfl, hb1⟩
  have HB1 := bt HB hb1
  have k0 := (X0.bel hb1).cell
  clear HB X0
  go_wp2_with fail
  refine (few13_any HC.out).mono ?_
  rintro e w2 ⟨v2, rfl, hc2, hb2⟩
  have HB2 := bt HB1 hb2
  go_wp2_with fail
  refine (good_any (hc2.below HB2)).mono ?_
  rintro e w4 ⟨v4, g, rfl, ho4, hgood, hb4⟩
  have hg4 := ho4.at_
  obtain ⟨Q1, Q2, Q3, q1, q2, q3, rfl⟩ := agg_of hg4
  have Y1 := Blk.new w4 26 #[.int .i64 g.P, .int .i64 g.F, .slice Q1 g.ws.length q1, .slice Q2 g.cs.length q2, .slice Q3 g.ac.length q3]
  have HB5 := Lib.hid (ba1 (bt HB2 hb4) (.cells #[.int .i64 g.P, .int .i64 g.F, .slice Q1 g.ws.length q1, .slice Q2 g.cs.length q2, .slice Q3 g.ac.length q3] 26))
  have HCG := Lib.hid (hg4.alloc (.cells #[.int .i64 g.P, .int .i64 g.F, .slice Q1 g.ws.length q1, .slice Q2 g.cs.length q2, .slice Q3 g.ac.length q3] 26))
  have HG := Lib.hid hgood
  have HE5 := Lib.hid ((HE.out.below (bt hb1 (bt hb2 hb4))).below (b01 w4 (.cells #[.int .i64 g.P, .int .i64 g.F, .slice Q1 g.ws.length q1, .slice Q2 g.cs.length q2, .slice Q3 g.ac.length q3] 26)))
  have HGB : Hid (w.heap.size ≤ w4.heap.size) := (bt HB2 hb4).size
  have HC4 := Lib.hid hg4
  have HE4 := Lib.hid (HE.out.below (bt hb1 (bt hb2 hb4)))
  have HB4 := Lib.hid (b01 w4 (.cells #[.int .i64 g.P, .int .i64 g.F, .slice Q1 g.ws.length q1, .slice Q2 g.cs.length q2, .slice Q3 g.ac.length q3] 26))
  clear k0 HB1 HB2 hb1 hb2 hb4 ho4 hg4 hc2 HC HE hgood
  obtain ⟨gb, hgb⟩ : ∃ gb, w4.heap.size = gb := ⟨_, rfl⟩
  rw [hgb] at Y1 HGB
  have HGE := Lib.hid hgb
  go_upto_region 4 with fail
  generalize w4.alloc (.cells #[.int .i64 g.P, .int .i64 g.F, .slice Q1 g.ws.length q1, .slice Q2 g.cs.length q2, .slice Q3 g.ac.length q3] 26) = W at *
  clear hgb
  have z0 := Y1.cell
  have zl := Y1.lt
  have zf := Y1.frozen
  have hY6 : Blk (W.setCell ⟨gb, 2, none⟩ (.slice none 0 0)) gb 26 #[.int .i64 g.P, .int .i64 g.F, .slice none 0 0, .slice Q2 g.cs.length q2, .slice Q3 g.ac.length q3] := by
    have := Y1.set_ 2 (.slice none 0 0)
    simpa only [List.setIfInBounds_toArray, List.set_cons_zero, List.set_cons_succ] using this
  have HY := Lib.hid hY6
  clear hY6
  have HB6 := Lib.hid (HB5.out.setCell (p := ⟨gb, 2, none⟩) HGB.out (.slice none 0 0))
  have hB6 : Below w4.heap.size w4 (W.setCell ⟨gb, 2, none⟩ (.slice none 0 0)) := HB4.out.setCell (p := ⟨gb, 2, none⟩) (Nat.le_of_eq HGE.out) _
  have HE6 := Lib.hid (HE4.out.below hB6)
  have HC6 := Lib.hid (cfg_nowin (HC4.out.below hB6))
  clear hB6 Y1 HE5 HCG HB5 HB4 HC4 HE4
  go_upto_region 5 with fail
  clear z0 zl zf
  generalize W.setCell ⟨gb, 2, none⟩ (.slice none 0 0) = V0 at *
  have hn := no_win (P := g.P) (F := g.F) (cs := g.cs) (ac := g.ac)
  have e1 : whoV ⟨g.P, g.F, [], g.cs, g.ac⟩ now = none := if_neg hn
  have e2 : ∀ o, (phV ⟨g.P, g.F, [], g.cs, g.ac⟩ o).length = 0 := fun o => by rw [phv_bad hn]; rfl
  have e3 : befV ⟨g.P, g.F, [], g.cs, g.ac⟩ o now = 0 := if_neg hn
  have e4 : ∀ n, nthV ⟨g.P, g.F, [], g.cs, g.ac⟩ o n = -1 := fun n => by rw [nthV, e2]; rfl
  have e5 : srvV ⟨g.P, g.F, [], g.cs, g.ac⟩ now = none := srv_no (by rw [e1]; simp)
  have CW : Hid (∀ V, Below V0.heap.size V0 V → Calls Tryd.prog 15 #[.agg #[.int .i64 g.P, .int .i64 g.F, .slice none 0 0, .slice Q2 g.cs.length q2, .slice Q3 g.ac.length q3], .int .i64 now] V fun e w' => e = .returned (.tuple #[.int .i64 0, .bool false]) ∧ Below V.heap.size V w') := fun V hV => by
    have := whose_any (HE6.out.below hV) (HC6.out.below hV) now
    rw [e1] at this; exact this
  have CS : Hid (∀ V, Below V0.heap.size V0 V → Calls Tryd.prog 19 #[.agg #[.int .i64 g.P, .int .i64 g.F, .slice none 0 0, .slice Q2 g.cs.length q2, .slice Q3 g.ac.length q3], .int .i64 now] V fun e w' => e = .returned (.tuple #[.int .i64 0, .bool false]) ∧ Below V.heap.size V w') := fun V hV => by
    have := serves_any (HE6.out.below hV) (HC6.out.below hV) (by have := HG.out.2.2.1; show g.cs.length ≤ 1000; omega) now
    rw [e5] at this; exact this
  have CC : Hid (∀ V, Below V0.heap.size V0 V → Calls Tryd.prog 18 #[.agg #[.int .i64 g.P, .int .i64 g.F, .slice none 0 0, .slice Q2 g.cs.length q2, .slice Q3 g.ac.length q3], .int .i64 o] V fun e w' => e = .returned (.int .i64 0) ∧ Below V.heap.size V w') := fun V hV => by
    have := count_any (HE6.out.below hV) (HC6.out.below hV) o
    rw [e2] at this; exact this
  have CB : Hid (∀ V, Below V0.heap.size V0 V → Calls Tryd.prog 14 #[.agg #[.int .i64 g.P, .int .i64 g.F, .slice none 0 0, .slice Q2 g.cs.length q2, .slice Q3 g.ac.length q3], .int .i64 o, .int .i64 now] V fun e w' => e = .returned (.int .i64 0) ∧ Below V.heap.size V w') := fun V hV => by
    have := before_any (HE6.out.below hV) (HC6.out.below hV) o now
    rw [e3] at this; exact this
  have CU : Hid (∀ V, Below V0.heap.size V0 V → Calls Tryd.prog 17 #[.agg #[.int .i64 g.P, .int .i64 g.F, .slice none 0 0, .slice Q2 g.cs.length q2, .slice Q3 g.ac.length q3], .int .i64 o, .int .i64 now] V fun e w' => e = .returned (.int .i64 (-1)) ∧ Below V.heap.size V w') := fun V hV => by
    have := until_any (HE6.out.below hV) (HC6.out.below hV) o now
    rw [untV, e4] at this; exact this
  have CN : Hid (∀ V, Below V0.heap.size V0 V → Calls Tryd.prog 16 #[.agg #[.int .i64 g.P, .int .i64 g.F, .slice none 0 0, .slice Q2 g.cs.length q2, .slice Q3 g.ac.length q3], .int .i64 o, .int .i64 now] V fun e w' => e = .returned (.int .i64 (-1)) ∧ Below V.heap.size V w') := fun V hV => by
    have := nth_any (HE6.out.below hV) (HC6.out.below hV) o now
    rw [e4] at this; exact this
  have HS : Hid (∀ V, Below V0.heap.size V0 V → (∀ i, V.cell? ⟨gb, i, none⟩ = (#[.int .i64 g.P, .int .i64 g.F, .slice none 0 0, .slice Q2 g.cs.length q2, .slice Q3 g.ac.length q3] : Array Value)[i]?)) := fun V hV => (HY.out.bel hV).cell
  clear hn e1 e2 e3 e4 e5 HE6 HC6
  have S0 : Below V0.heap.size V0 V0 := Below.refl _ _
  have q0 := HS.out _ S0
  go_wp2_with fail
  refine (CW.out _ S0).mono ?_
  rintro e w5 ⟨rfl, hb5⟩
  have S0 := bt S0 hb5
  clear q0 hb5
  have q0 := HS.out _ S0
  go_wp2_with fail
  refine (CS.out _ S0).mono ?_
  rintro e w6 ⟨rfl, hb6⟩
  have S0 := bt S0 hb6
  clear q0 hb6
  have q0 := HS.out _ S0
  go_upto_region 7 with fail
  clear q0
  have S0 := S0.drew
  go_region_held3 (fun V => ∀ i, V.cell? ⟨gb, i, none⟩ = (#[.int .i64 g.P, .int .i64 g.F, .slice none 0 0, .slice Q2 g.cs.length q2, .slice Q3 g.ac.length q3] : Array Value)[i]?) (first | (with_reducible exact HS.out _ S0) | fail)
    (first
      | (go_at_call 18; (with_reducible refine (CC.out _ S0).mono ?_); rintro e w7 ⟨rfl, hb7⟩; have S0 := bt S0 hb7)
      | (go_at_call 14; (with_reducible refine (CB.out _ S0).mono ?_); rintro e w7 ⟨rfl, hb7⟩; have S0 := bt S0 hb7)
      | (go_at_call 17; (with_reducible refine (CU.out _ S0).mono ?_); rintro e w7 ⟨rfl, hb7⟩; have S0 := bt S0 hb7)
      | (go_at_call 16; (with_reducible refine (CN.out _ S0).mono ?_); rintro e w7 ⟨rfl, hb7⟩; have S0 := bt S0 hb7)
      | fail)
  all_goals
    go_wp2_with fail
    go_ret
    exact ⟨rfl, bt HB6.out S0⟩
end Go.Proofs.YtmfkapbllmfegaaDoor.windowOdd
