/- WindowCalls, walked. -/
import Derived.Test.YtmfkapbllmfegaaDoorWSm
namespace Go.Proofs.YtmfkapbllmfegaaDoor.windowCalls
open Go.RowKit Go.Proofs.YtmfkapbllmfegaaDoor.G Go.Proofs.YtmfkapbllmfegaaDoor.C04 Go.Proofs.YtmfkapbllmfegaaDoor.Sat Go.Proofs.YtmfkapbllmfegaaDoor.W13
set_option maxRecDepth 100000
set_option maxHeartbeats 8000000 in
theorem walk {w : World} {u : Value} {c : Cfg} (hE : Et w) (h : CfgAt w u c) (o now : Int) : Calls Tryd.prog 3 #[u, .int .i64 o, .int .i64 now] w fun e w' => e = .returned (.bool true) ∧ Below w.heap.size w w' := by
  obtain ⟨A1, A2, A3, c1, c2, c3, rfl⟩ := agg_of h
  have X0 := Blk.new w 26 #[.int .i64 c.P, .int .i64 c.F, .slice A1 c.ws.length c1, .slice A2 c.cs.length c2, .slice A3 c.ac.length c3]
  have HB := b01 w (.cells #[.int .i64 c.P, .int .i64 c.F, .slice A1 c.ws.length c1, .slice A2 c.cs.length c2, .slice A3 c.ac.length c3] 26)
  have HE := Lib.hid hE
  have HE0 := Lib.hid (hE.below HB)
  have HC := Lib.hid h
  clear h hE
  go_enter Tryd.func3, Tryd.ntmps3
  go_wp2_with fail
  refine (lives_any HE0.out).mono ?_
  rintro e w1 ⟨rfl, hb1⟩
  have HB1 := bt HB hb1
  have X1 := X0.bel hb1
  have k0 := X1.cell
  clear HB X0
  go_wp2_with fail
  refine (few13_any HC.out).mono ?_
  rintro e w2 ⟨v2, rfl, hc2, hb2⟩
  have HB2 := bt HB1 hb2
  have X2 := X1.bel hb2
  obtain ⟨f, hf⟩ : ∃ f, fw c = f := ⟨_, rfl⟩
  have hfl : f.cs.length ≤ 1000 := by rw [← hf]; show (c.cs.take 10).length ≤ 1000; rw [List.length_take]; omega
  rw [hf] at hc2
  obtain ⟨F1, F2, F3, f1, f2, f3, rfl⟩ := agg_of hc2
  have k2 := X2.cell
  have z2 := X2.frozen
  have l2 := X2.lt
  have hX3 : Blk (((((w2.setCell ⟨w.heap.size, 0, none⟩ (.int .i64 f.P)).setCell ⟨w.heap.size, 1, none⟩ (.int .i64 f.F)).setCell ⟨w.heap.size, 2, none⟩ (.slice F1 f.ws.length f1)).setCell ⟨w.heap.size, 3, none⟩ (.slice F2 f.cs.length f2)).setCell ⟨w.heap.size, 4, none⟩ (.slice F3 f.ac.length f3)) w.heap.size 26 #[.int .i64 f.P, .int .i64 f.F, .slice F1 f.ws.length f1, .slice F2 f.cs.length f2, .slice F3 f.ac.length f3] := by
    have := (((((X2.set_ 0 (.int .i64 f.P)).set_ 1 (.int .i64 f.F)).set_ 2 (.slice F1 f.ws.length f1)).set_ 3 (.slice F2 f.cs.length f2)).set_ 4 (.slice F3 f.ac.length f3))
    simpa only [List.setIfInBounds_toArray, List.set_cons_zero, List.set_cons_succ] using this
  have HB3 := Lib.hid (show Below w.heap.size w (((((w2.setCell ⟨w.heap.size, 0, none⟩ (.int .i64 f.P)).setCell ⟨w.heap.size, 1, none⟩ (.int .i64 f.F)).setCell ⟨w.heap.size, 2, none⟩ (.slice F1 f.ws.length f1)).setCell ⟨w.heap.size, 3, none⟩ (.slice F2 f.cs.length f2)).setCell ⟨w.heap.size, 4, none⟩ (.slice F3 f.ac.length f3)) from (Below.setCell (Below.setCell (Below.setCell (Below.setCell (Below.setCell HB2 (p := ⟨w.heap.size, 0, none⟩) (Nat.le_refl _) _) (p := ⟨w.heap.size, 1, none⟩) (Nat.le_refl _) _) (p := ⟨w.heap.size, 2, none⟩) (Nat.le_refl _) _) (p := ⟨w.heap.size, 3, none⟩) (Nat.le_refl _) _) (p := ⟨w.heap.size, 4, none⟩) (Nat.le_refl _) _))
  have HX3 := Lib.hid hX3
  have HCF := Lib.hid hc2
  clear k0 HB1 HB2 hb1 hb2 X1 X2 hX3 hc2 hf HC
  go_upto_region 4 with fail
  clear k2 z2 l2
  generalize (((((w2.setCell ⟨w.heap.size, 0, none⟩ (.int .i64 f.P)).setCell ⟨w.heap.size, 1, none⟩ (.int .i64 f.F)).setCell ⟨w.heap.size, 2, none⟩ (.slice F1 f.ws.length f1)).setCell ⟨w.heap.size, 3, none⟩ (.slice F2 f.cs.length f2)).setCell ⟨w.heap.size, 4, none⟩ (.slice F3 f.ac.length f3)) = V0 at *
  have q0 := HX3.out.cell
  go_wp2_with fail
  refine (good_any (HCF.out.below HB3.out)).mono ?_
  rintro e w4 ⟨v4, g, rfl, ho4, hgood, hb4⟩
  have hg4 := ho4.at_
  obtain ⟨Q1, Q2, Q3, q1, q2, q3, rfl⟩ := agg_of hg4
  have hgl : g.cs.length ≤ 1000 := by have := hgood.2.2.1; omega
  have Y1 := Blk.new w4 26 #[.int .i64 g.P, .int .i64 g.F, .slice Q1 g.ws.length q1, .slice Q2 g.cs.length q2, .slice Q3 g.ac.length q3]
  have b5 := b01 w4 (.cells #[.int .i64 g.P, .int .i64 g.F, .slice Q1 g.ws.length q1, .slice Q2 g.cs.length q2, .slice Q3 g.ac.length q3] 26)
  have HB5 := Lib.hid (bt (bt HB3.out hb4) b5)
  have HCG := Lib.hid (hg4.below b5)
  have HX5 := Lib.hid ((HX3.out.bel hb4).bel b5)
  obtain ⟨gb, hgb⟩ : ∃ gb, w4.heap.size = gb := ⟨_, rfl⟩
  rw [hgb] at Y1
  clear q0 hb4 ho4 hg4 hgood b5
  go_upto_region 5 with fail
  generalize w4.alloc (.cells #[.int .i64 g.P, .int .i64 g.F, .slice Q1 g.ws.length q1, .slice Q2 g.cs.length q2, .slice Q3 g.ac.length q3] 26) = W at *
  clear hgb
  have HY := Lib.hid Y1
  clear Y1
  have C1 : Hid (∀ V, Below W.heap.size W V → ∀ o, Calls Tryd.prog 13 #[.agg #[.int .i64 f.P, .int .i64 f.F, .slice F1 f.ws.length f1, .slice F2 f.cs.length f2, .slice F3 f.ac.length f3], .int .i64 o, .int .i64 now] V fun e w' => e = .returned (.bool true) ∧ Below V.heap.size V w') := fun V hV o => same_any (HE.out.below (bt HB5.out hV)) (HCF.out.below (bt HB5.out hV)) hfl o now
  have C2 : Hid (∀ V, Below W.heap.size W V → ∀ o, Calls Tryd.prog 13 #[.agg #[.int .i64 g.P, .int .i64 g.F, .slice Q1 g.ws.length q1, .slice Q2 g.cs.length q2, .slice Q3 g.ac.length q3], .int .i64 o, .int .i64 now] V fun e w' => e = .returned (.bool true) ∧ Below V.heap.size V w') := fun V hV o => same_any (HE.out.below (bt HB5.out hV)) (HCG.out.below hV) hgl o now
  have HS1 : Hid (∀ V, Below W.heap.size W V → (∀ i, V.cell? ⟨w.heap.size, i, none⟩ = (#[.int .i64 f.P, .int .i64 f.F, .slice F1 f.ws.length f1, .slice F2 f.cs.length f2, .slice F3 f.ac.length f3] : Array Value)[i]?)) := fun V hV => (HX5.out.bel hV).cell
  have HS2 : Hid (∀ V, Below W.heap.size W V → (∀ i, V.cell? ⟨gb, i, none⟩ = (#[.int .i64 g.P, .int .i64 g.F, .slice Q1 g.ws.length q1, .slice Q2 g.cs.length q2, .slice Q3 g.ac.length q3] : Array Value)[i]?)) := fun V hV => (HY.out.bel hV).cell
  have S0 : Below W.heap.size W W := Below.refl _ _
  have k1 := HS1.out _ S0
  go_wp2_with fail
  with_reducible refine (C1.out _ S0 _).mono ?_
  rintro e V ⟨rfl, hb⟩
  have S0 := bt S0 hb
  clear k1 hb
  have k1 := HS2.out _ S0
  go_wp2_with fail
  with_reducible refine (C2.out _ S0 _).mono ?_
  rintro e V ⟨rfl, hb⟩
  have S0 := bt S0 hb
  clear k1 hb
  have k1 := HS2.out _ S0
  go_wp2_with fail
  with_reducible refine (C2.out _ S0 _).mono ?_
  rintro e V ⟨rfl, hb⟩
  have S0 := bt S0 hb
  clear k1 hb
  have k1 := HS2.out _ S0
  go_wp2_with fail
  with_reducible refine (C2.out _ S0 _).mono ?_
  rintro e V ⟨rfl, hb⟩
  have S0 := bt S0 hb
  clear k1 hb
  go_wp2_with fail
  go_ret
  exact ⟨rfl, bt HB5.out S0⟩
end Go.Proofs.YtmfkapbllmfegaaDoor.windowCalls
