/- WindowCounts, walked. -/
import Derived.Test.YtmfkapbllmfegaaDoorWl0
namespace Go.Proofs.YtmfkapbllmfegaaDoor.windowCounts
open Go.RowKit Go.Proofs.YtmfkapbllmfegaaDoor.G Go.Proofs.YtmfkapbllmfegaaDoor.C04 Go.Proofs.YtmfkapbllmfegaaDoor.Sat Go.Proofs.YtmfkapbllmfegaaDoor.W13
set_option maxRecDepth 100000
def InvC (W : World) (g : Cfg) (o : Int) (m : Nat) (n t : Value) (V : World) : Prop := ∃ k : Nat, t = .int .i64 k ∧ n = .int .i64 (bq (own g.ws o) g.F.toNat k : Nat) ∧ k ≤ m ∧ Below W.heap.size W V
set_option maxHeartbeats 8000000 in
theorem walk {w : World} {u : Value} {c : Cfg} (hE : Et w) (h : CfgAt w u c) (o : Int) (now : Int) : Calls Tryd.prog 4 #[u, .int .i64 o, .int .i64 now] w fun e w' => e = .returned (.bool true) ∧ Below w.heap.size w w' := by
  obtain ⟨m, hm, hmb⟩ := nat_rest now (m := 300) (by omega)
  have HM := Lib.hid hm
  clear hm
  obtain ⟨A1, A2, A3, c1, c2, c3, rfl⟩ := agg_of h
  have X0 := Blk.new w 26 #[.int .i64 c.P, .int .i64 c.F, .slice A1 c.ws.length c1, .slice A2 c.cs.length c2, .slice A3 c.ac.length c3]
  have HB := b01 w (.cells #[.int .i64 c.P, .int .i64 c.F, .slice A1 c.ws.length c1, .slice A2 c.cs.length c2, .slice A3 c.ac.length c3] 26)
  have HE := Lib.hid (hE.below HB)
  have HC := Lib.hid h
  clear h hE
  go_enter Tryd.func4, Tryd.ntmps4
  go_wp2_with fail
  refine (lives_any HE.out).mono ?_
  rintro e w1 ⟨rfl, hb1⟩
  have HB1 := bt HB hb1
  have k0 := (X0.bel hb1).cell
  clear HB X0
  go_wp2_with fail
  refine (few13_any HC.out).mono ?_
  rintro e w2 ⟨v2, rfl, hc2, hb2⟩
  have HB2 := bt HB1 hb2
  go_wp2_with fail
  refine (good_any (hc2.below HB2)).mono ?_
  rintro e w4 ⟨v4, g, rfl, ho4, hgood, hb4⟩
  have hg4 := ho4.at_
  obtain ⟨Q1, Q2, Q3, q1, q2, q3, rfl⟩ := agg_of hg4
  have Y1 := Blk.new w4 26 #[.int .i64 g.P, .int .i64 g.F, .slice Q1 g.ws.length q1, .slice Q2 g.cs.length q2, .slice Q3 g.ac.length q3]
  have HB5 := Lib.hid (ba1 (bt HB2 hb4) (.cells #[.int .i64 g.P, .int .i64 g.F, .slice Q1 g.ws.length q1, .slice Q2 g.cs.length q2, .slice Q3 g.ac.length q3] 26))
  have HCG := Lib.hid (hg4.alloc (.cells #[.int .i64 g.P, .int .i64 g.F, .slice Q1 g.ws.length q1, .slice Q2 g.cs.length q2, .slice Q3 g.ac.length q3] 26))
  have HG := Lib.hid hgood
  have HE5 := Lib.hid ((HE.out.below (bt hb1 (bt hb2 hb4))).below (b01 w4 (.cells #[.int .i64 g.P, .int .i64 g.F, .slice Q1 g.ws.length q1, .slice Q2 g.cs.length q2, .slice Q3 g.ac.length q3] 26)))
  have HGB : Hid (w.heap.size ≤ w4.heap.size) := (bt HB2 hb4).size
  have HC4 := Lib.hid hg4
  have HE4 := Lib.hid (HE.out.below (bt hb1 (bt hb2 hb4)))
  have HB4 := Lib.hid (b01 w4 (.cells #[.int .i64 g.P, .int .i64 g.F, .slice Q1 g.ws.length q1, .slice Q2 g.cs.length q2, .slice Q3 g.ac.length q3] 26))
  clear k0 HB1 HB2 hb1 hb2 hb4 ho4 hg4 hc2 HC HE hgood
  obtain ⟨gb, hgb⟩ : ∃ gb, w4.heap.size = gb := ⟨_, rfl⟩
  rw [hgb] at Y1 HGB
  have HGE := Lib.hid hgb
  go_upto_region 4 with fail
  generalize w4.alloc (.cells #[.int .i64 g.P, .int .i64 g.F, .slice Q1 g.ws.length q1, .slice Q2 g.cs.length q2, .slice Q3 g.ac.length q3] 26) = W at *
  clear hgb
  have HY := Lib.hid Y1
  have hf := HG.out.1
  have HF := Lib.hid hf
  have hF := (gd_of hf).f
  have CW : Hid (∀ V, Below W.heap.size W V → ∀ t, Calls Tryd.prog 15 #[.agg #[.int .i64 g.P, .int .i64 g.F, .slice Q1 g.ws.length q1, .slice Q2 g.cs.length q2, .slice Q3 g.ac.length q3], .int .i64 t] V fun e w' => e = .returned (whoP (whoV g t)) ∧ Below V.heap.size V w') := fun V hV t => whose_any (HE5.out.below hV) (HCG.out.below hV) t
  have CC : Hid (∀ V, Below W.heap.size W V → ∀ o, Calls Tryd.prog 18 #[.agg #[.int .i64 g.P, .int .i64 g.F, .slice Q1 g.ws.length q1, .slice Q2 g.cs.length q2, .slice Q3 g.ac.length q3], .int .i64 o] V fun e w' => e = .returned (.int .i64 (phV g o).length) ∧ Below V.heap.size V w') := fun V hV o => count_any (HE5.out.below hV) (HCG.out.below hV) o
  have CB : Hid (∀ V, Below W.heap.size W V → ∀ o t, Calls Tryd.prog 14 #[.agg #[.int .i64 g.P, .int .i64 g.F, .slice Q1 g.ws.length q1, .slice Q2 g.cs.length q2, .slice Q3 g.ac.length q3], .int .i64 o, .int .i64 t] V fun e w' => e = .returned (.int .i64 (befV g o t)) ∧ Below V.heap.size V w') := fun V hV o t => before_any (HE5.out.below hV) (HCG.out.below hV) o t
  have CU : Hid (∀ V, Below W.heap.size W V → ∀ o t, Calls Tryd.prog 17 #[.agg #[.int .i64 g.P, .int .i64 g.F, .slice Q1 g.ws.length q1, .slice Q2 g.cs.length q2, .slice Q3 g.ac.length q3], .int .i64 o, .int .i64 t] V fun e w' => e = .returned (.int .i64 (untV g o t)) ∧ Below V.heap.size V w') := fun V hV o t => until_any (HE5.out.below hV) (HCG.out.below hV) o t
  have CN : Hid (∀ V, Below W.heap.size W V → ∀ o t, Calls Tryd.prog 16 #[.agg #[.int .i64 g.P, .int .i64 g.F, .slice Q1 g.ws.length q1, .slice Q2 g.cs.length q2, .slice Q3 g.ac.length q3], .int .i64 o, .int .i64 t] V fun e w' => e = .returned (.int .i64 (nthV g o t)) ∧ Below V.heap.size V w') := fun V hV o t => nth_any (HE5.out.below hV) (HCG.out.below hV) o t
  have HS : Hid (∀ V, Below W.heap.size W V → (∀ i, V.cell? ⟨gb, i, none⟩ = (#[.int .i64 g.P, .int .i64 g.F, .slice Q1 g.ws.length q1, .slice Q2 g.cs.length q2, .slice Q3 g.ac.length q3] : Array Value)[i]?)) := fun V hV => (HY.out.bel hV).cell
  have hm := HM.out
  have q0 := HS.out _ (Below.refl _ _)
  clear hf Y1
  go_wp2_with fail
  go_loopw [8, 9] (fun n t V => InvC W g o m n t V) (fun _ t _ => m - (intOf t).toNat)
  case atStart => exact ⟨0, rfl, by rw [bq_zero]; rfl, by omega, Below.refl _ _⟩
  case round =>
    clear q0 hm
    obtain ⟨k, rfl, rfl, hk, S0⟩ := hrel
    have q0 := HS.out _ S0
    have hbk := bq_bd HF.out (own g.ws o) k
    obtain ⟨nk, hnk⟩ : ∃ x, bq (own g.ws o) g.F.toNat k = x := ⟨_, rfl⟩
    have CBk := Lib.hid (CB.out _ S0 o (k : Int))
    rw [bef_sm HF.out (by omega), hnk] at CBk
    rw [hnk] at hbk
    rw [hnk]
    have HN := Lib.hid hnk
    clear hnk
    by_cases hlt : k < m
    · have hltz : (k : Int) < (m : Int) := by omega
      obtain ⟨a, b, hab, hown⟩ := who_own_sm HF.out o (t := k) (by omega)
      have HO := Lib.hid hown
      have HS1 : Hid (bq (own g.ws o) g.F.toNat (k + 1) = nk + if own g.ws o (k % g.F.toNat) = true then 1 else 0) := by
        show bq (own g.ws o) g.F.toNat (k + 1) = nk + _
        rw [bq_succ _ (by omega), HN.out]
      clear hown
      go_wp2_with fail
      refine CBk.out.mono ?_
      rintro e V ⟨rfl, hb⟩
      have S0 := bt S0 hb
      clear q0 hb CBk
      have q0 := HS.out _ S0
      have CWk := Lib.hid (CW.out _ S0 (k : Int))
      rw [hab] at CWk
      clear hab
      go_wp2_with fail
      refine CWk.out.mono ?_
      rintro e V2 ⟨rfl, hb⟩
      have S0 := bt S0 hb
      clear q0 hb CWk
      have q0 := HS.out _ S0
      cases b with
      | false =>
        go_wp2_with fail
        go_roundw
        case rel => exact ⟨k + 1, by go_num, by rw [HS1.out, HO.out]; rfl, by omega, S0⟩
        case measure => simp [intOf]; omega
      | true =>
        cases he : a == o with
        | false =>
          go_wp2_with fail
          go_roundw
          case rel => exact ⟨k + 1, by go_num, by rw [HS1.out, HO.out, he]; rfl, by omega, S0⟩
          case measure => simp [intOf]; omega
        | true =>
          have hO : own g.ws o (k % g.F.toNat) = true := HO.out.trans (by rw [he]; rfl)
          have hc := own_some HF.out hO
          have CNk := Lib.hid (CN.out _ S0 o (nk : Int))
          rw [nth_sm HF.out hc (by omega), ← HN.out, tth_uniq (gd_ch (gd_of HF.out)) (by omega) (by rw [← phv_good HF.out]; exact hc) hO, HN.out] at CNk
          have HOt := Lib.hid hO
          clear hO hc
          go_wp2_with fail
          refine CNk.out.mono ?_
          rintro e V3 ⟨rfl, hb⟩
          have S0 := bt S0 hb
          clear q0 hb CNk
          go_wp2_with fail
          go_roundw
          case rel => exact ⟨k + 1, by go_num, by rw [HS1.out, HOt.out]; rfl, by omega, S0⟩
          case measure => simp [intOf]; omega
    · obtain rfl : k = m := by omega
      go_wp2_with fail
      refine CBk.out.mono ?_
      rintro e V ⟨rfl, hb⟩
      have S0 := bt S0 hb
      go_wp2_with fail
      go_ret
      exact ⟨rfl, bt HB5.out S0⟩
end Go.Proofs.YtmfkapbllmfegaaDoor.windowCounts
