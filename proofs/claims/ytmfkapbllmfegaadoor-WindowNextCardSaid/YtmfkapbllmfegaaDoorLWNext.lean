/- WindowNext, walked. -/
import Derived.Test.YtmfkapbllmfegaaDoorWl0
namespace Go.Proofs.YtmfkapbllmfegaaDoor.windowNext
open Go.RowKit Go.Proofs.YtmfkapbllmfegaaDoor.G Go.Proofs.YtmfkapbllmfegaaDoor.C04 Go.Proofs.YtmfkapbllmfegaaDoor.Sat Go.Proofs.YtmfkapbllmfegaaDoor.W13
set_option maxRecDepth 100000
def InvX (W : World) (m u : Nat) (t : Value) (V : World) : Prop := ∃ k : Nat, t = .int .i64 k ∧ m ≤ k ∧ k ≤ u ∧ Below W.heap.size W V
set_option maxHeartbeats 8000000 in
theorem walk {w : World} {u : Value} {c : Cfg} (hE : Et w) (h : CfgAt w u c) (o : Int) (now : Int) : Calls Tryd.prog 5 #[u, .int .i64 o, .int .i64 now] w fun e w' => e = .returned (.bool true) ∧ Below w.heap.size w w' := by
  obtain ⟨m, hm, hmb⟩ := nat_rest now (m := 1000000) (by omega)
  have HM := Lib.hid hm
  clear hm
  obtain ⟨A1, A2, A3, c1, c2, c3, rfl⟩ := agg_of h
  have X0 := Blk.new w 26 #[.int .i64 c.P, .int .i64 c.F, .slice A1 c.ws.length c1, .slice A2 c.cs.length c2, .slice A3 c.ac.length c3]
  have HB := b01 w (.cells #[.int .i64 c.P, .int .i64 c.F, .slice A1 c.ws.length c1, .slice A2 c.cs.length c2, .slice A3 c.ac.length c3] 26)
  have HE := Lib.hid (hE.below HB)
  have HC := Lib.hid h
  clear h hE
  go_enter Tryd.func5, Tryd.ntmps5
  go_wp2_with fail
  refine (lives_any HE.out).mono ?_
  rintro e w1 ⟨rfl, hb1⟩
  have HB1 := bt HB hb1
  have k0 := (X0.bel hb1).cell
  clear HB X0
  go_wp2_with fail
  refine (few13_any HC.out).mono ?_
  rintro e w2 ⟨v2, rfl, hc2, hb2⟩
  have HB2 := bt HB1 hb2
  go_wp2_with fail
  refine (good_any (hc2.below HB2)).mono ?_
  rintro e w4 ⟨v4, g, rfl, ho4, hgood, hb4⟩
  have hg4 := ho4.at_
  obtain ⟨Q1, Q2, Q3, q1, q2, q3, rfl⟩ := agg_of hg4
  have Y1 := Blk.new w4 26 #[.int .i64 g.P, .int .i64 g.F, .slice Q1 g.ws.length q1, .slice Q2 g.cs.length q2, .slice Q3 g.ac.length q3]
  have HB5 := Lib.hid (ba1 (bt HB2 hb4) (.cells #[.int .i64 g.P, .int .i64 g.F, .slice Q1 g.ws.length q1, .slice Q2 g.cs.length q2, .slice Q3 g.ac.length q3] 26))
  have HCG := Lib.hid (hg4.alloc (.cells #[.int .i64 g.P, .int .i64 g.F, .slice Q1 g.ws.length q1, .slice Q2 g.cs.length q2, .slice Q3 g.ac.length q3] 26))
  have HG := Lib.hid hgood
  have HE5 := Lib.hid ((HE.out.below (bt hb1 (bt hb2 hb4))).below (b01 w4 (.cells #[.int .i64 g.P, .int .i64 g.F, .slice Q1 g.ws.length q1, .slice Q2 g.cs.length q2, .slice Q3 g.ac.length q3] 26)))
  have HGB : Hid (w.heap.size ≤ w4.heap.size) := (bt HB2 hb4).size
  have HC4 := Lib.hid hg4
  have HE4 := Lib.hid (HE.out.below (bt hb1 (bt hb2 hb4)))
  have HB4 := Lib.hid (b01 w4 (.cells #[.int .i64 g.P, .int .i64 g.F, .slice Q1 g.ws.length q1, .slice Q2 g.cs.length q2, .slice Q3 g.ac.length q3] 26))
  clear k0 HB1 HB2 hb1 hb2 hb4 ho4 hg4 hc2 HC HE hgood
  obtain ⟨gb, hgb⟩ : ∃ gb, w4.heap.size = gb := ⟨_, rfl⟩
  rw [hgb] at Y1 HGB
  have HGE := Lib.hid hgb
  go_upto_region 4 with fail
  generalize w4.alloc (.cells #[.int .i64 g.P, .int .i64 g.F, .slice Q1 g.ws.length q1, .slice Q2 g.cs.length q2, .slice Q3 g.ac.length q3] 26) = W at *
  clear hgb
  have HY := Lib.hid Y1
  have hf := HG.out.1
  have HF := Lib.hid hf
  have hF := (gd_of hf).f
  have CW : Hid (∀ V, Below W.heap.size W V → ∀ t, Calls Tryd.prog 15 #[.agg #[.int .i64 g.P, .int .i64 g.F, .slice Q1 g.ws.length q1, .slice Q2 g.cs.length q2, .slice Q3 g.ac.length q3], .int .i64 t] V fun e w' => e = .returned (whoP (whoV g t)) ∧ Below V.heap.size V w') := fun V hV t => whose_any (HE5.out.below hV) (HCG.out.below hV) t
  have CC : Hid (∀ V, Below W.heap.size W V → ∀ o, Calls Tryd.prog 18 #[.agg #[.int .i64 g.P, .int .i64 g.F, .slice Q1 g.ws.length q1, .slice Q2 g.cs.length q2, .slice Q3 g.ac.length q3], .int .i64 o] V fun e w' => e = .returned (.int .i64 (phV g o).length) ∧ Below V.heap.size V w') := fun V hV o => count_any (HE5.out.below hV) (HCG.out.below hV) o
  have CB : Hid (∀ V, Below W.heap.size W V → ∀ o t, Calls Tryd.prog 14 #[.agg #[.int .i64 g.P, .int .i64 g.F, .slice Q1 g.ws.length q1, .slice Q2 g.cs.length q2, .slice Q3 g.ac.length q3], .int .i64 o, .int .i64 t] V fun e w' => e = .returned (.int .i64 (befV g o t)) ∧ Below V.heap.size V w') := fun V hV o t => before_any (HE5.out.below hV) (HCG.out.below hV) o t
  have CU : Hid (∀ V, Below W.heap.size W V → ∀ o t, Calls Tryd.prog 17 #[.agg #[.int .i64 g.P, .int .i64 g.F, .slice Q1 g.ws.length q1, .slice Q2 g.cs.length q2, .slice Q3 g.ac.length q3], .int .i64 o, .int .i64 t] V fun e w' => e = .returned (.int .i64 (untV g o t)) ∧ Below V.heap.size V w') := fun V hV o t => until_any (HE5.out.below hV) (HCG.out.below hV) o t
  have CN : Hid (∀ V, Below W.heap.size W V → ∀ o t, Calls Tryd.prog 16 #[.agg #[.int .i64 g.P, .int .i64 g.F, .slice Q1 g.ws.length q1, .slice Q2 g.cs.length q2, .slice Q3 g.ac.length q3], .int .i64 o, .int .i64 t] V fun e w' => e = .returned (.int .i64 (nthV g o t)) ∧ Below V.heap.size V w') := fun V hV o t => nth_any (HE5.out.below hV) (HCG.out.below hV) o t
  have HS : Hid (∀ V, Below W.heap.size W V → (∀ i, V.cell? ⟨gb, i, none⟩ = (#[.int .i64 g.P, .int .i64 g.F, .slice Q1 g.ws.length q1, .slice Q2 g.cs.length q2, .slice Q3 g.ac.length q3] : Array Value)[i]?)) := fun V hV => (HY.out.bel hV).cell
  have hm := HM.out
  obtain ⟨n0, hn0⟩ : ∃ x, bq (own g.ws o) g.F.toNat m = x := ⟨_, rfl⟩
  obtain ⟨k0, hk0⟩ : ∃ x, (phV g o).length = x := ⟨_, rfl⟩
  have hn6 : n0 ≤ 1000000 := by rw [← hn0]; exact Nat.le_trans (bq_bd hf _ m) (by omega)
  have CC1 : Hid (∀ V, Below W.heap.size W V → Calls Tryd.prog 18 #[.agg #[.int .i64 g.P, .int .i64 g.F, .slice Q1 g.ws.length q1, .slice Q2 g.cs.length q2, .slice Q3 g.ac.length q3], .int .i64 o] V fun e w' => e = .returned (.int .i64 k0) ∧ Below V.heap.size V w') := fun V hV => by
    have := CC.out V hV o
    rw [hk0] at this; exact this
  have q0 := HS.out _ (Below.refl _ _)
  have S0 : Below W.heap.size W W := Below.refl _ _
  by_cases hc : 0 < k0
  · have hc' : 0 < (phV g o).length := by rw [hk0]; exact hc
    have hc2 : 0 < (phs o g.ws).length := by rw [← phv_good hf]; exact hc'
    have gd := gd_ch (gd_of hf)
    have hF0 : 0 < g.F.toNat := by omega
    obtain ⟨u0, hu0⟩ : ∃ x, tth g.ws o g.F.toNat n0 = x := ⟨_, rfl⟩
    obtain ⟨y0, hy0⟩ : ∃ x, tth g.ws o g.F.toNat m = x := ⟨_, rfl⟩
    have hy6 : y0 ≤ 100000000 := by rw [← hy0]; have := tth_le hf hc' m; omega
    obtain ⟨t1, t2, t3⟩ := tth_next gd hF0 hc2 m
    rw [hn0, hu0] at t1 t2 t3
    obtain ⟨o1, o2, o5⟩ := tth_at gd hc2 n0
    obtain ⟨o3, o4, o6⟩ := tth_at gd hc2 m
    clear o5 o6
    rw [hu0] at o1 o2
    rw [hy0] at o3 o4
    obtain ⟨a1, b1, hab1, hown1⟩ := who_own_sm hf o (t := u0) (by omega)
    obtain ⟨a2, b2, hab2, hown2⟩ := who_own_sm hf o (t := y0) (by omega)
    rw [o1] at hown1
    rw [o3] at hown2
    obtain ⟨rfl, he1⟩ : b1 = true ∧ (a1 == o) = true := by
      have := hown1.symm
      simpa using this
    obtain ⟨rfl, he2⟩ : b2 = true ∧ (a2 == o) = true := by
      have := hown2.symm
      simpa using this
    have HT3 := Lib.hid t3
    have CU1 : Hid (∀ V, Below W.heap.size W V → Calls Tryd.prog 17 #[.agg #[.int .i64 g.P, .int .i64 g.F, .slice Q1 g.ws.length q1, .slice Q2 g.cs.length q2, .slice Q3 g.ac.length q3], .int .i64 o, .int .i64 m] V fun e w' => e = .returned (.int .i64 u0) ∧ Below V.heap.size V w') := fun V hV => by
      have := CU.out V hV o (m : Int)
      rw [unt_sm hf hc' (by omega), hn0, hu0] at this; exact this
    have CN1 : Hid (∀ V, Below W.heap.size W V → Calls Tryd.prog 16 #[.agg #[.int .i64 g.P, .int .i64 g.F, .slice Q1 g.ws.length q1, .slice Q2 g.cs.length q2, .slice Q3 g.ac.length q3], .int .i64 o, .int .i64 m] V fun e w' => e = .returned (.int .i64 y0) ∧ Below V.heap.size V w') := fun V hV => by
      have := CN.out V hV o (m : Int)
      rw [nth_sm hf hc' (by omega), hy0] at this; exact this
    have CW1 : Hid (∀ V, Below W.heap.size W V → Calls Tryd.prog 15 #[.agg #[.int .i64 g.P, .int .i64 g.F, .slice Q1 g.ws.length q1, .slice Q2 g.cs.length q2, .slice Q3 g.ac.length q3], .int .i64 u0] V fun e w' => e = .returned (.tuple #[.int .i64 a1, .bool true]) ∧ Below V.heap.size V w') := fun V hV => by
      have := CW.out V hV (u0 : Int)
      rw [hab1] at this; exact this
    have CW2 : Hid (∀ V, Below W.heap.size W V → Calls Tryd.prog 15 #[.agg #[.int .i64 g.P, .int .i64 g.F, .slice Q1 g.ws.length q1, .slice Q2 g.cs.length q2, .slice Q3 g.ac.length q3], .int .i64 y0] V fun e w' => e = .returned (.tuple #[.int .i64 a2, .bool true]) ∧ Below V.heap.size V w') := fun V hV => by
      have := CW.out V hV (y0 : Int)
      rw [hab2] at this; exact this
    have CB1 : Hid (∀ V, Below W.heap.size W V → Calls Tryd.prog 14 #[.agg #[.int .i64 g.P, .int .i64 g.F, .slice Q1 g.ws.length q1, .slice Q2 g.cs.length q2, .slice Q3 g.ac.length q3], .int .i64 o, .int .i64 y0] V fun e w' => e = .returned (.int .i64 m) ∧ Below V.heap.size V w') := fun V hV => by
      have := CB.out V hV o (y0 : Int)
      rw [bef_sm hf (by omega), o4] at this; exact this
    have CB2 : Hid (∀ V, Below W.heap.size W V → Calls Tryd.prog 14 #[.agg #[.int .i64 g.P, .int .i64 g.F, .slice Q1 g.ws.length q1, .slice Q2 g.cs.length q2, .slice Q3 g.ac.length q3], .int .i64 o, .int .i64 u0] V fun e w' => e = .returned (.int .i64 n0) ∧ Below V.heap.size V w') := fun V hV => by
      have := CB.out V hV o (u0 : Int)
      rw [bef_sm hf (by omega), o2] at this; exact this
    have CB3 : Hid (∀ V, Below W.heap.size W V → Calls Tryd.prog 14 #[.agg #[.int .i64 g.P, .int .i64 g.F, .slice Q1 g.ws.length q1, .slice Q2 g.cs.length q2, .slice Q3 g.ac.length q3], .int .i64 o, .int .i64 m] V fun e w' => e = .returned (.int .i64 n0) ∧ Below V.heap.size V w') := fun V hV => by
      have := CB.out V hV o (m : Int)
      rw [bef_sm hf (by omega), hn0] at this; exact this
    have HWH : Hid (∀ i : Nat, m ≤ i → i < u0 → ∃ (a : Int) (b : Bool), whoP (whoV g (i : Int)) = .tuple #[.int .i64 a, .bool b] ∧ (b && (a == o)) = false) := fun i h1 h2 => by
      obtain ⟨a, b, hab, hown⟩ := who_own_sm hf o (t := i) (by omega)
      exact ⟨a, b, hab, by rw [← hown]; exact HT3.out i h1 h2⟩
    have tk : ((k0 : Int) == 0) = false := by simp; omega
    have hFl : (u0 : Int) - m < g.F := by omega
    clear hc hc' hc2 gd hF0 hu0 hy0 t3 o1 o2 o3 o4 hab1 hab2 hown1 hown2 HT3 hn0 hk0 hf CU CN CB CC Y1
    go_wp2_with fail
    with_reducible refine (CU1.out _ S0).mono ?_
    rintro e V1 ⟨rfl, hb⟩
    have S0 := bt S0 hb
    clear q0 hb
    have q0 := HS.out _ S0
    go_wp2_with fail
    with_reducible refine (CN1.out _ S0).mono ?_
    rintro e V2 ⟨rfl, hb⟩
    have S0 := bt S0 hb
    clear q0 hb
    have q0 := HS.out _ S0
    go_wp2_with fail
    with_reducible refine (CC1.out _ S0).mono ?_
    rintro e V3 ⟨rfl, hb⟩
    have S0 := bt S0 hb
    clear q0 hb
    have q0 := HS.out _ S0
    have tC : IntKind.i64.wrap ((u0 : Int) - m) = (u0 : Int) - m := by rw [IntKind.wrap_i64]; omega
    have HT := Lib.hid (And.intro t1 (And.intro t2 (And.intro he1 he2)))
    have HFl := Lib.hid hFl
    have tA : decide (u0 < m) = false := decide_eq_false (by omega)
    have tB : decide (g.F ≤ (u0 : Int) - m) = false := decide_eq_false (by omega)
    have hu6 : u0 ≤ 2000000 := by omega
    have HBd := Lib.hid (And.intro hmb (And.intro hn6 (And.intro hy6 (And.intro hu6 hF))))
    clear t1 t2 he1 he2 hFl
    go_upto_region 9 with fail
    clear hmb hn6 hy6 hu6 hF hm tk
    go_upto_region 11 with fail
    clear tA tB tC
    obtain ⟨hmb, hn6, hy6, hu6, hF⟩ := HBd.out
    go_wp2_with fail
    go_loopw [10] (fun t V => InvX W m u0 t V) (fun t _ => u0 - (intOf t).toNat)
    case atStart => exact ⟨m, rfl, Nat.le_refl _, HT.out.1, S0⟩
    case round =>
      clear q0 S0
      obtain ⟨k, rfl, hk1, hk2, S0⟩ := hrel
      have q0 := HS.out _ S0
      by_cases hlt : k < u0
      · obtain ⟨a, b, hab, hown⟩ := HWH.out k hk1 hlt
        have CWk := Lib.hid (CW.out _ S0 (k : Int))
        rw [hab] at CWk
        have HO := Lib.hid hown
        have hltz : (k : Int) < u0 := by omega
        clear hab hown
        go_wp2_with fail
        with_reducible refine CWk.out.mono ?_
        rintro e V4 ⟨rfl, hb⟩
        have S0 := bt S0 hb
        clear q0 hb CWk
        cases b with
        | false =>
          go_wp2_with fail
          go_roundw
          case rel => exact ⟨k + 1, by go_num, by omega, by omega, S0⟩
          case measure => simp [intOf]; omega
        | true =>
          have he : (a == o) = false := HO.out
          go_wp2_with fail
          go_roundw
          case rel => exact ⟨k + 1, by go_num, by omega, by omega, S0⟩
          case measure => simp [intOf]; omega
      · obtain rfl : k = u0 := by omega
        go_wp2_with fail
        with_reducible refine (CW1.out _ S0).mono ?_
        rintro e V4 ⟨rfl, hb⟩
        have S0 := bt S0 hb
        clear q0 hb
        have q0 := HS.out _ S0
        go_wp2_with fail
        with_reducible refine (CW2.out _ S0).mono ?_
        rintro e V5 ⟨rfl, hb⟩
        have S0 := bt S0 hb
        clear q0 hb
        have he1 := HT.out.2.2.1
        have he2 := HT.out.2.2.2
        have tm : ((m : Int) == m) = true := by simp
        have tn : ((n0 : Int) == n0) = true := by simp
        go_upto_region 19 with fail
        have S0 := S0.drew
        go_region_held3 (fun V => ∀ i, V.cell? ⟨gb, i, none⟩ = (#[.int .i64 g.P, .int .i64 g.F, .slice Q1 g.ws.length q1, .slice Q2 g.cs.length q2, .slice Q3 g.ac.length q3] : Array Value)[i]?) (first | (with_reducible exact HS.out _ S0) | fail)
          (first
            | (go_at_call 14; first
                | ((with_reducible refine (CB1.out _ S0).mono ?_); rintro e w7 ⟨rfl, hb7⟩; have S0 := bt S0 hb7)
                | ((with_reducible refine (CB2.out _ S0).mono ?_); rintro e w7 ⟨rfl, hb7⟩; have S0 := bt S0 hb7)
                | ((with_reducible refine (CB3.out _ S0).mono ?_); rintro e w7 ⟨rfl, hb7⟩; have S0 := bt S0 hb7)
                | fail)
            | fail)
        all_goals
          go_wp2_with fail
          go_ret
          exact ⟨rfl, bt HB5.out S0⟩
  · have hl0 : (phV g o).length = 0 := by omega
    have CU1 : Hid (∀ V, Below W.heap.size W V → Calls Tryd.prog 17 #[.agg #[.int .i64 g.P, .int .i64 g.F, .slice Q1 g.ws.length q1, .slice Q2 g.cs.length q2, .slice Q3 g.ac.length q3], .int .i64 o, .int .i64 m] V fun e w' => e = .returned (.int .i64 (-1)) ∧ Below V.heap.size V w') := fun V hV => by
      have := CU.out V hV o (m : Int)
      rw [untV, nth_none hl0] at this; exact this
    have CN1 : Hid (∀ V, Below W.heap.size W V → Calls Tryd.prog 16 #[.agg #[.int .i64 g.P, .int .i64 g.F, .slice Q1 g.ws.length q1, .slice Q2 g.cs.length q2, .slice Q3 g.ac.length q3], .int .i64 o, .int .i64 m] V fun e w' => e = .returned (.int .i64 (-1)) ∧ Below V.heap.size V w') := fun V hV => by
      have := CN.out V hV o (m : Int)
      rw [nth_none hl0] at this; exact this
    have tk : ((k0 : Int) == 0) = true := by simp; omega
    clear hc hl0 hn0 hk0 hf CU CN CB CC Y1
    go_wp2_with fail
    with_reducible refine (CU1.out _ S0).mono ?_
    rintro e V1 ⟨rfl, hb⟩
    have S0 := bt S0 hb
    clear q0 hb
    have q0 := HS.out _ S0
    go_wp2_with fail
    with_reducible refine (CN1.out _ S0).mono ?_
    rintro e V2 ⟨rfl, hb⟩
    have S0 := bt S0 hb
    clear q0 hb
    have q0 := HS.out _ S0
    go_wp2_with fail
    with_reducible refine (CC1.out _ S0).mono ?_
    rintro e V3 ⟨rfl, hb⟩
    have S0 := bt S0 hb
    clear q0 hb
    go_wp2_with fail
    go_ret
    exact ⟨rfl, bt HB5.out S0⟩
end Go.Proofs.YtmfkapbllmfegaaDoor.windowNext
