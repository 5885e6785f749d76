/- WindowShifts, walked. -/
import Derived.Test.YtmfkapbllmfegaaDoorWl0
namespace Go.Proofs.YtmfkapbllmfegaaDoor.windowShifts
open Go.RowKit Go.Proofs.YtmfkapbllmfegaaDoor.G Go.Proofs.YtmfkapbllmfegaaDoor.C04 Go.Proofs.YtmfkapbllmfegaaDoor.Sat Go.Proofs.YtmfkapbllmfegaaDoor.W13
set_option maxRecDepth 100000
set_option maxHeartbeats 8000000 in
theorem walk {w : World} {u : Value} {c : Cfg} (hE : Et w) (h : CfgAt w u c) (o : Int) (now : Int) : Calls Tryd.prog 9 #[u, .int .i64 o, .int .i64 now] w fun e w' => e = .returned (.bool true) ∧ Below w.heap.size w w' := by
  obtain ⟨m, hm, hmb⟩ := nat_rest now (m := 1000000) (by omega)
  have HM := Lib.hid hm
  clear hm
  obtain ⟨A1, A2, A3, c1, c2, c3, rfl⟩ := agg_of h
  have X0 := Blk.new w 26 #[.int .i64 c.P, .int .i64 c.F, .slice A1 c.ws.length c1, .slice A2 c.cs.length c2, .slice A3 c.ac.length c3]
  have HB := b01 w (.cells #[.int .i64 c.P, .int .i64 c.F, .slice A1 c.ws.length c1, .slice A2 c.cs.length c2, .slice A3 c.ac.length c3] 26)
  have HE := Lib.hid (hE.below HB)
  have HC := Lib.hid h
  clear h hE
  go_enter Tryd.func9, Tryd.ntmps9
  go_wp2_with fail
  refine (lives_any HE.out).mono ?_
  rintro e w1 ⟨rfl, hb1⟩
  have HB1 := bt HB hb1
  have k0 := (X0.bel hb1).cell
  clear HB X0
  go_wp2_with fail
  refine (few13_any HC.out).mono ?_
  rintro e w2 ⟨v2, rfl, hc2, hb2⟩
  have HB2 := bt HB1 hb2
  go_wp2_with fail
  refine (good_any (hc2.below HB2)).mono ?_
  rintro e w4 ⟨v4, g, rfl, ho4, hgood, hb4⟩
  have hg4 := ho4.at_
  obtain ⟨Q1, Q2, Q3, q1, q2, q3, rfl⟩ := agg_of hg4
  have Y1 := Blk.new w4 26 #[.int .i64 g.P, .int .i64 g.F, .slice Q1 g.ws.length q1, .slice Q2 g.cs.length q2, .slice Q3 g.ac.length q3]
  have HB5 := Lib.hid (ba1 (bt HB2 hb4) (.cells #[.int .i64 g.P, .int .i64 g.F, .slice Q1 g.ws.length q1, .slice Q2 g.cs.length q2, .slice Q3 g.ac.length q3] 26))
  have HCG := Lib.hid (hg4.alloc (.cells #[.int .i64 g.P, .int .i64 g.F, .slice Q1 g.ws.length q1, .slice Q2 g.cs.length q2, .slice Q3 g.ac.length q3] 26))
  have HG := Lib.hid hgood
  have HE5 := Lib.hid ((HE.out.below (bt hb1 (bt hb2 hb4))).below (b01 w4 (.cells #[.int .i64 g.P, .int .i64 g.F, .slice Q1 g.ws.length q1, .slice Q2 g.cs.length q2, .slice Q3 g.ac.length q3] 26)))
  have HGB : Hid (w.heap.size ≤ w4.heap.size) := (bt HB2 hb4).size
  have HC4 := Lib.hid hg4
  have HE4 := Lib.hid (HE.out.below (bt hb1 (bt hb2 hb4)))
  have HB4 := Lib.hid (b01 w4 (.cells #[.int .i64 g.P, .int .i64 g.F, .slice Q1 g.ws.length q1, .slice Q2 g.cs.length q2, .slice Q3 g.ac.length q3] 26))
  clear k0 HB1 HB2 hb1 hb2 hb4 ho4 hg4 hc2 HC HE hgood
  obtain ⟨gb, hgb⟩ : ∃ gb, w4.heap.size = gb := ⟨_, rfl⟩
  rw [hgb] at Y1 HGB
  have HGE := Lib.hid hgb
  go_upto_region 4 with fail
  generalize w4.alloc (.cells #[.int .i64 g.P, .int .i64 g.F, .slice Q1 g.ws.length q1, .slice Q2 g.cs.length q2, .slice Q3 g.ac.length q3] 26) = W at *
  clear hgb
  have HY := Lib.hid Y1
  have hf := HG.out.1
  have HF := Lib.hid hf
  have hF := (gd_of hf).f
  have CW : Hid (∀ V, Below W.heap.size W V → ∀ t, Calls Tryd.prog 15 #[.agg #[.int .i64 g.P, .int .i64 g.F, .slice Q1 g.ws.length q1, .slice Q2 g.cs.length q2, .slice Q3 g.ac.length q3], .int .i64 t] V fun e w' => e = .returned (whoP (whoV g t)) ∧ Below V.heap.size V w') := fun V hV t => whose_any (HE5.out.below hV) (HCG.out.below hV) t
  have CC : Hid (∀ V, Below W.heap.size W V → ∀ o, Calls Tryd.prog 18 #[.agg #[.int .i64 g.P, .int .i64 g.F, .slice Q1 g.ws.length q1, .slice Q2 g.cs.length q2, .slice Q3 g.ac.length q3], .int .i64 o] V fun e w' => e = .returned (.int .i64 (phV g o).length) ∧ Below V.heap.size V w') := fun V hV o => count_any (HE5.out.below hV) (HCG.out.below hV) o
  have CB : Hid (∀ V, Below W.heap.size W V → ∀ o t, Calls Tryd.prog 14 #[.agg #[.int .i64 g.P, .int .i64 g.F, .slice Q1 g.ws.length q1, .slice Q2 g.cs.length q2, .slice Q3 g.ac.length q3], .int .i64 o, .int .i64 t] V fun e w' => e = .returned (.int .i64 (befV g o t)) ∧ Below V.heap.size V w') := fun V hV o t => before_any (HE5.out.below hV) (HCG.out.below hV) o t
  have CU : Hid (∀ V, Below W.heap.size W V → ∀ o t, Calls Tryd.prog 17 #[.agg #[.int .i64 g.P, .int .i64 g.F, .slice Q1 g.ws.length q1, .slice Q2 g.cs.length q2, .slice Q3 g.ac.length q3], .int .i64 o, .int .i64 t] V fun e w' => e = .returned (.int .i64 (untV g o t)) ∧ Below V.heap.size V w') := fun V hV o t => until_any (HE5.out.below hV) (HCG.out.below hV) o t
  have CN : Hid (∀ V, Below W.heap.size W V → ∀ o t, Calls Tryd.prog 16 #[.agg #[.int .i64 g.P, .int .i64 g.F, .slice Q1 g.ws.length q1, .slice Q2 g.cs.length q2, .slice Q3 g.ac.length q3], .int .i64 o, .int .i64 t] V fun e w' => e = .returned (.int .i64 (nthV g o t)) ∧ Below V.heap.size V w') := fun V hV o t => nth_any (HE5.out.below hV) (HCG.out.below hV) o t
  have HS : Hid (∀ V, Below W.heap.size W V → (∀ i, V.cell? ⟨gb, i, none⟩ = (#[.int .i64 g.P, .int .i64 g.F, .slice Q1 g.ws.length q1, .slice Q2 g.cs.length q2, .slice Q3 g.ac.length q3] : Array Value)[i]?)) := fun V hV => (HY.out.bel hV).cell
  have hm := HM.out
  have hmF : (m : Int) + g.F = ((m + g.F.toNat : Nat) : Int) := by omega
  have hmod : (m + g.F.toNat) % g.F.toNat = m % g.F.toNat := Nat.add_mod_right _ _
  obtain ⟨a, b, hab, hown⟩ := who_own_sm hf o (t := m) (by omega)
  have CW1 : Hid (∀ V, Below W.heap.size W V → Calls Tryd.prog 15 #[.agg #[.int .i64 g.P, .int .i64 g.F, .slice Q1 g.ws.length q1, .slice Q2 g.cs.length q2, .slice Q3 g.ac.length q3], .int .i64 m] V fun e w' => e = .returned (.tuple #[.int .i64 a, .bool b]) ∧ Below V.heap.size V w') := fun V hV => by
    have := CW.out V hV (m : Int)
    rw [hab] at this; exact this
  have CW2 : Hid (∀ V, Below W.heap.size W V → Calls Tryd.prog 15 #[.agg #[.int .i64 g.P, .int .i64 g.F, .slice Q1 g.ws.length q1, .slice Q2 g.cs.length q2, .slice Q3 g.ac.length q3], .int .i64 ((m : Int) + g.F)] V fun e w' => e = .returned (.tuple #[.int .i64 a, .bool b]) ∧ Below V.heap.size V w') := fun V hV => by
    have := CW.out V hV ((m : Int) + g.F)
    rw [hmF, who_sm hf (by omega), hmod, ← who_sm hf (by omega), hab, ← hmF] at this; exact this
  obtain ⟨n0, hn0⟩ : ∃ x, bq (own g.ws o) g.F.toNat m = x := ⟨_, rfl⟩
  obtain ⟨k0, hk0⟩ : ∃ x, (phV g o).length = x := ⟨_, rfl⟩
  have hk64 := phv_le g o
  rw [hk0] at hk64
  have hn6 : n0 ≤ 1000000 := by rw [← hn0]; exact Nat.le_trans (bq_bd hf _ m) (by omega)
  have CB1 : Hid (∀ V, Below W.heap.size W V → Calls Tryd.prog 14 #[.agg #[.int .i64 g.P, .int .i64 g.F, .slice Q1 g.ws.length q1, .slice Q2 g.cs.length q2, .slice Q3 g.ac.length q3], .int .i64 o, .int .i64 m] V fun e w' => e = .returned (.int .i64 n0) ∧ Below V.heap.size V w') := fun V hV => by
    have := CB.out V hV o (m : Int)
    rw [bef_sm hf (by omega), hn0] at this; exact this
  have CB2 : Hid (∀ V, Below W.heap.size W V → Calls Tryd.prog 14 #[.agg #[.int .i64 g.P, .int .i64 g.F, .slice Q1 g.ws.length q1, .slice Q2 g.cs.length q2, .slice Q3 g.ac.length q3], .int .i64 o, .int .i64 ((m : Int) + g.F)] V fun e w' => e = .returned (.int .i64 ((n0 : Int) + k0)) ∧ Below V.heap.size V w') := fun V hV => by
    have := CB.out V hV o ((m : Int) + g.F)
    rw [hmF, bef_sm hf (by omega), bq_shift _ (by omega), hn0, len_ah hf, hk0, show ((n0 + k0 : Nat) : Int) = (n0 : Int) + k0 by omega, ← hmF] at this; exact this
  have CC1 : Hid (∀ V, Below W.heap.size W V → Calls Tryd.prog 18 #[.agg #[.int .i64 g.P, .int .i64 g.F, .slice Q1 g.ws.length q1, .slice Q2 g.cs.length q2, .slice Q3 g.ac.length q3], .int .i64 o] V fun e w' => e = .returned (.int .i64 k0) ∧ Below V.heap.size V w') := fun V hV => by
    have := CC.out V hV o
    rw [hk0] at this; exact this
  have q0 := HS.out _ (Below.refl _ _)
  have HFe := Lib.hid hmF
  have HN0 := Lib.hid hn0
  have HK0 := Lib.hid hk0
  clear hab hown Y1 CW CB CC hmod hmF hn0 hk0 hf
  go_wp2_with fail
  with_reducible refine (CW1.out _ (Below.refl _ _)).mono ?_
  rintro e V ⟨rfl, S0⟩
  clear q0
  have q0 := HS.out _ S0
  go_wp2_with fail
  with_reducible refine (CW2.out _ S0).mono ?_
  rintro e V2 ⟨rfl, hb⟩
  have S0 := bt S0 hb
  clear q0 hb
  have q0 := HS.out _ S0
  by_cases hc : 0 < k0
  · have hf := HF.out
    have hmF := HFe.out
    have hn0 := HN0.out
    have hc' : 0 < (phV g o).length := by rw [HK0.out]; exact hc
    obtain ⟨u0, hu0⟩ : ∃ x, tth g.ws o g.F.toNat (bq (own g.ws o) g.F.toNat m) = x := ⟨_, rfl⟩
    have hu6 : u0 ≤ 100000000 := by rw [← hu0, hn0]; have := tth_le hf hc' n0; omega
    have CU1 : Hid (∀ V, Below W.heap.size W V → Calls Tryd.prog 17 #[.agg #[.int .i64 g.P, .int .i64 g.F, .slice Q1 g.ws.length q1, .slice Q2 g.cs.length q2, .slice Q3 g.ac.length q3], .int .i64 o, .int .i64 m] V fun e w' => e = .returned (.int .i64 u0) ∧ Below V.heap.size V w') := fun V hV => by
      have := CU.out V hV o (m : Int)
      rw [unt_sm hf hc' (by omega), hu0] at this; exact this
    have CU2 : Hid (∀ V, Below W.heap.size W V → Calls Tryd.prog 17 #[.agg #[.int .i64 g.P, .int .i64 g.F, .slice Q1 g.ws.length q1, .slice Q2 g.cs.length q2, .slice Q3 g.ac.length q3], .int .i64 o, .int .i64 ((m : Int) + g.F)] V fun e w' => e = .returned (.int .i64 ((u0 : Int) + g.F)) ∧ Below V.heap.size V w') := fun V hV => by
      have := CU.out V hV o ((m : Int) + g.F)
      have e : ((u0 + g.F.toNat : Nat) : Int) = (u0 : Int) + g.F := by omega
      rw [hmF, unt_sm hf hc' (by omega), bq_shift _ (by omega), len_ah hf, phv_good hf, tth_shift _ _ _ _ (by rw [← phv_good hf]; exact hc'), hu0, e, ← hmF] at this; exact this
    clear hc hc' hu0 CU CN hn0 hmF hf
    go_wp2_with fail
    with_reducible refine (CU1.out _ S0).mono ?_
    rintro e V3 ⟨rfl, hb⟩
    have S0 := bt S0 hb
    clear q0 hb
    have tw1 : IntKind.i64.wrap ((m : Int) + g.F) = (m : Int) + g.F := by rw [IntKind.wrap_i64]; omega
    have tw2 : IntKind.i64.wrap ((n0 : Int) + k0) = (n0 : Int) + k0 := by rw [IntKind.wrap_i64]; omega
    have tw3 : IntKind.i64.wrap ((u0 : Int) + g.F) = (u0 : Int) + g.F := by rw [IntKind.wrap_i64]; omega
    have tu : decide ((u0 : Int) < 0) = false := decide_eq_false (by omega)
    have te1 : ((n0 : Int) + k0 == (n0 : Int) + k0) = true := by simp
    have te2 : ((u0 : Int) + g.F == (u0 : Int) + g.F) = true := by simp
    have te3 : (a == a) = true := by simp
    have te4 : (b == b) = true := by simp
    go_upto_region 8 with fail
    have S0 := S0.drew
    go_region_held3 (fun V => ∀ i, V.cell? ⟨gb, i, none⟩ = (#[.int .i64 g.P, .int .i64 g.F, .slice Q1 g.ws.length q1, .slice Q2 g.cs.length q2, .slice Q3 g.ac.length q3] : Array Value)[i]?) (first | (with_reducible exact HS.out _ S0) | fail)
      (first
        | (go_at_call 18; (with_reducible refine (CC1.out _ S0).mono ?_); rintro e w7 ⟨rfl, hb7⟩; have S0 := bt S0 hb7)
        | (go_at_call 14; first
            | ((with_reducible refine (CB1.out _ S0).mono ?_); rintro e w7 ⟨rfl, hb7⟩; have S0 := bt S0 hb7)
            | ((with_reducible refine (CB2.out _ S0).mono ?_); rintro e w7 ⟨rfl, hb7⟩; have S0 := bt S0 hb7)
            | fail)
        | (go_at_call 17; (with_reducible refine (CU2.out _ S0).mono ?_); rintro e w7 ⟨rfl, hb7⟩; have S0 := bt S0 hb7)
        | fail)
    all_goals
      go_wp2_with fail
      go_ret
      exact ⟨rfl, bt HB5.out S0⟩
  · have hl0 : (phV g o).length = 0 := by rw [HK0.out]; omega
    have CU1 : Hid (∀ V, Below W.heap.size W V → Calls Tryd.prog 17 #[.agg #[.int .i64 g.P, .int .i64 g.F, .slice Q1 g.ws.length q1, .slice Q2 g.cs.length q2, .slice Q3 g.ac.length q3], .int .i64 o, .int .i64 m] V fun e w' => e = .returned (.int .i64 (-1)) ∧ Below V.heap.size V w') := fun V hV => by
      have := CU.out V hV o (m : Int)
      rw [untV, nth_none hl0] at this; exact this
    clear hc hl0 CU CN
    go_wp2_with fail
    with_reducible refine (CU1.out _ S0).mono ?_
    rintro e V3 ⟨rfl, hb⟩
    have S0 := bt S0 hb
    clear q0 hb
    have tw1 : IntKind.i64.wrap ((m : Int) + g.F) = (m : Int) + g.F := by rw [IntKind.wrap_i64]; omega
    have tw2 : IntKind.i64.wrap ((n0 : Int) + k0) = (n0 : Int) + k0 := by rw [IntKind.wrap_i64]; omega
    have te1 : ((n0 : Int) + k0 == (n0 : Int) + k0) = true := by simp
    have te3 : (a == a) = true := by simp
    have te4 : (b == b) = true := by simp
    go_upto_region 8 with fail
    have S0 := S0.drew
    have hHeld := HS.out _ S0
    refine wp_region_held_drew (S := fun V => ∀ i, V.cell? ⟨gb, i, none⟩ = (#[.int .i64 g.P, .int .i64 g.F, .slice Q1 g.ws.length q1, .slice Q2 g.cs.length q2, .slice Q3 g.ac.length q3] : Array Value)[i]?) (by kernel_rfl) hHeld (fun _ => ?_)
    refine' wpAnyH_take (i := 0) (oi := _) (v := _) ?hi1 (by kernel_rfl) (by kernel_rfl) (by kernel_rfl) ?hQ1 (Or.inl ⟨?hw1, ?hy1⟩) ?hT1 ?h1
    case hi1 => (simp only [List.getElem?_toArray, List.getElem?_cons_succ, List.getElem?_cons_zero]; rfl)
    case hQ1 => exact fun _ _ _ h => h
    case hw1 => rfl
    case hy1 => (intro V hSw; go_simp; (try with_reducible rfl))
    case hT1 => assumption
    case' h1 => skip
    try simp only [Act.put, List.setIfInBounds_toArray, List.set_cons_zero, List.set_cons_succ]
    refine' wpAnyH_take (i := 1) (oi := _) (v := _) ?hi2 (by kernel_rfl) (by kernel_rfl) (by kernel_rfl) ?hQ2 (Or.inl ⟨?hw2, ?hy2⟩) ?hT2 ?h2
    case hi2 => (simp only [List.getElem?_toArray, List.getElem?_cons_succ, List.getElem?_cons_zero]; rfl)
    case hQ2 => exact fun _ _ _ h => h
    case hw2 => rfl
    case hy2 => (intro V hSw; go_simp; (try with_reducible rfl))
    case hT2 => assumption
    case' h2 => skip
    try simp only [Act.put, List.setIfInBounds_toArray, List.set_cons_zero, List.set_cons_succ]
    refine' wpAnyH_take (i := 2) (oi := _) (v := _) ?hi3 (by kernel_rfl) (by kernel_rfl) (by kernel_rfl) ?hQ3 (Or.inl ⟨?hw3, ?hy3⟩) ?hT3 ?h3
    case hi3 => (simp only [List.getElem?_toArray, List.getElem?_cons_succ, List.getElem?_cons_zero]; rfl)
    case hQ3 => exact fun _ _ _ h => h
    case hw3 => rfl
    case hy3 => (intro V hSw; go_simp; (try with_reducible rfl))
    case hT3 => assumption
    case' h3 => skip
    try simp only [Act.put, List.setIfInBounds_toArray, List.set_cons_zero, List.set_cons_succ]
    refine' wpAnyH_take (i := 3) (oi := _) (v := _) ?hi4 (by kernel_rfl) (by kernel_rfl) (by kernel_rfl) ?hQ4 (Or.inl ⟨?hw4, ?hy4⟩) ?hT4 ?h4
    case hi4 => (simp only [List.getElem?_toArray, List.getElem?_cons_succ, List.getElem?_cons_zero]; rfl)
    case hQ4 => exact fun _ _ _ h => h
    case hw4 => rfl
    case hy4 => (intro V hSw; go_simp; (try with_reducible rfl))
    case hT4 => assumption
    case' h4 => skip
    try simp only [Act.put, List.setIfInBounds_toArray, List.set_cons_zero, List.set_cons_succ]
    refine' wpAnyH_take (i := 4) (oi := _) (v := _) ?hi5 (by kernel_rfl) (by kernel_rfl) (by kernel_rfl) ?hQ5 (Or.inl ⟨?hw5, ?hy5⟩) ?hT5 ?h5
    case hi5 => (simp only [List.getElem?_toArray, List.getElem?_cons_succ, List.getElem?_cons_zero]; rfl)
    case hQ5 => exact fun _ _ _ h => h
    case hw5 => rfl
    case hy5 => (intro V hSw; go_simp; (try with_reducible rfl))
    case hT5 => assumption
    case' h5 => skip
    try simp only [Act.put, List.setIfInBounds_toArray, List.set_cons_zero, List.set_cons_succ]
    refine' wpAnyH_take (i := 5) (oi := _) (v := _) ?hi6 (by kernel_rfl) (by kernel_rfl) (by kernel_rfl) ?hQ6 (Or.inl ⟨?hw6, ?hy6⟩) ?hT6 ?h6
    case hi6 => (simp only [List.getElem?_toArray, List.getElem?_cons_succ, List.getElem?_cons_zero]; rfl)
    case hQ6 => exact fun _ _ _ h => h
    case hw6 => rfl
    case hy6 => (intro V hSw; go_simp; (try with_reducible rfl))
    case hT6 => assumption
    case' h6 => skip
    try simp only [Act.put, List.setIfInBounds_toArray, List.set_cons_zero, List.set_cons_succ]
    refine' wpAnyH_take (i := 6) (oi := _) (v := _) ?hi7 (by kernel_rfl) (by kernel_rfl) (by kernel_rfl) ?hQ7 (Or.inl ⟨?hw7, ?hy7⟩) ?hT7 ?h7
    case hi7 => (simp only [List.getElem?_toArray, List.getElem?_cons_succ, List.getElem?_cons_zero]; rfl)
    case hQ7 => exact fun _ _ _ h => h
    case hw7 => rfl
    case hy7 => (intro V hSw; go_simp; (try with_reducible rfl))
    case hT7 => assumption
    case' h7 => skip
    try simp only [Act.put, List.setIfInBounds_toArray, List.set_cons_zero, List.set_cons_succ]
    refine' wpAnyH_take (i := 7) (oi := _) (v := _) ?hi8 (by kernel_rfl) (by kernel_rfl) (by kernel_rfl) ?hQ8 (Or.inl ⟨?hw8, ?hy8⟩) ?hT8 ?h8
    case hi8 => (simp only [List.getElem?_toArray, List.getElem?_cons_succ, List.getElem?_cons_zero]; rfl)
    case hQ8 => exact fun _ _ _ h => h
    case hw8 => rfl
    case hy8 => (intro V hSw; go_simp; (try with_reducible rfl))
    case hT8 => assumption
    case' h8 => skip
    try simp only [Act.put, List.setIfInBounds_toArray, List.set_cons_zero, List.set_cons_succ]
    refine' wpAnyH_take (i := 8) (oi := _) (v := _) ?hi9 (by kernel_rfl) (by kernel_rfl) (by kernel_rfl) ?hQ9 (Or.inl ⟨?hw9, ?hy9⟩) ?hT9 ?h9
    case hi9 => (simp only [List.getElem?_toArray, List.getElem?_cons_succ, List.getElem?_cons_zero]; rfl)
    case hQ9 => exact fun _ _ _ h => h
    case hw9 => rfl
    case hy9 => (intro V hSw; go_simp; (try with_reducible rfl))
    case hT9 => assumption
    case' h9 => skip
    try simp only [Act.put, List.setIfInBounds_toArray, List.set_cons_zero, List.set_cons_succ]
    refine' wpAnyH_take (i := 9) (oi := _) (v := _) ?hi10 (by kernel_rfl) (by kernel_rfl) (by kernel_rfl) ?hQ10 (Or.inl ⟨?hw10, ?hy10⟩) ?hT10 ?h10
    case hi10 => (simp only [List.getElem?_toArray, List.getElem?_cons_succ, List.getElem?_cons_zero]; rfl)
    case hQ10 => exact fun _ _ _ h => h
    case hw10 => rfl
    case hy10 => (intro V hSw; go_simp; (try with_reducible rfl))
    case hT10 => assumption
    case' h10 => skip
    try simp only [Act.put, List.setIfInBounds_toArray, List.set_cons_zero, List.set_cons_succ]
    refine' wpAnyH_take (i := 10) (oi := _) (v := _) ?hi11 (by kernel_rfl) (by kernel_rfl) (by kernel_rfl) ?hQ11 (Or.inl ⟨?hw11, ?hy11⟩) ?hT11 ?h11
    case hi11 => (simp only [List.getElem?_toArray, List.getElem?_cons_succ, List.getElem?_cons_zero]; rfl)
    case hQ11 => exact fun _ _ _ h => h
    case hw11 => rfl
    case hy11 => (intro V hSw; go_simp; (try with_reducible rfl))
    case hT11 => assumption
    case' h11 => skip
    try simp only [Act.put, List.setIfInBounds_toArray, List.set_cons_zero, List.set_cons_succ]
    refine' wpAnyH_take (i := 11) (oi := _) (v := _) ?hi12 (by kernel_rfl) (by kernel_rfl) (by kernel_rfl) ?hQ12 (Or.inl ⟨?hw12, ?hy12⟩) ?hT12 ?h12
    case hi12 => (simp only [List.getElem?_toArray, List.getElem?_cons_succ, List.getElem?_cons_zero]; rfl)
    case hQ12 => exact fun _ _ _ h => h
    case hw12 => rfl
    case hy12 => (intro V hSw; go_simp; (try with_reducible rfl))
    case hT12 => assumption
    case' h12 => skip
    try simp only [Act.put, List.setIfInBounds_toArray, List.set_cons_zero, List.set_cons_succ]
    refine' wpAnyH_take (i := 12) (oi := _) (v := _) ?hi13 (by kernel_rfl) (by kernel_rfl) (by kernel_rfl) ?hQ13 (Or.inl ⟨?hw13, ?hy13⟩) ?hT13 ?h13
    case hi13 => (simp only [List.getElem?_toArray, List.getElem?_cons_succ, List.getElem?_cons_zero]; rfl)
    case hQ13 => exact fun _ _ _ h => h
    case hw13 => rfl
    case hy13 => (intro V hSw; go_simp; (try with_reducible rfl))
    case hT13 => assumption
    case' h13 => skip
    try simp only [Act.put, List.setIfInBounds_toArray, List.set_cons_zero, List.set_cons_succ]
    refine' wpAnyH_take (i := 13) (oi := _) (v := _) ?hi14 (by kernel_rfl) (by kernel_rfl) (by kernel_rfl) ?hQ14 (Or.inl ⟨?hw14, ?hy14⟩) ?hT14 ?h14
    case hi14 => (simp only [List.getElem?_toArray, List.getElem?_cons_succ, List.getElem?_cons_zero]; rfl)
    case hQ14 => exact fun _ _ _ h => h
    case hw14 => rfl
    case hy14 => (intro V hSw; go_simp; (try with_reducible rfl))
    case hT14 => assumption
    case' h14 => skip
    try simp only [Act.put, List.setIfInBounds_toArray, List.set_cons_zero, List.set_cons_succ]
    refine' wpAnyH_take (i := 14) (oi := _) (v := _) ?hi15 (by kernel_rfl) (by kernel_rfl) (by kernel_rfl) ?hQ15 (Or.inl ⟨?hw15, ?hy15⟩) ?hT15 ?h15
    case hi15 => (simp only [List.getElem?_toArray, List.getElem?_cons_succ, List.getElem?_cons_zero]; rfl)
    case hQ15 => exact fun _ _ _ h => h
    case hw15 => rfl
    case hy15 => (intro V hSw; go_simp; (try with_reducible rfl))
    case hT15 => assumption
    case' h15 => skip
    try simp only [Act.put, List.setIfInBounds_toArray, List.set_cons_zero, List.set_cons_succ]
    refine' wpAnyH_take (i := 16) (oi := _) (v := _) ?hi16 (by kernel_rfl) (by kernel_rfl) (by kernel_rfl) ?hQ16 (Or.inl ⟨?hw16, ?hy16⟩) ?hT16 ?h16
    case hi16 => (simp only [List.getElem?_toArray, List.getElem?_cons_succ, List.getElem?_cons_zero]; rfl)
    case hQ16 => exact fun _ _ _ h => h
    case hw16 => rfl
    case hy16 => (intro V hSw; go_simp; (try with_reducible rfl))
    case hT16 => assumption
    case' h16 => skip
    try simp only [Act.put, List.setIfInBounds_toArray, List.set_cons_zero, List.set_cons_succ]
    refine' wpAnyH_take (i := 17) (oi := _) (v := _) ?hi17 (by kernel_rfl) (by kernel_rfl) (by kernel_rfl) ?hQ17 (Or.inl ⟨?hw17, ?hy17⟩) ?hT17 ?h17
    case hi17 => (simp only [List.getElem?_toArray, List.getElem?_cons_succ, List.getElem?_cons_zero]; rfl)
    case hQ17 => exact fun _ _ _ h => h
    case hw17 => rfl
    case hy17 => (intro V hSw; go_simp; (try with_reducible rfl))
    case hT17 => assumption
    case' h17 => skip
    try simp only [Act.put, List.setIfInBounds_toArray, List.set_cons_zero, List.set_cons_succ]
    refine' wpAnyH_take (i := 18) (oi := _) (v := _) ?hi18 (by kernel_rfl) (by kernel_rfl) (by kernel_rfl) ?hQ18 (Or.inl ⟨?hw18, ?hy18⟩) ?hT18 ?h18
    case hi18 => (simp only [List.getElem?_toArray, List.getElem?_cons_succ, List.getElem?_cons_zero]; rfl)
    case hQ18 => exact fun _ _ _ h => h
    case hw18 => rfl
    case hy18 => (intro V hSw; go_simp; (try with_reducible rfl))
    case hT18 => assumption
    case' h18 => skip
    try simp only [Act.put, List.setIfInBounds_toArray, List.set_cons_zero, List.set_cons_succ]
    refine' wpAnyH_take (i := 20) (oi := _) (v := _) ?hi19 (by kernel_rfl) (by kernel_rfl) (by kernel_rfl) ?hQ19 (Or.inl ⟨?hw19, ?hy19⟩) ?hT19 ?h19
    case hi19 => (simp only [List.getElem?_toArray, List.getElem?_cons_succ, List.getElem?_cons_zero]; rfl)
    case hQ19 => exact fun _ _ _ h => h
    case hw19 => rfl
    case hy19 => (intro V hSw; go_simp; (try with_reducible rfl))
    case hT19 => assumption
    case' h19 => skip
    try simp only [Act.put, List.setIfInBounds_toArray, List.set_cons_zero, List.set_cons_succ]
    refine' wpAnyH_take (i := 21) (oi := _) (v := _) ?hi20 (by kernel_rfl) (by kernel_rfl) (by kernel_rfl) ?hQ20 (Or.inl ⟨?hw20, ?hy20⟩) ?hT20 ?h20
    case hi20 => (simp only [List.getElem?_toArray, List.getElem?_cons_succ, List.getElem?_cons_zero]; rfl)
    case hQ20 => exact fun _ _ _ h => h
    case hw20 => rfl
    case hy20 => (intro V hSw; go_simp; (try with_reducible rfl))
    case hT20 => assumption
    case' h20 => skip
    try simp only [Act.put, List.setIfInBounds_toArray, List.set_cons_zero, List.set_cons_succ]
    refine wpAnyH_ready (rs := [15]) (by kernel_rfl) (by simp) ?_
    refine' AllReadyH.cons (o := _) ?ho21 (fun K hK => ?g21) ?s21
    case ho21 => (simp only [List.getElem?_toArray, List.getElem?_cons_succ, List.getElem?_cons_zero]; rfl)
    case s21 => exact AllReadyH.nil
    rw [if_pos (by rfl)]
    go_simp
    go_at_call 14
    with_reducible refine (CB2.out _ S0).mono ?_
    rintro e w7 ⟨rfl, hb7⟩
    have S0 := bt S0 hb7
    clear hb7
    refine hK.out _ _ (HS.out _ S0) (fun hHeld => ?_)
    clear hK K
    try simp only [Act.put, List.setIfInBounds_toArray, List.set_cons_zero, List.set_cons_succ]
    refine wpAnyH_ready (rs := [19]) (by kernel_rfl) (by simp) ?_
    refine' AllReadyH.cons (o := _) ?ho22 (fun K hK => ?g22) ?s22
    case ho22 => (simp only [List.getElem?_toArray, List.getElem?_cons_succ, List.getElem?_cons_zero]; rfl)
    case s22 => exact AllReadyH.nil
    rw [if_pos (by rfl)]
    go_simp
    go_at_call 14
    with_reducible refine (CB1.out _ S0).mono ?_
    rintro e w7 ⟨rfl, hb7⟩
    have S0 := bt S0 hb7
    clear hb7
    refine hK.out _ _ (HS.out _ S0) (fun hHeld => ?_)
    clear hK K
    try simp only [Act.put, List.setIfInBounds_toArray, List.set_cons_zero, List.set_cons_succ]
    refine wpAnyH_ready (rs := [22]) (by kernel_rfl) (by simp) ?_
    refine' AllReadyH.cons (o := _) ?ho23 (fun K hK => ?g23) ?s23
    case ho23 => (simp only [List.getElem?_toArray, List.getElem?_cons_succ, List.getElem?_cons_zero]; rfl)
    case s23 => exact AllReadyH.nil
    rw [if_pos (by rfl)]
    go_simp
    go_at_call 18
    with_reducible refine (CC1.out _ S0).mono ?_
    rintro e w7 ⟨rfl, hb7⟩
    have S0 := bt S0 hb7
    clear hb7
    refine hK.out _ _ (HS.out _ S0) (fun hHeld => ?_)
    clear hK K
    try simp only [Act.put, List.setIfInBounds_toArray, List.set_cons_zero, List.set_cons_succ]
    refine' wpAnyH_take (i := 23) (oi := _) (v := _) ?hi24 (by kernel_rfl) (by kernel_rfl) (by kernel_rfl) ?hQ24 (Or.inl ⟨?hw24, ?hy24⟩) ?hT24 ?h24
    case hi24 => (simp only [List.getElem?_toArray, List.getElem?_cons_succ, List.getElem?_cons_zero]; rfl)
    case hQ24 => exact fun _ _ _ h => h
    case hw24 => rfl
    case hy24 => (intro V hSw; go_simp; (try with_reducible rfl))
    case hT24 => assumption
    case' h24 => skip
    try simp only [Act.put, List.setIfInBounds_toArray, List.set_cons_zero, List.set_cons_succ]
    refine' wpAnyH_take (i := 24) (oi := _) (v := _) ?hi25 (by kernel_rfl) (by kernel_rfl) (by kernel_rfl) ?hQ25 (Or.inl ⟨?hw25, ?hy25⟩) ?hT25 ?h25
    case hi25 => (simp only [List.getElem?_toArray, List.getElem?_cons_succ, List.getElem?_cons_zero]; rfl)
    case hQ25 => exact fun _ _ _ h => h
    case hw25 => rfl
    case hy25 => (intro V hSw; go_simp; (try with_reducible rfl))
    case hT25 => assumption
    case' h25 => skip
    try simp only [Act.put, List.setIfInBounds_toArray, List.set_cons_zero, List.set_cons_succ]
    refine' wpAnyH_take (i := 25) (oi := _) (v := _) ?hi26 (by kernel_rfl) (by kernel_rfl) (by kernel_rfl) ?hQ26 (Or.inl ⟨?hw26, ?hy26⟩) ?hT26 ?h26
    case hi26 => (simp only [List.getElem?_toArray, List.getElem?_cons_succ, List.getElem?_cons_zero]; rfl)
    case hQ26 => exact fun _ _ _ h => h
    case hw26 => rfl
    case hy26 => (intro V hSw; go_simp; (try with_reducible rfl))
    case hT26 => assumption
    case' h26 => skip
    try simp only [Act.put, List.setIfInBounds_toArray, List.set_cons_zero, List.set_cons_succ]
    refine' wpAnyH_take (i := 26) (oi := _) (v := _) ?hi27 (by kernel_rfl) (by kernel_rfl) (by kernel_rfl) ?hQ27 (Or.inl ⟨?hw27, ?hy27⟩) ?hT27 ?h27
    case hi27 => (simp only [List.getElem?_toArray, List.getElem?_cons_succ, List.getElem?_cons_zero]; rfl)
    case hQ27 => exact fun _ _ _ h => h
    case hw27 => rfl
    case hy27 => (intro V hSw; go_simp; (try with_reducible rfl))
    case hT27 => assumption
    case' h27 => skip
    try simp only [Act.put, List.setIfInBounds_toArray, List.set_cons_zero, List.set_cons_succ]
    refine' wpAnyH_take (i := 27) (oi := _) (v := _) ?hi28 (by kernel_rfl) (by kernel_rfl) (by kernel_rfl) ?hQ28 (Or.inl ⟨?hw28, ?hy28⟩) ?hT28 ?h28
    case hi28 => (simp only [List.getElem?_toArray, List.getElem?_cons_succ, List.getElem?_cons_zero]; rfl)
    case hQ28 => exact fun _ _ _ h => h
    case hw28 => rfl
    case hy28 => (intro V hSw; go_simp; (try with_reducible rfl))
    case hT28 => assumption
    case' h28 => skip
    try simp only [Act.put, List.setIfInBounds_toArray, List.set_cons_zero, List.set_cons_succ]
    refine' wpAnyH_take (i := 28) (oi := _) (v := _) ?hi29 (by kernel_rfl) (by kernel_rfl) (by kernel_rfl) ?hQ29 (Or.inl ⟨?hw29, ?hy29⟩) ?hT29 ?h29
    case hi29 => (simp only [List.getElem?_toArray, List.getElem?_cons_succ, List.getElem?_cons_zero]; rfl)
    case hQ29 => exact fun _ _ _ h => h
    case hw29 => rfl
    case hy29 => (intro V hSw; go_simp; (try with_reducible rfl))
    case hT29 => assumption
    case' h29 => skip
    try simp only [Act.put, List.setIfInBounds_toArray, List.set_cons_zero, List.set_cons_succ]
    refine' wpAnyH_take (i := 29) (oi := _) (v := _) ?hi30 (by kernel_rfl) (by kernel_rfl) (by kernel_rfl) ?hQ30 (Or.inl ⟨?hw30, ?hy30⟩) ?hT30 ?h30
    case hi30 => (simp only [List.getElem?_toArray, List.getElem?_cons_succ, List.getElem?_cons_zero]; rfl)
    case hQ30 => exact fun _ _ _ h => h
    case hw30 => rfl
    case hy30 => (intro V hSw; go_simp; (try with_reducible rfl))
    case hT30 => assumption
    case' h30 => skip
    try simp only [Act.put, List.setIfInBounds_toArray, List.set_cons_zero, List.set_cons_succ]
    refine' wpAnyH_take (i := 30) (oi := _) (v := _) ?hi31 (by kernel_rfl) (by kernel_rfl) (by kernel_rfl) ?hQ31 (Or.inr ⟨?hw31, rfl⟩) ?hT31 ?h31
    case hi31 => (simp only [List.getElem?_toArray, List.getElem?_cons_succ, List.getElem?_cons_zero]; rfl)
    case hQ31 => exact fun _ _ _ h => h
    case hw31 => rfl
    case hT31 => assumption
    case' h31 => skip
    try simp only [Act.put, List.setIfInBounds_toArray, List.set_cons_zero, List.set_cons_succ]
    refine' wpAnyH_take (i := 31) (oi := _) (v := _) ?hi32 (by kernel_rfl) (by kernel_rfl) (by kernel_rfl) ?hQ32 (Or.inr ⟨?hw32, rfl⟩) ?hT32 ?h32
    case hi32 => (simp only [List.getElem?_toArray, List.getElem?_cons_succ, List.getElem?_cons_zero]; rfl)
    case hQ32 => exact fun _ _ _ h => h
    case hw32 => rfl
    case hT32 => assumption
    case' h32 => skip
    try simp only [Act.put, List.setIfInBounds_toArray, List.set_cons_zero, List.set_cons_succ]
    refine' wpAnyH_take (i := 32) (oi := _) (v := _) ?hi33 (by kernel_rfl) (by kernel_rfl) (by kernel_rfl) ?hQ33 (Or.inr ⟨?hw33, rfl⟩) ?hT33 ?h33
    case hi33 => (simp only [List.getElem?_toArray, List.getElem?_cons_succ, List.getElem?_cons_zero]; rfl)
    case hQ33 => exact fun _ _ _ h => h
    case hw33 => rfl
    case hT33 => assumption
    case' h33 => skip
    try simp only [Act.put, List.setIfInBounds_toArray, List.set_cons_zero, List.set_cons_succ]
    refine' wpAnyH_take (i := 33) (oi := _) (v := _) ?hi34 (by kernel_rfl) (by kernel_rfl) (by kernel_rfl) ?hQ34 (Or.inr ⟨?hw34, rfl⟩) ?hT34 ?h34
    case hi34 => (simp only [List.getElem?_toArray, List.getElem?_cons_succ, List.getElem?_cons_zero]; rfl)
    case hQ34 => exact fun _ _ _ h => h
    case hw34 => rfl
    case hT34 => assumption
    case' h34 => skip
    try simp only [Act.put, List.setIfInBounds_toArray, List.set_cons_zero, List.set_cons_succ]
    refine' wpAnyH_take (i := 34) (oi := _) (v := _) ?hi35 (by kernel_rfl) (by kernel_rfl) (by kernel_rfl) ?hQ35 (Or.inr ⟨?hw35, rfl⟩) ?hT35 ?h35
    case hi35 => (simp only [List.getElem?_toArray, List.getElem?_cons_succ, List.getElem?_cons_zero]; rfl)
    case hQ35 => exact fun _ _ _ h => h
    case hw35 => rfl
    case hT35 => assumption
    case' h35 => skip
    try simp only [Act.put, List.setIfInBounds_toArray, List.set_cons_zero, List.set_cons_succ]
    refine' wpAnyH_take (i := 35) (oi := _) (v := _) ?hi36 (by kernel_rfl) (by kernel_rfl) (by kernel_rfl) ?hQ36 (Or.inr ⟨?hw36, rfl⟩) ?hT36 ?h36
    case hi36 => (simp only [List.getElem?_toArray, List.getElem?_cons_succ, List.getElem?_cons_zero]; rfl)
    case hQ36 => exact fun _ _ _ h => h
    case hw36 => rfl
    case hT36 => assumption
    case' h36 => skip
    try simp only [Act.put, List.setIfInBounds_toArray, List.set_cons_zero, List.set_cons_succ]
    refine' wpAnyH_take (i := 36) (oi := _) (v := _) ?hi37 (by kernel_rfl) (by kernel_rfl) (by kernel_rfl) ?hQ37 (Or.inr ⟨?hw37, rfl⟩) ?hT37 ?h37
    case hi37 => (simp only [List.getElem?_toArray, List.getElem?_cons_succ, List.getElem?_cons_zero]; rfl)
    case hQ37 => exact fun _ _ _ h => h
    case hw37 => rfl
    case hT37 => assumption
    case' h37 => skip
    try simp only [Act.put, List.setIfInBounds_toArray, List.set_cons_zero, List.set_cons_succ]
    refine' wpAnyH_take (i := 37) (oi := _) (v := _) ?hi38 (by kernel_rfl) (by kernel_rfl) (by kernel_rfl) ?hQ38 (Or.inr ⟨?hw38, rfl⟩) ?hT38 ?h38
    case hi38 => (simp only [List.getElem?_toArray, List.getElem?_cons_succ, List.getElem?_cons_zero]; rfl)
    case hQ38 => exact fun _ _ _ h => h
    case hw38 => rfl
    case hT38 => assumption
    case' h38 => skip
    try simp only [Act.put, List.setIfInBounds_toArray, List.set_cons_zero, List.set_cons_succ]
    refine' wpAnyH_take (i := 38) (oi := _) (v := _) ?hi39 (by kernel_rfl) (by kernel_rfl) (by kernel_rfl) ?hQ39 (Or.inr ⟨?hw39, rfl⟩) ?hT39 ?h39
    case hi39 => (simp only [List.getElem?_toArray, List.getElem?_cons_succ, List.getElem?_cons_zero]; rfl)
    case hQ39 => exact fun _ _ _ h => h
    case hw39 => rfl
    case hT39 => assumption
    case' h39 => skip
    try simp only [Act.put, List.setIfInBounds_toArray, List.set_cons_zero, List.set_cons_succ]
    refine' wpAnyH_take (i := 39) (oi := _) (v := _) ?hi40 (by kernel_rfl) (by kernel_rfl) (by kernel_rfl) ?hQ40 (Or.inr ⟨?hw40, rfl⟩) ?hT40 ?h40
    case hi40 => (simp only [List.getElem?_toArray, List.getElem?_cons_succ, List.getElem?_cons_zero]; rfl)
    case hQ40 => exact fun _ _ _ h => h
    case hw40 => rfl
    case hT40 => assumption
    case' h40 => skip
    try simp only [Act.put, List.setIfInBounds_toArray, List.set_cons_zero, List.set_cons_succ]
    refine' wpAnyH_take (i := 40) (oi := _) (v := _) ?hi41 (by kernel_rfl) (by kernel_rfl) (by kernel_rfl) ?hQ41 (Or.inr ⟨?hw41, rfl⟩) ?hT41 ?h41
    case hi41 => (simp only [List.getElem?_toArray, List.getElem?_cons_succ, List.getElem?_cons_zero]; rfl)
    case hQ41 => exact fun _ _ _ h => h
    case hw41 => rfl
    case hT41 => assumption
    case' h41 => skip
    try simp only [Act.put, List.setIfInBounds_toArray, List.set_cons_zero, List.set_cons_succ]
    refine' wpAnyH_take (i := 41) (oi := _) (v := _) ?hi42 (by kernel_rfl) (by kernel_rfl) (by kernel_rfl) ?hQ42 (Or.inr ⟨?hw42, rfl⟩) ?hT42 ?h42
    case hi42 => (simp only [List.getElem?_toArray, List.getElem?_cons_succ, List.getElem?_cons_zero]; rfl)
    case hQ42 => exact fun _ _ _ h => h
    case hw42 => rfl
    case hT42 => assumption
    case' h42 => skip
    try simp only [Act.put, List.setIfInBounds_toArray, List.set_cons_zero, List.set_cons_succ]
    refine' wpAnyH_take (i := 42) (oi := _) (v := _) ?hi43 (by kernel_rfl) (by kernel_rfl) (by kernel_rfl) ?hQ43 (Or.inl ⟨?hw43, ?hy43⟩) ?hT43 ?h43
    case hi43 => (simp only [List.getElem?_toArray, List.getElem?_cons_succ, List.getElem?_cons_zero]; rfl)
    case hQ43 => exact fun _ _ _ h => h
    case hw43 => rfl
    case hy43 => (intro V hSw; go_simp; (try with_reducible rfl))
    case hT43 => assumption
    case' h43 => skip
    try simp only [Act.put, List.setIfInBounds_toArray, List.set_cons_zero, List.set_cons_succ]
    refine' wpAnyH_take (i := 43) (oi := _) (v := _) ?hi44 (by kernel_rfl) (by kernel_rfl) (by kernel_rfl) ?hQ44 (Or.inl ⟨?hw44, ?hy44⟩) ?hT44 ?h44
    case hi44 => (simp only [List.getElem?_toArray, List.getElem?_cons_succ, List.getElem?_cons_zero]; rfl)
    case hQ44 => exact fun _ _ _ h => h
    case hw44 => rfl
    case hy44 => (intro V hSw; go_simp; (try with_reducible rfl))
    case hT44 => assumption
    case' h44 => skip
    try simp only [Act.put, List.setIfInBounds_toArray, List.set_cons_zero, List.set_cons_succ]
    refine' wpAnyH_take (i := 44) (oi := _) (v := _) ?hi45 (by kernel_rfl) (by kernel_rfl) (by kernel_rfl) ?hQ45 (Or.inl ⟨?hw45, ?hy45⟩) ?hT45 ?h45
    case hi45 => (simp only [List.getElem?_toArray, List.getElem?_cons_succ, List.getElem?_cons_zero]; rfl)
    case hQ45 => exact fun _ _ _ h => h
    case hw45 => rfl
    case hy45 => (intro V hSw; go_simp; (try with_reducible rfl))
    case hT45 => assumption
    case' h45 => skip
    try simp only [Act.put, List.setIfInBounds_toArray, List.set_cons_zero, List.set_cons_succ]
    refine wpAnyH_done (by kernel_rfl) ?_ _
    go_wp2_with fail
    go_ret
    exact ⟨rfl, bt HB5.out S0⟩
end Go.Proofs.YtmfkapbllmfegaaDoor.windowShifts
