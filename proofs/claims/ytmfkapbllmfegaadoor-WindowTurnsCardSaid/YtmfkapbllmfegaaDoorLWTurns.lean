/- WindowTurns, walked. -/
import Derived.Test.YtmfkapbllmfegaaDoorWl0
namespace Go.Proofs.YtmfkapbllmfegaaDoor.windowTurns
open Go.RowKit Go.Proofs.YtmfkapbllmfegaaDoor.G Go.Proofs.YtmfkapbllmfegaaDoor.C04 Go.Proofs.YtmfkapbllmfegaaDoor.Sat Go.Proofs.YtmfkapbllmfegaaDoor.W13
set_option maxRecDepth 100000
def InvL (W : World) (g : Cfg) (v i : Value) (V : World) : Prop := ∃ k : Nat, i = .int .i64 k ∧ k ≤ g.cs.length ∧ G.Own V W.heap.size 3 1 v (plc 0 (g.cs.take k)).length (ivs (plc 0 (g.cs.take k))) ∧ Below W.heap.size W V
def InvT (W : World) (i : Value) (V : World) : Prop := ∃ k : Nat, i = .int .i64 k ∧ k ≤ 12 ∧ Below W.heap.size W V
theorem mod_nat {L : List Int} {m k : Nat} (hl : 0 < L.length) : ∃ p : Int, L[(m + k) % L.length]? = some p ∧ ∃ j : Nat, ((m : Int) + (k : Int)) % (L.length : Int) = (j : Int) ∧ j < L.length ∧ L[j]? = some p := by
  have h := Nat.mod_lt (m + k) hl
  refine ⟨_, List.getElem?_eq_getElem h, (m + k) % L.length, ?_, h, List.getElem?_eq_getElem h⟩
  rw [← Int.natCast_add, ← Int.natCast_emod]
set_option maxHeartbeats 8000000 in
theorem walk {w : World} {u : Value} {c : Cfg} (hE : Et w) (h : CfgAt w u c) (n : Int) : Calls Tryd.prog 7 #[u, .int .i64 n] w fun e w' => e = .returned (.bool true) ∧ Below w.heap.size w w' := by
  obtain ⟨m, hm, hmb⟩ := nat_rest n (m := 10000) (by omega)
  have HM := Lib.hid hm
  clear hm
  obtain ⟨A1, A2, A3, c1, c2, c3, rfl⟩ := agg_of h
  have X0 := Blk.new w 26 #[.int .i64 c.P, .int .i64 c.F, .slice A1 c.ws.length c1, .slice A2 c.cs.length c2, .slice A3 c.ac.length c3]
  have HB := b01 w (.cells #[.int .i64 c.P, .int .i64 c.F, .slice A1 c.ws.length c1, .slice A2 c.cs.length c2, .slice A3 c.ac.length c3] 26)
  have HE := Lib.hid (hE.below HB)
  have HC := Lib.hid h
  clear h hE
  go_enter Tryd.func7, Tryd.ntmps7
  go_wp2_with fail
  refine (lives_any HE.out).mono ?_
  rintro e w1 ⟨rfl, hb1⟩
  have HB1 := bt HB hb1
  have k0 := (X0.bel hb1).cell
  clear HB X0
  go_wp2_with fail
  refine (few13_any HC.out).mono ?_
  rintro e w2 ⟨v2, rfl, hc2, hb2⟩
  have HB2 := bt HB1 hb2
  go_wp2_with fail
  refine (good_any (hc2.below HB2)).mono ?_
  rintro e w4 ⟨v4, g, rfl, ho4, hgood, hb4⟩
  have hg4 := ho4.at_
  obtain ⟨Q1, Q2, Q3, q1, q2, q3, rfl⟩ := agg_of hg4
  have Y1 := Blk.new w4 26 #[.int .i64 g.P, .int .i64 g.F, .slice Q1 g.ws.length q1, .slice Q2 g.cs.length q2, .slice Q3 g.ac.length q3]
  have HB5 := Lib.hid (ba1 (bt HB2 hb4) (.cells #[.int .i64 g.P, .int .i64 g.F, .slice Q1 g.ws.length q1, .slice Q2 g.cs.length q2, .slice Q3 g.ac.length q3] 26))
  have HCG := Lib.hid (hg4.alloc (.cells #[.int .i64 g.P, .int .i64 g.F, .slice Q1 g.ws.length q1, .slice Q2 g.cs.length q2, .slice Q3 g.ac.length q3] 26))
  have HG := Lib.hid hgood
  have HE5 := Lib.hid ((HE.out.below (bt hb1 (bt hb2 hb4))).below (b01 w4 (.cells #[.int .i64 g.P, .int .i64 g.F, .slice Q1 g.ws.length q1, .slice Q2 g.cs.length q2, .slice Q3 g.ac.length q3] 26)))
  have HGB : Hid (w.heap.size ≤ w4.heap.size) := (bt HB2 hb4).size
  have HC4 := Lib.hid hg4
  have HE4 := Lib.hid (HE.out.below (bt hb1 (bt hb2 hb4)))
  have HB4 := Lib.hid (b01 w4 (.cells #[.int .i64 g.P, .int .i64 g.F, .slice Q1 g.ws.length q1, .slice Q2 g.cs.length q2, .slice Q3 g.ac.length q3] 26))
  clear k0 HB1 HB2 hb1 hb2 hb4 ho4 hg4 hc2 HC HE hgood
  obtain ⟨gb, hgb⟩ : ∃ gb, w4.heap.size = gb := ⟨_, rfl⟩
  rw [hgb] at Y1 HGB
  have HGE := Lib.hid hgb
  go_upto_region 4 with fail
  generalize w4.alloc (.cells #[.int .i64 g.P, .int .i64 g.F, .slice Q1 g.ws.length q1, .slice Q2 g.cs.length q2, .slice Q3 g.ac.length q3] 26) = W at *
  clear hgb
  have HY := Lib.hid Y1
  have hf := HG.out.1
  have HF := Lib.hid hf
  have hF := (gd_of hf).f
  have hc5 := HG.out.2.2.1
  have HR2 := Lib.hid (rows_at HCG.out).2.1
  have hq2 := (rows_at HCG.out).2.2
  obtain ⟨i0, hi, hz0, hz1, hz2⟩ := info_parts infoI
  have CW : Hid (∀ V, Below W.heap.size W V → ∀ t, Calls Tryd.prog 15 #[.agg #[.int .i64 g.P, .int .i64 g.F, .slice Q1 g.ws.length q1, .slice Q2 g.cs.length q2, .slice Q3 g.ac.length q3], .int .i64 t] V fun e w' => e = .returned (whoP (whoV g t)) ∧ Below V.heap.size V w') := fun V hV t => whose_any (HE5.out.below hV) (HCG.out.below hV) t
  have CC : Hid (∀ V, Below W.heap.size W V → ∀ o, Calls Tryd.prog 18 #[.agg #[.int .i64 g.P, .int .i64 g.F, .slice Q1 g.ws.length q1, .slice Q2 g.cs.length q2, .slice Q3 g.ac.length q3], .int .i64 o] V fun e w' => e = .returned (.int .i64 (phV g o).length) ∧ Below V.heap.size V w') := fun V hV o => count_any (HE5.out.below hV) (HCG.out.below hV) o
  have CB : Hid (∀ V, Below W.heap.size W V → ∀ o t, Calls Tryd.prog 14 #[.agg #[.int .i64 g.P, .int .i64 g.F, .slice Q1 g.ws.length q1, .slice Q2 g.cs.length q2, .slice Q3 g.ac.length q3], .int .i64 o, .int .i64 t] V fun e w' => e = .returned (.int .i64 (befV g o t)) ∧ Below V.heap.size V w') := fun V hV o t => before_any (HE5.out.below hV) (HCG.out.below hV) o t
  have CU : Hid (∀ V, Below W.heap.size W V → ∀ o t, Calls Tryd.prog 17 #[.agg #[.int .i64 g.P, .int .i64 g.F, .slice Q1 g.ws.length q1, .slice Q2 g.cs.length q2, .slice Q3 g.ac.length q3], .int .i64 o, .int .i64 t] V fun e w' => e = .returned (.int .i64 (untV g o t)) ∧ Below V.heap.size V w') := fun V hV o t => until_any (HE5.out.below hV) (HCG.out.below hV) o t
  have CN : Hid (∀ V, Below W.heap.size W V → ∀ o t, Calls Tryd.prog 16 #[.agg #[.int .i64 g.P, .int .i64 g.F, .slice Q1 g.ws.length q1, .slice Q2 g.cs.length q2, .slice Q3 g.ac.length q3], .int .i64 o, .int .i64 t] V fun e w' => e = .returned (.int .i64 (nthV g o t)) ∧ Below V.heap.size V w') := fun V hV o t => nth_any (HE5.out.below hV) (HCG.out.below hV) o t
  have HS : Hid (∀ V, Below W.heap.size W V → (∀ i, V.cell? ⟨gb, i, none⟩ = (#[.int .i64 g.P, .int .i64 g.F, .slice Q1 g.ws.length q1, .slice Q2 g.cs.length q2, .slice Q3 g.ac.length q3] : Array Value)[i]?)) := fun V hV => (HY.out.bel hV).cell
  have CS : Hid (∀ V, Below W.heap.size W V → ∀ t, Calls Tryd.prog 19 #[.agg #[.int .i64 g.P, .int .i64 g.F, .slice Q1 g.ws.length q1, .slice Q2 g.cs.length q2, .slice Q3 g.ac.length q3], .int .i64 t] V fun e w' => e = .returned (whoP (srvV g t)) ∧ Below V.heap.size V w') := fun V hV t => serves_any (HE5.out.below hV) (HCG.out.below hV) (by omega) t
  have q0 := HS.out _ (Below.refl _ _)
  clear hf Y1
  go_wp2_with fail
  go_loopw [6, 7] (fun v i V => InvL W g v i V) (fun _ i _ => g.cs.length - (intOf i).toNat)
  case atStart => exact ⟨0, rfl, by omega, G.Own.nil_ _ _ _ _, Below.refl _ _⟩
  case round =>
    clear q0
    obtain ⟨k, rfl, hk, hO, S0⟩ := hrel
    obtain ⟨P3, p3, hv3⟩ := own_slice hO
    subst hv3
    have q0 := HS.out _ S0
    by_cases hlt : k < g.cs.length
    · obtain ⟨x, hx, _⟩ := drop_cons hlt
      obtain ⟨b4, o4, e4, hbl, g0, g1, g2, g3, g4, g5, g6, g7, g8, g9, g10⟩ := row_chn (HR2.out.below S0) hx
      have HP := Lib.hid (plc_step hx)
      clear hx g1 g2 g3 g4 g5 g6 g7 g8 g9 g10
      subst e4
      by_cases hq : x.k = 1
      · have tq : (x.k == 1) = true := by simp [hq]
        have e := HP.out
        rw [if_pos hq] at e
        have HE := Lib.hid e
        clear e hq HP
        have OA := hO.alloc (.cells #[.int .i64 k] 3)
        have HBA := ba1 S0 (.cells #[.int .i64 k] 3)
        have hsz := HBA.size
        go_wp2_with (at_builtin; refine wpList_app Tryd.underlying24 hi hz0 hz1 hz2 rfl (by omega) rfl _ _ rfl W.heap.size (.slice P3 (plc 0 (g.cs.take k)).length p3) (plc 0 (g.cs.take k)).length (ivs (plc 0 (g.cs.take k))) rfl OA (some ⟨wr.heap.size, 0, none⟩) 1 1 [.int .i64 k] rfl (Row.of_blk (Blk.new wr 3 _) (fun j u hj => by simpa using hj)) rfl (ivs_one [(k : Int)]) (by have := plc_le 0 (g.cs.take k); rw [List.length_take] at this; omega) (by omega) hsz ?_; intro v' w' hown hbl' hgrow hob; clear hob; obtain ⟨P4, p4, hv4⟩ := own_slice hown; subst hv4; have N := HBA.trans hbl')
        go_roundw
        case rel => exact ⟨k + 1, by go_num, by omega, by rw [HE.out, ivs_app, List.length_append]; exact hown, N⟩
        case measure => simp [intOf]; omega
      · have tq : (x.k == 1) = false := by simp [hq]
        have e := HP.out
        rw [if_neg hq, List.append_nil] at e
        have HE := Lib.hid e
        clear e hq HP
        go_wp2_with fail
        go_roundw
        case rel => exact ⟨k + 1, by go_num, by omega, by rw [HE.out]; exact hO, S0⟩
        case measure => simp [intOf]; omega
    · have hkl : g.cs.take k = g.cs := List.take_of_length_le (by omega)
      rw [hkl] at hO
      rw [hkl]
      have hple := plc_le 0 g.cs
      obtain ⟨L, hL⟩ : ∃ L, plc 0 g.cs = L := ⟨_, rfl⟩
      rw [hL] at hO hple
      rw [hL]
      have HL := Lib.hid hL
      clear hL hkl
      obtain ⟨P4, p4, e4, hr3, hle3, hm3, hz3⟩ := hO.row
      injection e4 with e4 _ e5
      subst e4 e5
      have HR := Lib.hid hr3
      have HS0 := Lib.hid S0
      have hm := HM.out
      clear hO hm3 hz3 hr3
      go_wp2_with fail
      go_loopw [8] (fun i V => InvT wr i V) (fun i _ => 12 - (intOf i).toNat)
      case atStart => exact ⟨0, rfl, by omega, Below.refl _ _⟩
      case round =>
        clear q0 S0 hm hlt
        obtain ⟨i, rfl, hi12, hb⟩ := hrel
        have S0 := bt HS0.out hb
        have q0 := HS.out _ S0
        by_cases hlt : i < 12
        · have hltz : (i : Int) < 12 := by omega
          by_cases hc : 0 < (phV g (-1)).length
          · obtain ⟨t, ht⟩ : ∃ t, tth g.ws (-1) g.F.toNat (m + i) = t := ⟨_, rfl⟩
            have ht6 : t ≤ 1000000 := by rw [← ht]; have := tth_le HF.out hc (m + i); omega
            have hch := gd_ch (gd_of HF.out)
            obtain ⟨o1, o2, o3⟩ := tth_at hch (by rw [← phv_good HF.out]; exact hc) (m + i)
            rw [ht] at o1 o2
            have hw : whoV g (t : Int) = some (-1) := by
              rw [who_sm HF.out (by omega)]
              exact of_decide_eq_true o1
            have hbv : befV g (-1) (t : Int) = ((m + i : Nat) : Int) := by rw [bef_sm HF.out (by omega), o2]
            have CNk := Lib.hid (CN.out _ S0 (-1) ((m : Int) + (i : Int)))
            rw [← Int.natCast_add, nth_sm HF.out hc (by omega), ht, Int.natCast_add] at CNk
            have CSk : Hid (∀ V, Below W.heap.size W V → Calls Tryd.prog 19 #[.agg #[.int .i64 g.P, .int .i64 g.F, .slice Q1 g.ws.length q1, .slice Q2 g.cs.length q2, .slice Q3 g.ac.length q3], .int .i64 t] V fun e w' => e = .returned (whoP (srvV g t)) ∧ Below V.heap.size V w') := fun V hV => CS.out V hV t
            clear o3 ht hch o1 o2 hc
            by_cases hl : 0 < L.length
            · obtain ⟨p, hp, j, hj1, hj2, hj3⟩ := mod_nat (L := L) (m := m) (k := i) hl
              have hsv : srvV g (t : Int) = some p := by
                unfold srvV
                rw [if_pos hw, hbv, HL.out, ← Int.natCast_emod, Int.toNat_natCast]
                exact hp
              rw [hsv] at CSk
              have HP := Lib.hid hj3
              have HJ := Lib.hid hj1
              have tl : ((L.length : Int) == 0) = false := by simp; intro h; rw [h] at hl; simp at hl
              simp only [whoP] at CSk
              have tpp : (p != p) = false := by simp
              clear hsv hw hbv hp hj3 hj1
              go_wp2_with fail
              with_reducible refine CNk.out.mono ?_
              rintro e V1 ⟨rfl, hb1⟩
              have S0 := bt S0 hb1
              have hb := bt hb hb1
              clear q0 hb1 CNk
              have q0 := HS.out _ S0
              go_wp2_with fail
              with_reducible refine (CSk.out _ S0).mono ?_
              rintro e V2 ⟨rfl, hb1⟩
              have S0 := bt S0 hb1
              have hb := bt hb hb1
              obtain ⟨b5, o5, e5, hbl5, hc5'⟩ := row_int (HR.out.below hb) HP.out
              subst e5
              have hj1 := HJ.out
              clear q0 hb1 CSk
              go_wp2_with fail
              go_roundw
              case rel => exact ⟨i + 1, by go_num, by omega, hb⟩
              case measure => simp [intOf]; omega
            · have hl0 : L.length = 0 := by omega
              rw [srv_nil (by rw [HL.out]; exact List.eq_nil_of_length_eq_zero hl0)] at CSk
              have tl : ((L.length : Int) == 0) = true := by simp [hl0]
              simp only [whoP] at CSk
              clear hl hl0 hw hbv
              go_wp2_with fail
              with_reducible refine CNk.out.mono ?_
              rintro e V1 ⟨rfl, hb1⟩
              have S0 := bt S0 hb1
              have hb := bt hb hb1
              clear q0 hb1 CNk
              have q0 := HS.out _ S0
              go_wp2_with fail
              with_reducible refine (CSk.out _ S0).mono ?_
              rintro e V2 ⟨rfl, hb1⟩
              have S0 := bt S0 hb1
              have hb := bt hb hb1
              clear q0 hb1 CSk
              go_wp2_with fail
              go_roundw
              case rel => exact ⟨i + 1, by go_num, by omega, hb⟩
              case measure => simp [intOf]; omega
          · have hl0 : (phV g (-1)).length = 0 := by omega
            have CNk := Lib.hid (CN.out _ S0 (-1) ((m : Int) + (i : Int)))
            rw [nth_none hl0] at CNk
            have CCk : Hid (∀ V, Below W.heap.size W V → Calls Tryd.prog 18 #[.agg #[.int .i64 g.P, .int .i64 g.F, .slice Q1 g.ws.length q1, .slice Q2 g.cs.length q2, .slice Q3 g.ac.length q3], .int .i64 (-1)] V fun e w' => e = .returned (.int .i64 0) ∧ Below V.heap.size V w') := fun V hV => by
              have := CC.out V hV (-1)
              rw [hl0] at this; exact this
            clear hc hl0
            go_wp2_with fail
            with_reducible refine CNk.out.mono ?_
            rintro e V1 ⟨rfl, hb1⟩
            have S0 := bt S0 hb1
            clear q0 hb1 CNk
            have q0 := HS.out _ S0
            go_wp2_with fail
            with_reducible refine (CCk.out _ S0).mono ?_
            rintro e V2 ⟨rfl, hb1⟩
            have S0 := bt S0 hb1
            clear q0 hb1 CCk
            go_wp2_with fail
            go_ret
            exact ⟨rfl, bt HB5.out S0⟩
        · have hltz : ¬ (i : Int) < 12 := by omega
          go_wp2_with fail
          go_ret
          exact ⟨rfl, bt HB5.out S0⟩
end Go.Proofs.YtmfkapbllmfegaaDoor.windowTurns
