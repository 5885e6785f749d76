/- WindowAll, walked. -/
import Derived.Test.YtmfkapbllmfegaaDoorWl0
namespace Go.Proofs.YtmfkapbllmfegaaDoor.windowAll
open Go.RowKit Go.Proofs.YtmfkapbllmfegaaDoor.G Go.Proofs.YtmfkapbllmfegaaDoor.C04 Go.Proofs.YtmfkapbllmfegaaDoor.Sat Go.Proofs.YtmfkapbllmfegaaDoor.W13
set_option maxRecDepth 100000
def cnts (g : Cfg) : Nat → Nat
  | 0 => 0
  | k + 1 => cnts g k + (phV g ((k : Int) - 1)).length
def non (l : List Win) (n : Nat) : Bool := decide (whoW l (n : Int) = none)
def ahs (l : List Win) (n : Nat) : Nat → Nat
  | 0 => 0
  | k + 1 => ahs l n k + ah (W13.own l ((k : Int) - 1)) n
theorem ahs_zero (l : List Win) : ∀ k, ahs l 0 k = 0
  | 0 => rfl
  | k + 1 => by unfold ahs; rw [ahs_zero l k]; rfl
def ones (l : List Win) (n : Nat) : Nat → Nat
  | 0 => 0
  | k + 1 => ones l n k + if W13.own l ((k : Int) - 1) n = true then 1 else 0
theorem ahs_succ (l : List Win) (n : Nat) : ∀ k, ahs l (n + 1) k = ahs l n k + ones l n k
  | 0 => rfl
  | k + 1 => by
    unfold ahs ones
    rw [ahs_succ l n k]
    show _ + (ah _ n + _) = _
    omega
theorem ones_eq (l : List Win) (n : Nat) : ∀ k, ones l n k = match whoW l (n : Int) with | none => 0 | some a => if -1 ≤ a ∧ a < (k : Int) - 1 then 1 else 0
  | 0 => by
    cases h : whoW l (n : Int) with
    | none => rfl
    | some a => show 0 = if _ then 1 else 0; rw [if_neg (by omega)]
  | k + 1 => by
    unfold ones
    rw [ones_eq l n k]
    unfold W13.own
    cases h : whoW l (n : Int) with
    | none => simp
    | some a =>
      simp only [Option.some.injEq, decide_eq_true_eq]
      by_cases h1 : -1 ≤ a ∧ a < (k : Int) - 1
      · rw [if_pos h1, if_neg (by omega), if_pos (by omega)]
      · by_cases h2 : a = (k : Int) - 1
        · rw [if_neg h1, if_pos h2, if_pos (by omega)]
        · rw [if_neg h1, if_neg h2, if_neg (by omega)]
/-- All owners' ticks of a frame, and those that are no one's, are the frame. -/
theorem all_sum {P F : Int} {l : List Win} (h : Ch P F 0 l) {p : Nat} (hp : P = p) : ∀ n, ahs l n (p + 1) + ah (non l) n = n
  | 0 => by rw [ahs_zero]; rfl
  | n + 1 => by
    have ih := all_sum h hp n
    rw [ahs_succ, ones_eq]
    show _ + _ + (ah (non l) n + if decide (whoW l (n : Int) = none) = true then 1 else 0) = n + 1
    cases hw : whoW l (n : Int) with
    | none => simp only [decide_true, if_true]; omega
    | some a =>
      have := who_own h hw
      simp only [reduceCtorEq, decide_false, Bool.false_eq_true, if_false]
      rw [if_pos (by omega)]
      omega
theorem cnts_ahs {g : Cfg} (hf : flt g = none) : ∀ k, cnts g k = ahs g.ws g.F.toNat k
  | 0 => rfl
  | k + 1 => by unfold cnts ahs; rw [cnts_ahs hf k, len_ah hf]
theorem cnts_le {g : Cfg} (k : Nat) : cnts g k ≤ k * 64 := by
  induction k with
  | zero => exact Nat.zero_le _
  | succ k ih => have := phv_le g ((k : Int) - 1); unfold cnts; omega
theorem no_more {g : Cfg} (hf : flt g = none) : (phV g g.P).length = 0 := by
  rw [phv_good hf, List.length_eq_zero_iff, List.eq_nil_iff_forall_not_mem]
  intro p hp
  have hch := (gd_of hf).ch
  have := who_own hch ((mem_phs hch).1 hp)
  have := (gd_of hf).p
  omega
def InvA (W : World) (g : Cfg) (s t : Value) (V : World) : Prop := ∃ k : Nat, t = .int .i64 ((k : Int) - 1) ∧ s = .int .i64 (cnts g k : Nat) ∧ (k : Int) ≤ g.P + 1 ∧ Below W.heap.size W V
def InvF (W : World) (g : Cfg) (m : Nat) (f t : Value) (V : World) : Prop := ∃ k : Nat, t = .int .i64 ((m + k : Nat) : Int) ∧ f = .int .i64 ((bq (non g.ws) g.F.toNat (m + k) - bq (non g.ws) g.F.toNat m : Nat) : Int) ∧ k ≤ g.F.toNat ∧ Below W.heap.size W V
set_option maxHeartbeats 8000000 in
theorem walk {w : World} {u : Value} {c : Cfg} (hE : Et w) (h : CfgAt w u c) (now : Int) : Calls Tryd.prog 6 #[u, .int .i64 now] w fun e w' => e = .returned (.bool true) ∧ Below w.heap.size w w' := by
  obtain ⟨m, hm, hmb⟩ := nat_rest now (m := 100000) (by omega)
  have HM := Lib.hid hm
  clear hm
  obtain ⟨A1, A2, A3, c1, c2, c3, rfl⟩ := agg_of h
  have X0 := Blk.new w 26 #[.int .i64 c.P, .int .i64 c.F, .slice A1 c.ws.length c1, .slice A2 c.cs.length c2, .slice A3 c.ac.length c3]
  have HB := b01 w (.cells #[.int .i64 c.P, .int .i64 c.F, .slice A1 c.ws.length c1, .slice A2 c.cs.length c2, .slice A3 c.ac.length c3] 26)
  have HE := Lib.hid (hE.below HB)
  have HC := Lib.hid h
  clear h hE
  go_enter Tryd.func6, Tryd.ntmps6
  go_wp2_with fail
  refine (lives_any HE.out).mono ?_
  rintro e w1 ⟨rfl, hb1⟩
  have HB1 := bt HB hb1
  have k0 := (X0.bel hb1).cell
  clear HB X0
  go_wp2_with fail
  refine (few13_any HC.out).mono ?_
  rintro e w2 ⟨v2, rfl, hc2, hb2⟩
  have HB2 := bt HB1 hb2
  go_wp2_with fail
  refine (good_any (hc2.below HB2)).mono ?_
  rintro e w4 ⟨v4, g, rfl, ho4, hgood, hb4⟩
  have hg4 := ho4.at_
  obtain ⟨Q1, Q2, Q3, q1, q2, q3, rfl⟩ := agg_of hg4
  have Y1 := Blk.new w4 26 #[.int .i64 g.P, .int .i64 g.F, .slice Q1 g.ws.length q1, .slice Q2 g.cs.length q2, .slice Q3 g.ac.length q3]
  have HB5 := Lib.hid (ba1 (bt HB2 hb4) (.cells #[.int .i64 g.P, .int .i64 g.F, .slice Q1 g.ws.length q1, .slice Q2 g.cs.length q2, .slice Q3 g.ac.length q3] 26))
  have HCG := Lib.hid (hg4.alloc (.cells #[.int .i64 g.P, .int .i64 g.F, .slice Q1 g.ws.length q1, .slice Q2 g.cs.length q2, .slice Q3 g.ac.length q3] 26))
  have HG := Lib.hid hgood
  have HE5 := Lib.hid ((HE.out.below (bt hb1 (bt hb2 hb4))).below (b01 w4 (.cells #[.int .i64 g.P, .int .i64 g.F, .slice Q1 g.ws.length q1, .slice Q2 g.cs.length q2, .slice Q3 g.ac.length q3] 26)))
  have HGB : Hid (w.heap.size ≤ w4.heap.size) := (bt HB2 hb4).size
  have HC4 := Lib.hid hg4
  have HE4 := Lib.hid (HE.out.below (bt hb1 (bt hb2 hb4)))
  have HB4 := Lib.hid (b01 w4 (.cells #[.int .i64 g.P, .int .i64 g.F, .slice Q1 g.ws.length q1, .slice Q2 g.cs.length q2, .slice Q3 g.ac.length q3] 26))
  clear k0 HB1 HB2 hb1 hb2 hb4 ho4 hg4 hc2 HC HE hgood
  obtain ⟨gb, hgb⟩ : ∃ gb, w4.heap.size = gb := ⟨_, rfl⟩
  rw [hgb] at Y1 HGB
  have HGE := Lib.hid hgb
  go_upto_region 4 with fail
  generalize w4.alloc (.cells #[.int .i64 g.P, .int .i64 g.F, .slice Q1 g.ws.length q1, .slice Q2 g.cs.length q2, .slice Q3 g.ac.length q3] 26) = W at *
  clear hgb
  have HY := Lib.hid Y1
  have hf := HG.out.1
  have HF := Lib.hid hf
  have hF := (gd_of hf).f
  have hP := (gd_of hf).p
  have CW : Hid (∀ V, Below W.heap.size W V → ∀ t, Calls Tryd.prog 15 #[.agg #[.int .i64 g.P, .int .i64 g.F, .slice Q1 g.ws.length q1, .slice Q2 g.cs.length q2, .slice Q3 g.ac.length q3], .int .i64 t] V fun e w' => e = .returned (whoP (whoV g t)) ∧ Below V.heap.size V w') := fun V hV t => whose_any (HE5.out.below hV) (HCG.out.below hV) t
  have CC : Hid (∀ V, Below W.heap.size W V → ∀ o, Calls Tryd.prog 18 #[.agg #[.int .i64 g.P, .int .i64 g.F, .slice Q1 g.ws.length q1, .slice Q2 g.cs.length q2, .slice Q3 g.ac.length q3], .int .i64 o] V fun e w' => e = .returned (.int .i64 (phV g o).length) ∧ Below V.heap.size V w') := fun V hV o => count_any (HE5.out.below hV) (HCG.out.below hV) o
  have CB : Hid (∀ V, Below W.heap.size W V → ∀ o t, Calls Tryd.prog 14 #[.agg #[.int .i64 g.P, .int .i64 g.F, .slice Q1 g.ws.length q1, .slice Q2 g.cs.length q2, .slice Q3 g.ac.length q3], .int .i64 o, .int .i64 t] V fun e w' => e = .returned (.int .i64 (befV g o t)) ∧ Below V.heap.size V w') := fun V hV o t => before_any (HE5.out.below hV) (HCG.out.below hV) o t
  have CU : Hid (∀ V, Below W.heap.size W V → ∀ o t, Calls Tryd.prog 17 #[.agg #[.int .i64 g.P, .int .i64 g.F, .slice Q1 g.ws.length q1, .slice Q2 g.cs.length q2, .slice Q3 g.ac.length q3], .int .i64 o, .int .i64 t] V fun e w' => e = .returned (.int .i64 (untV g o t)) ∧ Below V.heap.size V w') := fun V hV o t => until_any (HE5.out.below hV) (HCG.out.below hV) o t
  have CN : Hid (∀ V, Below W.heap.size W V → ∀ o t, Calls Tryd.prog 16 #[.agg #[.int .i64 g.P, .int .i64 g.F, .slice Q1 g.ws.length q1, .slice Q2 g.cs.length q2, .slice Q3 g.ac.length q3], .int .i64 o, .int .i64 t] V fun e w' => e = .returned (.int .i64 (nthV g o t)) ∧ Below V.heap.size V w') := fun V hV o t => nth_any (HE5.out.below hV) (HCG.out.below hV) o t
  have HS : Hid (∀ V, Below W.heap.size W V → (∀ i, V.cell? ⟨gb, i, none⟩ = (#[.int .i64 g.P, .int .i64 g.F, .slice Q1 g.ws.length q1, .slice Q2 g.cs.length q2, .slice Q3 g.ac.length q3] : Array Value)[i]?)) := fun V hV => (HY.out.bel hV).cell
  have q0 := HS.out _ (Below.refl _ _)
  clear hf Y1
  go_wp2_with fail
  go_loopw [6, 8] (fun s t V => InvA W g s t V) (fun _ t _ => (g.P - intOf t).toNat)
  case atStart => exact ⟨0, rfl, rfl, by omega, Below.refl _ _⟩
  case round =>
    clear q0
    obtain ⟨k, rfl, rfl, hk, S0⟩ := hrel
    have q0 := HS.out _ S0
    have hcl := cnts_le (g := g) k
    by_cases hlt : (k : Int) - 1 < g.P
    · have CCk := Lib.hid (CC.out _ S0 ((k : Int) - 1))
      have hpl := phv_le g ((k : Int) - 1)
      obtain ⟨ck, hck⟩ : ∃ x, (phV g ((k : Int) - 1)).length = x := ⟨_, rfl⟩
      obtain ⟨sk, hsk⟩ : ∃ x, cnts g k = x := ⟨_, rfl⟩
      have HE1 : Hid (cnts g (k + 1) = sk + ck) := by show cnts g k + _ = _; rw [hsk, hck]
      rw [hck] at CCk hpl
      rw [hsk] at hcl
      rw [hsk]
      clear hck hsk
      go_wp2_with fail
      with_reducible refine CCk.out.mono ?_
      rintro e V1 ⟨rfl, hb⟩
      have S0 := bt S0 hb
      clear q0 hb CCk
      go_wp2_with fail
      go_roundw
      case rel => exact ⟨k + 1, by go_num, by rw [HE1.out]; go_num, by omega, S0⟩
      case measure => simp [intOf]; omega
    · obtain ⟨p, hp⟩ : ∃ p : Nat, g.P = p := ⟨g.P.toNat, by omega⟩
      have hkp : k = p + 1 := by omega
      have HA : Hid (cnts g k + ah (non g.ws) g.F.toNat = g.F.toNat) := by
        show cnts g k + _ = _
        rw [cnts_ahs HF.out, hkp]; exact all_sum (gd_of HF.out).ch hp _
      have HM0 : Hid (∀ t : Nat, bq (non g.ws) g.F.toNat (t + g.F.toNat) = bq (non g.ws) g.F.toNat t + ah (non g.ws) g.F.toNat) := fun t => bq_shift _ (by omega) t
      have HMs : Hid (∀ t : Nat, bq (non g.ws) g.F.toNat (t + 1) = bq (non g.ws) g.F.toNat t + if decide (whoW g.ws ((t % g.F.toNat : Nat) : Int) = none) = true then 1 else 0) := fun t => bq_succ _ (by omega) t
      have HMm : Hid (∀ t u : Nat, t ≤ u → bq (non g.ws) g.F.toNat t ≤ bq (non g.ws) g.F.toNat u) := fun t u h => bq_mono _ (by omega) h
      have HMl : Hid (∀ t : Nat, bq (non g.ws) g.F.toNat t ≤ t) := fun t => bq_bd HF.out _ t
      obtain ⟨sk, hsk⟩ : ∃ x, cnts g k = x := ⟨_, rfl⟩
      rw [hsk] at hcl HA
      rw [hsk]
      have hk5 : k ≤ 5 := by omega
      have hs6 : sk ≤ 320 := by omega
      have hm := HM.out
      have hFn : ((g.F.toNat : Nat) : Int) = g.F := by omega
      have HFn := Lib.hid hFn
      clear hsk hkp hp hcl hFn
      go_wp2_with fail
      go_loopw [7, 10] (fun f t V => InvF W g m f t V) (fun _ t _ => m + g.F.toNat - (intOf t).toNat)
      case atStart => exact ⟨0, rfl, by rw [Nat.add_zero, Nat.sub_self]; rfl, by omega, S0⟩
      case round =>
        clear q0 S0 hm hlt
        obtain ⟨j, rfl, rfl, hj, S0⟩ := hrel
        have q0 := HS.out _ S0
        have h1 := HMm.out m (m + j) (by omega)
        have h2 := HMl.out (m + j)
        have HS1 := Lib.hid (HMs.out (m + j))
        have HD : Hid (bq (non g.ws) g.F.toNat m ≤ bq (non g.ws) g.F.toNat (m + j)) := h1
        obtain ⟨fr, hfr⟩ : ∃ x, bq (non g.ws) g.F.toNat (m + j) - bq (non g.ws) g.F.toNat m = x := ⟨_, rfl⟩
        have hfr6 : fr ≤ 200000 := by omega
        have HFr := Lib.hid hfr
        rw [hfr]
        clear hfr h1 h2
        obtain ⟨t, ht⟩ : ∃ t, m + j = t := ⟨_, rfl⟩
        rw [ht] at HS1 HFr HD
        rw [ht]
        have HT := Lib.hid ht
        by_cases hlt : j < g.F.toNat
        · have hltz : (t : Int) < (m : Int) + g.F := by have := HFn.out; omega
          have ht6 : t ≤ 200000 := by omega
          have hw := who_sm HF.out (t := t) (by omega)
          have CWk := Lib.hid (CW.out _ S0 (t : Int))
          rw [hw] at CWk
          cases hx : whoW g.ws ((t % g.F.toNat : Nat) : Int) with
          | none =>
            rw [hx] at CWk
            have HX : Hid (bq (non g.ws) g.F.toNat (t + 1) = bq (non g.ws) g.F.toNat t + 1) := by
              have := HS1.out
              rw [hx] at this; exact this
            simp only [whoP] at CWk
            clear hw hx ht
            go_wp2_with fail
            with_reducible refine CWk.out.mono ?_
            rintro e V1 ⟨rfl, hb⟩
            have S0 := bt S0 hb
            clear q0 hb CWk
            go_wp2_with fail
            go_roundw
            case rel =>
              refine ⟨j + 1, ?_, ?_, by omega, S0⟩
              · rw [show m + (j + 1) = t + 1 by have := HT.out; omega]; go_num
              · rw [show m + (j + 1) = t + 1 by have := HT.out; omega, HX.out]
                have h1 := HFr.out
                have h2 := HD.out
                rw [show bq (non g.ws) g.F.toNat t + 1 - bq (non g.ws) g.F.toNat m = fr + 1 by omega]
                go_num
            case measure => have := HT.out; have := HFn.out; simp [intOf]; omega
          | some y =>
            rw [hx] at CWk
            have hX : bq (non g.ws) g.F.toNat (t + 1) = bq (non g.ws) g.F.toNat t := by
              have := HS1.out
              rw [hx] at this; simpa using this
            have HX := Lib.hid hX
            clear hX
            simp only [whoP] at CWk
            clear hw hx ht
            go_wp2_with fail
            with_reducible refine CWk.out.mono ?_
            rintro e V1 ⟨rfl, hb⟩
            have S0 := bt S0 hb
            clear q0 hb CWk
            go_wp2_with fail
            go_roundw
            case rel =>
              refine ⟨j + 1, ?_, ?_, by omega, S0⟩
              · rw [show m + (j + 1) = t + 1 by have := HT.out; omega]; go_num
              · rw [show m + (j + 1) = t + 1 by have := HT.out; omega, HX.out, HFr.out]
            case measure => have := HT.out; have := HFn.out; simp [intOf]; omega
        · have ht6 : t ≤ 200000 := by omega
          have hltz : ¬ (t : Int) < (m : Int) + g.F := by have := HFn.out; omega
          have hsum : (sk : Int) + fr = g.F := by
            have h0 := HT.out
            have h1 := HFr.out
            have h2 := HM0.out m
            have h3 := HA.out
            have h4 := HFn.out
            rw [show m + g.F.toNat = t by omega] at h2
            omega
          have tws : IntKind.i64.wrap ((sk : Int) + fr) = (sk : Int) + fr := by rw [IntKind.wrap_i64]; omega
          have te : ((sk : Int) + fr == g.F) = true := by simpa using hsum
          have CCk := Lib.hid (CC.out _ S0 g.P)
          rw [no_more HF.out] at CCk
          clear hsum ht
          go_wp2_with fail
          with_reducible refine CCk.out.mono ?_
          rintro e V1 ⟨rfl, hb⟩
          have S0 := bt S0 hb
          clear q0 hb CCk
          go_wp2_with fail
          go_ret
          exact ⟨rfl, bt HB5.out S0⟩
end Go.Proofs.YtmfkapbllmfegaaDoor.windowAll
