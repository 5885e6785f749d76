/- The walk of ConfigLess. -/
import Derived.Test.YtcaalecfideldaaDoorLWays
import Derived.Test.YtcaalecfideldaaDoorCln
namespace Go.Proofs.YtcaalecfideldaaDoor.configLess
open Go.RowKit Go.Proofs.YtcaalecfideldaaDoor.G Go.Proofs.YtcaalecfideldaaDoor.C04
open Go.Proofs.YtcaalecfideldaaDoor.configSame (few_at blk5 below5)
attribute [local go_sem ↓] Go.wp_at_zero Go.wp_at_succ

theorem cbad_all {P : Int} : ∀ (cs : List Chn) (i : Nat), (∀ k ∈ cs, rgt P k = true) → cbad P i cs = none
  | [], _, _ => rfl
  | x :: r, i, h => by rw [cbad, if_pos (h x (List.mem_cons_self ..))]; exact cbad_all r (i + 1) fun k hk => h k (List.mem_cons_of_mem _ hk)
/-- Fewer channels, no path more. -/
theorem path_less {g : Cfg} {ds : List Chn} (hd : ∀ k ∈ ds, k ∈ g.cs) (hf : flt g = none) (a b : Int) (h : pathV ⟨g.P, g.F, g.ws, ds, g.ac⟩ a b = true) : pathV g a b = true := by
  obtain ⟨_, h2, h3, h4⟩ := pathV_iff.1 h
  exact pathV_iff.2 ⟨hf, h2, h3, reach_less hd h4⟩
def ers (cs : List Chn) (k : Nat) : List Chn := cs.take k ++ cs.drop (k + 1)
theorem ers_mem (cs : List Chn) (k : Nat) : ∀ x ∈ ers cs k, x ∈ cs := fun x hx => by
  rcases List.mem_append.1 hx with h | h
  · exact List.mem_of_mem_take h
  · exact List.mem_of_mem_drop h
def NI (w6 : World) (s : Int → Bool) (l : List Int) (P : Int) (nv av : Value) (W : World) : Prop := ∃ n k : Nat, nv = .int .i64 n ∧ av = .int .i64 k ∧ (k : Int) ≤ P ∧ n ≤ l.length ∧ l.drop n = sel s k (4 - k) ∧ Below w6.heap.size w6 W
def CutL (w : World) (g : Cfg) (gb : Array Value) (g5 g6 : Nat) (W : World) : Prop := ∃ (le : Cfg) (lb : Array Value), Blk W g5 26 gb ∧ Blk W g6 26 lb ∧ CfgAt W (.agg gb) g ∧ CfgAt W (.agg lb) le ∧ (∀ a b, pathV le a b = true → pathV g a b = true) ∧ Below w.heap.size w W
theorem ers_len {cs : List Chn} {k : Nat} (hk : k < cs.length) : (ers cs k).length = k + (cs.length - (k + 1)) := by unfold ers; rw [List.length_append, List.length_take, List.length_drop]; omega
theorem cutl_mk {w W7 w9 : World} {g : Cfg} {g5 g6 k q1 q2 q3 s1 s2 s3 p5 : Nat} {b : Nat} {Q1 Q3 R1 R2 R3 P5 : Option Addr} (hfl : flt g = none) (hwb : WB g) (hk : k < g.cs.length)
    (z5 : Blk W7 g5 26 #[.int .i64 g.P, .int .i64 g.F, .slice Q1 g.ws.length q1, .slice (some ⟨b, 0, none⟩) g.cs.length q2, .slice Q3 g.ac.length q3])
    (z6 : Blk W7 g6 26 #[.int .i64 g.P, .int .i64 g.F, .slice R1 g.ws.length s1, .slice R2 g.cs.length s2, .slice R3 g.ac.length s3])
    (h56 : g5 < g6) (hBB : Below W7.heap.size W7 w9) (hB : Below w.heap.size w W7) (h6 : w.heap.size ≤ g6)
    (o1 : Own W7 w.heap.size 36 3 (.slice Q1 g.ws.length q1) g.ws.length (wvs g.ws)) (o2 : Own W7 w.heap.size 38 11 (.slice (some ⟨b, 0, none⟩) g.cs.length q2) g.cs.length (cvs g.cs)) (o3 : Own W7 w.heap.size 3 1 (.slice Q3 g.ac.length q3) g.ac.length (ivs g.ac))
    (t1 : Own W7 w.heap.size 36 3 (.slice R1 g.ws.length s1) g.ws.length (wvs g.ws)) (t3 : Own W7 w.heap.size 3 1 (.slice R3 g.ac.length s3) g.ac.length (ivs g.ac))
    (hn : Own w9 W7.heap.size 38 11 (.slice P5 (k + (g.cs.length - (k + 1))) p5) (k + (g.cs.length - (k + 1))) (cvs (g.cs.take k) ++ cvs (g.cs.drop (k + 1)))) :
    CutL w g #[.int .i64 g.P, .int .i64 g.F, .slice Q1 g.ws.length q1, .slice (some ⟨b, 0, none⟩) g.cs.length q2, .slice Q3 g.ac.length q3] g5 g6 (w9.setCell ⟨g6, 3, none⟩ (.slice P5 (k + (g.cs.length - (k + 1))) p5)) := by
  have y5 := z5.bel hBB
  have y6 := z6.bel hBB
  have st : ∀ {B : Nat} {t : TypeId} {m n : Nat} {v : Value} {xs : List Value}, Own w9 B t m v n xs → t ≠ 26 → Own (w9.setCell ⟨g6, 3, none⟩ (.slice P5 (k + (g.cs.length - (k + 1))) p5)) B t m v n xs := fun h ht => own_st h (own_off h y6 ht) 3 _
  refine ⟨⟨g.P, g.F, g.ws, ers g.cs k, g.ac⟩, _, y5.far (p := ⟨g6, 3, none⟩) (Nat.ne_of_lt h56) _, by simpa using y6.set_ 3 (.slice P5 (k + (g.cs.length - (k + 1))) p5), ?_, ?_, fun a b h => path_less (ers_mem _ _) hfl a b h, ?_⟩
  · exact CfgOwn.at_ (B := w.heap.size) ⟨_, _, _, rfl, st (o1.below hBB) (by decide), st (o2.below hBB) (by decide), st (o3.below hBB) (by decide), hwb⟩
  · refine CfgOwn.at_ (B := w.heap.size) ⟨_, _, _, rfl, st (t1.below hBB) (by decide), ?_, st (t3.below hBB) (by decide), hwb⟩
    have := (st hn (by decide)).less hB.size
    simp only [ers_len hk]
    rw [ers, cvs_app]
    exact this
  · exact (hB.trans (hBB.mono hB.size)).setCell h6 _
set_option maxHeartbeats 4000000 in
set_option maxRecDepth 100000 in
theorem walk {w : World} {u : Value} {c : Cfg} (at_ : Int) (hg : Et w) (h : CfgAt w u c) :
    Calls Tryd.prog 6 #[u, .int .i64 at_] w fun e w' => e = .returned (.bool true) ∧ Below w.heap.size w w' := by
  obtain ⟨A1, A2, A3, c1, c2, c3, rfl⟩ := few_at h
  have X0 := Blk.new w 26 #[.int .i64 c.P, .int .i64 c.F, .slice A1 c.ws.length c1, .slice A2 c.cs.length c2, .slice A3 c.ac.length c3]
  have HB := b01 w (.cells #[.int .i64 c.P, .int .i64 c.F, .slice A1 c.ws.length c1, .slice A2 c.cs.length c2, .slice A3 c.ac.length c3] 26)
  have HG := Lib.hid (hg.below HB)
  have HC := Lib.hid h
  clear hg h
  go_enter Tryd.func6, Tryd.ntmps6
  go_wp2_with fail
  refine (lives_any HG.out).mono ?_
  rintro e w1 ⟨rfl, hb1⟩
  have HB1 := bt HB hb1
  have k0 := (X0.bel hb1).cell
  clear HB X0
  go_wp2_with fail
  refine (few_any HC.out).mono ?_
  rintro e w2 ⟨v2, rfl, hc2, hb2⟩
  have HB2 := bt HB1 hb2
  go_wp2_with fail
  refine (good_any (hc2.below HB2)).mono ?_
  rintro e w4 ⟨v4, g, rfl, ho4, hgood, hb4⟩
  have hg4 := ho4.at_
  obtain ⟨v1, v2', v3, rfl, o1, o2, o3, hwb0⟩ := ho4
  obtain ⟨Q1, q1, rfl⟩ := own_slice o1
  obtain ⟨Q2, q2, rfl⟩ := own_slice o2
  obtain ⟨Q3, q3, rfl⟩ := own_slice o3
  have Y1 := Blk.new w4 26 #[.int .i64 g.P, .int .i64 g.F, .slice Q1 g.ws.length q1, .slice Q2 g.cs.length q2, .slice Q3 g.ac.length q3]
  have HB5 := ba1 (bt HB2 hb4) (.cells #[.int .i64 g.P, .int .i64 g.F, .slice Q1 g.ws.length q1, .slice Q2 g.cs.length q2, .slice Q3 g.ac.length q3] 26)
  have HCG5 := Lib.hid (hg4.alloc (.cells #[.int .i64 g.P, .int .i64 g.F, .slice Q1 g.ws.length q1, .slice Q2 g.cs.length q2, .slice Q3 g.ac.length q3] 26))
  have O1 := o1.alloc (.cells #[.int .i64 g.P, .int .i64 g.F, .slice Q1 g.ws.length q1, .slice Q2 g.cs.length q2, .slice Q3 g.ac.length q3] 26)
  have O2 := o2.alloc (.cells #[.int .i64 g.P, .int .i64 g.F, .slice Q1 g.ws.length q1, .slice Q2 g.cs.length q2, .slice Q3 g.ac.length q3] 26)
  have O3 := o3.alloc (.cells #[.int .i64 g.P, .int .i64 g.F, .slice Q1 g.ws.length q1, .slice Q2 g.cs.length q2, .slice Q3 g.ac.length q3] 26)
  have hb5 : w.heap.size ≤ w2.heap.size := HB2.size
  replace O1 := O1.less hb5
  replace O2 := O2.less hb5
  replace O3 := O3.less hb5
  clear k0 HB1 HB2 hb1 hb2 hb4 hg4 hc2 HC HG o1 o2 o3 hb5
  obtain ⟨g5, hg5⟩ : ∃ g, w4.heap.size = g := ⟨_, rfl⟩
  rw [hg5] at Y1
  go_upto_region 4 with fail
  generalize w4.alloc (.cells #[.int .i64 g.P, .int .i64 g.F, .slice Q1 g.ws.length q1, .slice Q2 g.cs.length q2, .slice Q3 g.ac.length q3] 26) = W5 at *
  clear hg5
  obtain ⟨hfl, hw6, hc5, _⟩ := hgood
  obtain ⟨⟨n1, n2⟩, _, _, _, _, hcb, hal, _⟩ := flt_none hfl
  have k5 := Y1.cell
  go_wp2_with fail
  refine (clone_any HCG5.out (by omega) (by omega) (by omega)).mono ?_
  rintro e w6 ⟨v6, rfl, ho6, hb6⟩
  have hg6 := ho6.at_
  obtain ⟨v1, v2', v3, rfl, r1, r2, r3, hwb⟩ := ho6
  obtain ⟨R1, s1, rfl⟩ := own_slice r1
  obtain ⟨R2, s2, rfl⟩ := own_slice r2
  obtain ⟨R3, s3, rfl⟩ := own_slice r3
  have Z5 := (Y1.bel hb6).alloc (.cells #[.int .i64 g.P, .int .i64 g.F, .slice R1 g.ws.length s1, .slice R2 g.cs.length s2, .slice R3 g.ac.length s3] 26)
  have Z6 := Blk.new w6 26 #[.int .i64 g.P, .int .i64 g.F, .slice R1 g.ws.length s1, .slice R2 g.cs.length s2, .slice R3 g.ac.length s3]
  have HB7 := ba1 (bt HB5 hb6) (.cells #[.int .i64 g.P, .int .i64 g.F, .slice R1 g.ws.length s1, .slice R2 g.cs.length s2, .slice R3 g.ac.length s3] 26)
  have HCG7 := Lib.hid ((HCG5.out.below hb6).alloc (.cells #[.int .i64 g.P, .int .i64 g.F, .slice R1 g.ws.length s1, .slice R2 g.cs.length s2, .slice R3 g.ac.length s3] 26))
  have HCL7 := Lib.hid (hg6.alloc (.cells #[.int .i64 g.P, .int .i64 g.F, .slice R1 g.ws.length s1, .slice R2 g.cs.length s2, .slice R3 g.ac.length s3] 26))
  have O6 := (O1.below hb6).alloc (.cells #[.int .i64 g.P, .int .i64 g.F, .slice R1 g.ws.length s1, .slice R2 g.cs.length s2, .slice R3 g.ac.length s3] 26)
  have O7 := (O2.below hb6).alloc (.cells #[.int .i64 g.P, .int .i64 g.F, .slice R1 g.ws.length s1, .slice R2 g.cs.length s2, .slice R3 g.ac.length s3] 26)
  have O8 := (O3.below hb6).alloc (.cells #[.int .i64 g.P, .int .i64 g.F, .slice R1 g.ws.length s1, .slice R2 g.cs.length s2, .slice R3 g.ac.length s3] 26)
  have T1 := r1.alloc (.cells #[.int .i64 g.P, .int .i64 g.F, .slice R1 g.ws.length s1, .slice R2 g.cs.length s2, .slice R3 g.ac.length s3] 26)
  have T3 := r3.alloc (.cells #[.int .i64 g.P, .int .i64 g.F, .slice R1 g.ws.length s1, .slice R2 g.cs.length s2, .slice R3 g.ac.length s3] 26)
  have hbw : w.heap.size ≤ W5.heap.size := HB5.size
  replace T1 := T1.less hbw
  replace T3 := T3.less hbw
  have h5b := (Y1.bel hb6).lt
  have h6b := (bt HB5 hb6).size
  clear k5 Y1 HB5 HCG5 O1 O2 O3 hb6 r1 r2 r3 hg6
  obtain ⟨g6, hg6⟩ : ∃ g, w6.heap.size = g := ⟨_, rfl⟩
  have h56 : g5 < g6 := by rw [← hg6]; exact h5b
  have hw6' : w.heap.size ≤ g6 := by rw [← hg6]; exact h6b
  rw [hg6] at Z6
  go_upto_region 5 with fail
  generalize w6.alloc (.cells #[.int .i64 g.P, .int .i64 g.F, .slice R1 g.ws.length s1, .slice R2 g.cs.length s2, .slice R3 g.ac.length s3] 26) = W7 at *
  clear hg6
  have HFL := Lib.hid hfl
  have HWB := Lib.hid hwb
  clear hfl hwb hwb0 hcb
  have k5 := Z5.cell
  have k6 := Z6.cell
  go_upto_if 23 with fail
  go_cut [] (fun W => CutL w g #[.int .i64 g.P, .int .i64 g.F, .slice Q1 g.ws.length q1, .slice Q2 g.cs.length q2, .slice Q3 g.ac.length q3] g5 g6 W)
  case first =>
    by_cases hz : g.cs.length = 0
    · have t0 : ¬ (0 : Int) < (g.cs.length : Int) := by omega
      clear hz
      go_wp2_with fail
      go_meet
      exact ⟨g, _, Z5, Z6, HCG7.out, HCL7.out, fun a b h => h, HB7⟩
    · have t0 : (0 : Int) < (g.cs.length : Int) := by omega
      clear hz
      have hm : IntKind.u64.wrap (g.cs.length : Int) = (g.cs.length : Int) := by rw [IntKind.wrap_u64]; omega
      have hz : ((g.cs.length : Int) == 0) = false := by rw [beq_eq_false_iff_ne]; omega
      have k0 : 0 ≤ (IntKind.u64.wrap at_).tmod (g.cs.length : Int) := Int.tmod_nonneg _ (by rw [IntKind.wrap_u64]; omega)
      have k1 : (IntKind.u64.wrap at_).tmod (g.cs.length : Int) < (g.cs.length : Int) := Int.tmod_lt_of_pos _ (by omega)
      obtain ⟨kk, hkk⟩ : ∃ kk, (IntKind.u64.wrap at_).tmod (g.cs.length : Int) = kk := ⟨_, rfl⟩
      rw [hkk] at k0 k1
      obtain ⟨k, rfl⟩ := Int.eq_ofNat_of_zero_le k0
      have hk : k < g.cs.length := by omega
      obtain ⟨A, cc, eA, hrow, hle, hmx, hAB⟩ := O7.row
      injection eA with eA _ e3
      subst eA
      subst e3
      obtain ⟨x, hx, _⟩ := drop_cons hk
      obtain ⟨b, o, rfl, hbl, _⟩ := row_chn hrow hx
      obtain ⟨rfl, hBb, cur, hcur⟩ := hAB b o rfl
      have kk0 : (0 : Int) ≤ (k : Int) := by omega
      have kk1 : (k : Int) ≤ (q2 : Int) := by omega
      have kk2 : (k : Int) + 1 ≤ (g.cs.length : Int) := by omega
      have kk3 : (g.cs.length : Int) ≤ (q2 : Int) := by omega
      have kk4 : (0 : Int) ≤ (k : Int) + 1 := by omega
      clear hx
      have Z50 := Lib.hid Z5
      have Z60 := Lib.hid Z6
      have O70 := Lib.hid O7
      go_upto_region 8 with fail
      obtain ⟨i0, hi, hz0, hz1, hz2⟩ := info_parts infoC
      have hrt : Row W7 (some ⟨b, 0, none⟩) (cvs (g.cs.take k)) := by
        unfold cvs; rw [flat_take Chn.cells_len]; exact hrow.take _
      have hlt : (cvs (g.cs.take k)).length = k * 11 := by rw [cvs_len, List.length_take]; congr 1; omega
      have HRT := Lib.hid hrt
      clear hrt
      have hsz := Nat.le_refl W7.heap.size
      go_upto_region 9 with (at_builtin; refine wpList_app Tryd.underlying23 hi hz0 hz1 hz2 rfl (by omega) rfl _ _ rfl W7.heap.size (.slice none 0 0) 0 [] rfl (Own.nil_ _ _ _ _) (some ⟨b, 0, none⟩) k q2 (cvs (g.cs.take k)) rfl HRT.out hlt (cvs_one _) (by omega) (by omega) hsz ?_; intro v' w' hown hbl' hgrow hob; clear hob hgrow; obtain ⟨P4, p4, hv4⟩ := own_slice hown; subst hv4)
      rw [Nat.zero_add, List.nil_append] at hown
      have O9 := O7.below hbl'
      have Z5 := Z5.bel hbl'
      have Z6 := Z6.bel hbl'
      clear k5 k6 hcur hAB
      have k5 := Z5.cell
      have k6 := Z6.cell
      have f6 := Z6.frozen
      have z6 := Z6.lt
      have hlen2 : (ers g.cs k).length = k + (g.cs.length - (k + 1)) := by unfold ers; rw [List.length_append, List.length_take, List.length_drop]; omega
      have hdl : (cvs (g.cs.drop (k + 1))).length = (g.cs.length - (k + 1)) * 11 := by rw [cvs_len, List.length_drop]
      have hdr : Row w' (if q2 = k + 1 then some ⟨b, 0, none⟩ else some ⟨b, (k + 1) * 11, none⟩) (cvs (g.cs.drop (k + 1))) := by
        by_cases hq : q2 = k + 1
        · have e0 : g.cs.drop (k + 1) = [] := List.drop_of_length_le (by omega)
          rw [e0]; exact Row.none_
        · rw [if_neg hq]
          intro _
          obtain ⟨A', c', e', hr', _⟩ := O9.row
          injection e' with e' _ _
          subst e'
          have hc := hr'
          refine ⟨b, (k + 1) * 11, rfl, ?_, fun j u hj => ?_⟩
          · obtain ⟨b2, o2, e2, hlt2, _⟩ := hr' (by rw [cvs_len]; omega)
            injection e2 with e2
            injection e2 with e2 _
            rw [e2]; exact hlt2
          · have h9 := hr'.news ((k + 1) * 11 + j) u (by
              have e3 : g.cs = g.cs.take (k + 1) ++ g.cs.drop (k + 1) := (List.take_append_drop _ _).symm
              rw [e3, cvs_app, List.getElem?_append_right (by rw [cvs_len, List.length_take]; omega), cvs_len, List.length_take]
              have e4 : (k + 1) * 11 + j - min (k + 1) g.cs.length * 11 = j := by rw [Nat.min_eq_left (by omega)]; omega
              rw [e4]; exact hj)
            rw [Addr.add_lit, Nat.zero_add] at h9
            exact h9
      have HDR := Lib.hid hdr
      clear hdr hrow O7 O9
      have hsz8 := hbl'.size
      clear HRT hsz hle hmx hbl
      go_wp2_with (at_builtin; refine wpList_app Tryd.underlying23 hi hz0 hz1 hz2 rfl (by omega) rfl _ _ rfl W7.heap.size (.slice P4 k p4) k (cvs (g.cs.take k)) rfl hown (if q2 = k + 1 then some ⟨b, 0, none⟩ else some ⟨b, (k + 1) * 11, none⟩) (g.cs.length - (k + 1)) (q2 - (k + 1)) (cvs (g.cs.drop (k + 1))) rfl HDR.out hdl (cvs_one _) (by omega) (by omega) hsz8 ?_; intro v9 w9 hown9 hbl9 hgrow9 hob9; clear hob9 hgrow9; obtain ⟨P5, p5, hv5⟩ := own_slice hown9; subst hv5; have HBB := hbl'.trans hbl9; clear k5 k6 f6 z6 Z5 Z6; have Z6n := Z60.out.bel HBB; have k6 := Z6n.cell; have f6 := Z6n.frozen; have z6 := Z6n.lt)
      all_goals
        go_meet
        exact cutl_mk HFL.out HWB.out hk Z50.out Z60.out h56 HBB HB7 hw6' O6 O70.out O8 T1 T3 hown9
  case rest =>
    clear Z5 Z6 k5 k6 O6 O7 O8 T1 T3 HCG7 HCL7 HB7 HWB
    obtain ⟨le, lb, Z5, Z6, hcg, hcl, himp, HB7⟩ := hcut
    obtain ⟨L1, L2, L3, l1, l2, l3, el⟩ := few_at hcl
    injection el with el
    subst el
    have HCG := Lib.hid hcg
    have HCL := Lib.hid hcl
    have HI := Lib.hid himp
    clear hcg hcl himp
    have S0 : Below wc.heap.size wc wc := Below.refl _ _
    go_wp2_with fail
    go_loopw [9] (fun i W => Go.Proofs.YtcaalecfideldaaDoor.configWays.WI wc i W) (fun i _ => (g.P - intOf i).toNat)
    case atStart => exact ⟨0, rfl, S0⟩
    case round =>
      clear S0
      obtain ⟨b, rfl, S0⟩ := hrel
      have k5 := (Z5.bel S0).cell
      by_cases hlt : (b : Int) < g.P
      · obtain ⟨l, hl⟩ : ∃ l, intoV g (b : Int) = l := ⟨_, rfl⟩
        have HL0 := Lib.hid hl
        clear hl
        go_upto_region 14 with (go_at_call 20; (with_reducible refine (into_any (b : Int) (HCG.out.below S0)).mono ?_); rintro e w6 ⟨v6, rfl, hO, hb6⟩; rw [HL0.out] at hO; obtain ⟨A6, c6, rfl, hR, hle, hm, hoz⟩ := hO.row; have HOZ := Lib.hid hoz; clear hoz; have HR := Lib.hid hR; have hm' : c6 ≤ 9223372036854775807 := hm; clear hO hR hm)
        have SB := bt S0 hb6
        clear k5 S0 hb6
        obtain ⟨s, hs⟩ : ∃ s : Int → Bool, (fun x => pathV g x (b : Int)) = s := ⟨_, rfl⟩
        have HS : Hid (∀ x, pathV g x (b : Int) = s x) := fun x => by rw [← hs]
        have hls : l = sel (fun x => pathV g x (b : Int)) 0 4 := HL0.out.symm
        rw [hs] at hls
        have HLS := Lib.hid hls
        clear hs hls
        have k5 := (Z5.bel SB).cell
        have S1 : Below w6.heap.size w6 w6 := Below.refl _ _
        go_wp2_with fail
        go_loopw [11, 12] (fun n a W => NI w6 s l g.P n a W) (fun n a _ => (g.P - intOf a).toNat)
        case atStart => exact ⟨0, 0, rfl, rfl, by omega, by omega, HLS.out, S1⟩
        case round =>
          clear k5 S1
          obtain ⟨n, k, rfl, rfl, hk, hn, hd, S1⟩ := hrel
          have HD := Lib.hid hd
          clear hd
          have k5 := (Z5.bel (bt SB S1)).cell
          have k6 := (Z6.bel (bt SB S1)).cell
          by_cases hlt2 : (k : Int) < g.P
          · have e4 : Hid (4 - k = (4 - (k + 1)) + 1) := by show 4 - k = _; omega
            obtain ⟨p1, e1⟩ : ∃ p, pathV le (k : Int) (b : Int) = p := ⟨_, rfl⟩
            obtain ⟨p2, e2⟩ : ∃ p, s (k : Int) = p := ⟨_, rfl⟩
            have hp : p1 = true → p2 = true := fun h => by rw [← e2, ← HS.out]; exact HI.out _ _ (e1.trans h)
            have E1 := Lib.hid e1
            have E2 := Lib.hid e2
            clear e1 e2
            cases p2 with
            | true =>
              clear hp
              have hd1 : l.drop n = (k : Int) :: sel s (k + 1) (4 - (k + 1)) := by rw [HD.out, e4.out, sel, if_pos E2.out]
              have hnl : n < l.length := by
                rcases Nat.lt_or_ge n l.length with h | h
                · exact h
                · rw [List.drop_of_length_le h] at hd1; cases hd1
              obtain ⟨x, hx, hdx⟩ := drop_cons hnl
              rw [hdx] at hd1
              injection hd1 with hx1 hd2
              subst hx1
              have HD2 := Lib.hid hd2
              have HX := Lib.hid hx
              have hni : (n : Int) < (l.length : Int) := by omega
              have hn0 : (0 : Int) ≤ (n : Int) := by omega
              have hgd : decide (l.length ≤ n) = false := decide_eq_false (by omega)
              have hgn : ¬ l.length ≤ n := by omega
              clear hdx hd2
              obtain ⟨b6, o6, rfl, hbl6, _⟩ := row_int HR.out hx
              obtain rfl : o6 = 0 := (HOZ.out b6 o6 rfl).1
              clear hx
              have hcell : ∀ W : World, Below w6.heap.size w6 W → W.cell? ⟨b6, n, none⟩ = some (.int .i64 k) := fun W hW => by
                obtain ⟨b7, o7, e7, _, h7⟩ := row_int (HR.out.below hW) HX.out
                injection e7 with e7
                injection e7 with e7 e8
                subst e7; subst e8
                rw [Nat.zero_add] at h7
                exact h7
              have HCE := Lib.hid hcell
              clear hcell
              cases p1 with
              | true =>
                go_wp2_with (first
                  | (go_at_call 17; (with_reducible refine (path_any (k : Int) (b : Int) (HCL.out.below (bt SB S1))).mono ?_); rintro e w7 ⟨rfl, hb7⟩; rw [E1.out]; replace S1 := bt S1 hb7; replace k5 := (Z5.bel (bt SB S1)).cell; replace k6 := (Z6.bel (bt SB S1)).cell; have ce := HCE.out _ S1; clear hb7)
                  | (go_at_call 17; (with_reducible refine (path_any (k : Int) (b : Int) (HCG.out.below (bt SB S1))).mono ?_); rintro e w7 ⟨rfl, hb7⟩; rw [HS.out, E2.out]; replace S1 := bt S1 hb7; replace k5 := (Z5.bel (bt SB S1)).cell; replace k6 := (Z6.bel (bt SB S1)).cell; have ce := HCE.out _ S1; clear hb7))
                go_roundw
                case rel => exact ⟨n + 1, k + 1, by go_num, by go_num, by omega, by omega, HD2.out, S1⟩
                case measure => simp [intOf]; omega
              | false =>
                go_wp2_with (first
                  | (go_at_call 17; (with_reducible refine (path_any (k : Int) (b : Int) (HCL.out.below (bt SB S1))).mono ?_); rintro e w7 ⟨rfl, hb7⟩; rw [E1.out]; replace S1 := bt S1 hb7; replace k5 := (Z5.bel (bt SB S1)).cell; replace k6 := (Z6.bel (bt SB S1)).cell; have ce := HCE.out _ S1; clear hb7)
                  | (go_at_call 17; (with_reducible refine (path_any (k : Int) (b : Int) (HCG.out.below (bt SB S1))).mono ?_); rintro e w7 ⟨rfl, hb7⟩; rw [HS.out, E2.out]; replace S1 := bt S1 hb7; replace k5 := (Z5.bel (bt SB S1)).cell; replace k6 := (Z6.bel (bt SB S1)).cell; have ce := HCE.out _ S1; clear hb7))
                go_roundw
                case rel => exact ⟨n + 1, k + 1, by go_num, by go_num, by omega, by omega, HD2.out, S1⟩
                case measure => simp [intOf]; omega
            | false =>
              obtain rfl : p1 = false := by
                cases p1 with
                | false => rfl
                | true => exact absurd (hp rfl) (by decide)
              clear hp
              go_wp2_with (first
                | (go_at_call 17; (with_reducible refine (path_any (k : Int) (b : Int) (HCL.out.below (bt SB S1))).mono ?_); rintro e w7 ⟨rfl, hb7⟩; rw [E1.out]; replace S1 := bt S1 hb7; replace k5 := (Z5.bel (bt SB S1)).cell; replace k6 := (Z6.bel (bt SB S1)).cell; clear hb7)
                | (go_at_call 17; (with_reducible refine (path_any (k : Int) (b : Int) (HCG.out.below (bt SB S1))).mono ?_); rintro e w7 ⟨rfl, hb7⟩; rw [HS.out, E2.out]; replace S1 := bt S1 hb7; replace k5 := (Z5.bel (bt SB S1)).cell; replace k6 := (Z6.bel (bt SB S1)).cell; clear hb7))
              go_roundw
              case rel => exact ⟨n, k + 1, by go_num, by go_num, by omega, by omega, by rw [HD.out, e4.out, sel, if_neg (by rw [E2.out]; decide)], S1⟩
              case measure => simp [intOf]; omega
          · have hnl : n = l.length := by
              have hd := HD.out
              rw [sel_none (4 - k) k (fun j h1 h2 => by
                rw [← HS.out, Bool.eq_false_iff]
                intro hp
                have : 0 ≤ (j : Int) ∧ (j : Int) < g.P := of_decide_eq_true (pathV_iff.1 hp).2.1
                omega)] at hd
              have := congrArg List.length hd
              simp at this
              omega
            subst hnl
            go_wp2_with fail
            go_roundw
            case rel => exact ⟨b + 1, by go_num, bt SB S1⟩
            case measure => simp [intOf]; omega
      · go_wp2_with fail
        go_ret
        exact ⟨rfl, bt HB7 S0⟩
end Go.Proofs.YtcaalecfideldaaDoor.configLess
