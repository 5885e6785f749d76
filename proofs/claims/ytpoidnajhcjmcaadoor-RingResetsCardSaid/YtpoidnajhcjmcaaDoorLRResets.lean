/- The walk of RingResets. -/
import Derived.Test.YtpoidnajhcjmcaaDoorRHd
import Derived.Deep.DeepCutAuto
import Derived.Deep.CutRange
import Derived.Deep.CutBlock
import Derived.Deep.DrawnRows
namespace Go.Proofs.YtpoidnajhcjmcaaDoor.ringResets
open Go.RowKit Go.Proofs.YtpoidnajhcjmcaaDoor.G Go.Proofs.YtpoidnajhcjmcaaDoor.Cell Go.Proofs.YtpoidnajhcjmcaaDoor.R8 Go.Proofs.YtpoidnajhcjmcaaDoor.Ob
attribute [local go_sem ↓] Go.wp_at_zero Go.wp_at_succ
set_option maxRecDepth 100000
def InvA (w : World) (b1 b2 D n : Nat) (i : Value) (V : World) : Prop := ∃ (k : Nat) (s : St) (F1 F2 : Nat → Prop), i = .int .i64 k ∧ k ≤ n ∧ R2 w V b1 b2 s (s0 D 2) k 0 F1 F2 ∧ s.D = D ∧ s.W = 2
def InvB (w : World) (b1 b2 n : Nat) (i : Value) (V : World) : Prop := ∃ (k : Nat) (s : St) (F1 F2 : Nat → Prop), i = .int .i64 k ∧ k ≤ n ∧ R2 w V b1 b2 s s (150 + k) k F1 F2
set_option maxHeartbeats 8000000 in
theorem walk {w : World} {p : Int} {A B : Option Addr} {l1 l2 : List Sp} {c1 c2 : Nat} (hp : p ≤ 9223372036854775807) (hr1 : Row w A (l1.flatMap pcell)) (hs1 : ∀ (k : Nat) (y : Sp), l1[k]? = some y → SpOk w y) (hl1 : l1.length ≤ c1) (hc1 : c1 ≤ 9223372036854775807)
    (hr2 : Row w B (l2.flatMap pcell)) (hs2 : ∀ (k : Nat) (y : Sp), l2[k]? = some y → SpOk w y) (hl2 : l2.length ≤ c2) (hc2 : c2 ≤ 9223372036854775807) :
    Calls Tryd.prog 9 #[.int .i64 p, .slice A l1.length c1, .slice B l2.length c2] w fun e w' => e = .returned (.bool true) ∧ Below w.heap.size w w' := by
  have HR1 := Lib.hid (And.intro hr1 hs1)
  have HR2 := Lib.hid (And.intro hr2 hs2)
  have HE1 : Hid (∀ V, Calls Tryd.prog 53 #[.slice A l1.length c1] V (EaPost A l1.length V)) := fun V => early8_any l1.length c1 hl1 hc1 V
  have HE2 : Hid (∀ V, Calls Tryd.prog 53 #[.slice B l2.length c2] V (EaPost B l2.length V)) := fun V => early8_any l2.length c2 hl2 hc2 V
  clear hr1 hs1 hr2 hs2
  go_enter Tryd.func9, Tryd.ntmps9
  go_wp2_with fail
  refine (lives_any _).mono ?_
  rintro e w1 ⟨rfl, hb1⟩
  go_wp2_with fail
  refine (rnew_any p 2 hp (by omega)).mono ?_
  rintro e w2 ⟨b1, rfl, hr2, hb2⟩
  go_wp2_with fail
  refine (rnew_any p 2 hp (by omega)).mono ?_
  rintro e w3 ⟨b2, rfl, hr3, hb3⟩
  rw [show fW 2 = 2 from rfl] at hr2 hr3
  obtain ⟨D, hD⟩ : ∃ D, fD p = D := ⟨_, rfl⟩
  rw [hD] at hr2 hr3
  have HD8 : Hid (1 ≤ D ∧ D ≤ 8) := by show 1 ≤ D ∧ D ≤ 8; rw [← hD]; exact fD_bd p
  have H0 : Hid (R2 w w3 b1 b2 (s0 D 2) (s0 D 2) 0 0 (fun q => w1.heap.size ≤ q ∧ q < w2.heap.size) (fun q => w2.heap.size ≤ q ∧ q < w3.heap.size)) :=
    ⟨⟨hr2.tight.below hb3, fun q hq => Nat.le_trans hb1.size hq.1, fun q hq => Nat.lt_of_lt_of_le hq.2 hb3.size, bt (bt hb1 hb2) hb3⟩, ⟨hr3.tight, fun q hq => Nat.le_trans (Nat.le_trans hb1.size hb2.size) hq.1, fun q hq => hq.2, bt (bt hb1 hb2) hb3⟩, fun q h1 h2 => by omega⟩
  unfold P
  clear hr2 hr3 hb1 hb2 hb3 hD
  go_wp2_with fail
  refine (HE1.out _).mono ?_
  rintro e w4 ⟨⟨d1, rfl⟩, rfl⟩
  go_wp2_with fail
  refine (HE2.out _).mono ?_
  rintro e w4 ⟨⟨d2, rfl⟩, rfl⟩
  have HM : Hid (min l1.length 150 ≤ l1.length ∧ min l1.length 150 ≤ 150 ∧ min l2.length 150 ≤ l2.length ∧ min l2.length 150 ≤ 150) := by show min l1.length 150 ≤ l1.length ∧ min l1.length 150 ≤ 150 ∧ min l2.length 150 ≤ l2.length ∧ min l2.length 150 ≤ 150; omega
  clear HE1 HE2 hl1 hl2 hc1 hc2
  go_wp2_with fail
  generalize min l1.length 150 = m1 at *
  generalize min l2.length 150 = m2 at *
  go_loopw [9] (fun i V => InvA w b1 b2 D m1 i V) (fun i _ => m1 - (intOf i).toNat)
  case atStart => exact ⟨0, _, _, _, rfl, by omega, H0.out, rfl, rfl⟩
  case round =>
    clear H0
    obtain ⟨k, s, F1, F2, rfl, hk, hR, hsD, hsW⟩ := hrel
    have HR := Lib.hid hR
    have HSD := Lib.hid (And.intro hsD hsW)
    clear hR hsD hsW
    by_cases hlt : k < m1
    · have hm := HM.out.2.1
      have hkl : k < l1.length := by have := HM.out.1; omega
      obtain ⟨u, hu⟩ : ∃ u, l1[k]? = some u := ⟨_, List.getElem?_eq_getElem hkl⟩
      obtain ⟨b', o', rfl, hbs, hc1, hc2, hc3⟩ := sps_at (HR1.out.1.below HR.out.a.bel) hu
      obtain ⟨⟨hu1, hu2⟩, hu3, hu4, hu5⟩ := HR1.out.2 k u hu
      have HU := Lib.hid hu5
      have HUK := Lib.hid hu
      clear hu hu5 hkl
      obtain ⟨kd, un, uA, ul, uc⟩ := u
      simp only at hc1 hc2 hc3 hu1 hu2 hu3 hu4 HU
      go_wp2_with fail
      refine (words8_any kd un uA ul.length uc hu3 hu4 _).mono ?_
      rintro e w5 ⟨rfl, hb5⟩
      have HR5 := Lib.hid (HR.out.below hb5)
      have HPu := Lib.hid (push8 (uc := uc) HR5.out.a.reg (HU.out.below HR5.out.a.bel))
      have HB5 := Lib.hid hb5
      unfold P at HPu
      clear hb5
      go_wp2_with fail
      refine HPu.out.mono ?_
      rintro e w6 ⟨rfl, hr6, hO6⟩
      obtain ⟨F6, hR6⟩ := HR5.out.call1 hr6 (more_gr _ _) hO6
      have HR6 := Lib.hid hR6
      have HPo := Lib.hid (pop_any hR6.a.reg)
      unfold P at HPo
      clear hr6 hO6 hR6 HPu
      go_wp2_with fail
      refine HPo.out.mono ?_
      rintro e w7 ⟨rfl, hr7, hO7⟩
      obtain ⟨F7, hR7⟩ := HR6.out.call1 hr7 (more_gr _ _) hO7
      have HR7 := Lib.hid hR7
      obtain ⟨g1, g2, g3⟩ : w7.cell? ⟨b', o' + k * 3, none⟩ = some (.int .i64 kd) ∧ w7.cell? ⟨b', o' + k * 3 + 1, none⟩ = some (.int .i64 un) ∧ w7.cell? ⟨b', o' + k * 3 + 2, none⟩ = some (.slice uA ul.length uc) := by
        obtain ⟨b'', o'', e, -, q1, q2, q3⟩ := sps_at (HR1.out.1.below hR7.a.bel) HUK.out
        injection e with e
        injection e with e1 e2
        subst e1 e2
        exact ⟨q1, q2, q3⟩
      clear hr7 hO7 hR7 HPo hc1 hc2 hc3
      go_wp2_with fail
      refine (kind8_any kd un uA ul.length uc _).mono ?_
      rintro e w8 ⟨rfl, hb8⟩
      have HR8 := Lib.hid (HR7.out.below hb8)
      have HSt := Lib.hid (xstep_any (decide (modU kd 9 < 5)) HR8.out.a.reg (by omega))
      unfold P at HSt
      clear hb8 g1 g2 g3
      go_wp2_with fail
      refine HSt.out.mono ?_
      rintro e w9 ⟨v9, rfl, -, hr9, hO9⟩
      obtain ⟨F9, hR9⟩ := HR8.out.call1 hr9 (more_gr _ _) hO9
      have HR9 := Lib.hid hR9
      clear hr9 hO9 hR9 HSt
      go_wp2_with fail
      go_roundw
      case rel =>
        have hdw := xDW s (ul.take 8) (decide (modU kd 9 < 5))
        exact ⟨k + 1, _, F9, F2, by go_num, by omega, by have := HR9.out; rw [show (k : Int) + 1 = ((k + 1 : Nat) : Int) by omega] at this; exact this, hdw.1.trans HSD.out.1, hdw.2.trans HSD.out.2⟩
      case measure => simp [intOf]; omega
    · have hm := HM.out.2.1
      have HRt := Lib.hid (reset_any HR.out.a.reg)
      rw [HSD.out.1, HSD.out.2] at HRt
      unfold P at HRt
      go_wp2_with fail
      refine HRt.out.mono ?_
      rintro e w5 ⟨rfl, hr5, hO5⟩
      obtain ⟨F5, hR5⟩ := HR.out.call1 hr5 (More.refl _ _) hO5
      have HR5 : Hid (R2 w w5 b1 b2 (s0 D 2) (s0 D 2) 150 0 F5 F2) := ⟨⟨hR5.a.reg.mono (fun _ h => h) (by omega), hR5.a.low, hR5.a.tight, hR5.a.bel⟩, hR5.b, hR5.dis⟩
      clear hr5 hO5 hR5 HRt HR HSD hlt hk
      go_wp2_with fail
      go_loopw [10] (fun i V => InvB w b1 b2 m2 i V) (fun i _ => m2 - (intOf i).toNat)
      case atStart => exact ⟨0, _, F5, F2, rfl, by omega, HR5.out⟩
      case round =>
        clear HR5
        obtain ⟨k2, s, F1, F2, rfl, hk, hR⟩ := hrel
        have HR := Lib.hid hR
        clear hR
        by_cases hlt : k2 < m2
        · have hm2 := HM.out.2.2.2
          have hkl : k2 < l2.length := by have := HM.out.2.2.1; omega
          obtain ⟨u, hu⟩ : ∃ u, l2[k2]? = some u := ⟨_, List.getElem?_eq_getElem hkl⟩
          obtain ⟨b', o', rfl, hbs, hc1, hc2, hc3⟩ := sps_at (HR2.out.1.below HR.out.a.bel) hu
          obtain ⟨⟨hu1, hu2⟩, hu3, hu4, hu5⟩ := HR2.out.2 k2 u hu
          have HU := Lib.hid hu5
          have HUK := Lib.hid hu
          clear hu hu5 hkl
          obtain ⟨kd, un, uA, ul, uc⟩ := u
          simp only at hc1 hc2 hc3 hu1 hu2 hu3 hu4 HU
          have HCl : Hid (∀ V, Below w.heap.size w V → V.cell? ⟨b', o' + k2 * 3, none⟩ = some (.int .i64 kd) ∧ V.cell? ⟨b', o' + k2 * 3 + 1, none⟩ = some (.int .i64 un) ∧ V.cell? ⟨b', o' + k2 * 3 + 2, none⟩ = some (.slice uA ul.length uc)) := fun V hV => by
            obtain ⟨b'', o'', e, -, q1, q2, q3⟩ := sps_at (HR2.out.1.below hV) HUK.out
            injection e with e
            injection e with e1 e2
            subst e1 e2
            exact ⟨q1, q2, q3⟩
          have HPU : Hid (∀ (V : World) (br : Nat) (s : St) (c : Int) (F : Nat → Prop), RegX V br s c F → Below w.heap.size w V → Calls Tryd.prog 57 #[.pointer (some ⟨br, 0, none⟩), .slice uA (min ul.length 8) uc] V (BGP br (uCode s (ul.take 8)) (uBegin s (ul.take 8)) c F V)) := fun V br s c F h hb => push8 h (HU.out.below hb)
          have HPO : Hid (∀ (V : World) (br : Nat) (s : St) (c : Int) (F : Nat → Prop), RegX V br s c F → Calls Tryd.prog 59 #[.pointer (some ⟨br, 0, none⟩)] V (BGP br (oCode s) (oBegin s) c F V)) := fun V br s c F h => pop_any h
          have HSS : Hid (∀ (V : World) (br : Nat) (s : St) (c : Int) (F : Nat → Prop), RegX V br s c F → c ≤ 1099511627776 → Calls Tryd.prog 61 #[.pointer (some ⟨br, 0, none⟩), .bool (decide (modU kd 9 < 5))] V (XSP br (decide (modU kd 9 < 5)) s c F V)) := fun V br s c F h hc => xstep_any _ h hc
          have HR0 := Lib.hid (HR.out.below ((Below.refl _ _).drew))
          clear HR hc1 hc2 hc3
          go_upto_region 15 with fail
          go_cut [79] (fun v V => v = .bool false ∧ ∃ (G1 G2 : Nat → Prop), R2 w V b1 b2 (oBegin (uBegin s (ul.take 8))) (oBegin (uBegin s (ul.take 8))) (150 + k2) k2 G1 G2)
          case first =>
            have HR := HR0
            go_region_held3 (fun V => V.cell? ⟨b', o' + k2 * 3, none⟩ = some (.int .i64 kd) ∧ V.cell? ⟨b', o' + k2 * 3 + 1, none⟩ = some (.int .i64 un) ∧ V.cell? ⟨b', o' + k2 * 3 + 2, none⟩ = some (.slice uA ul.length uc)) (first | (with_reducible exact HCl.out _ HR.out.a.bel) | fail)
              (first
                | (go_at_call 56; (with_reducible refine (words8_any kd un uA ul.length uc hu3 hu4 _).mono ?_); rintro e w5 ⟨rfl, hb5⟩; have HR := Lib.hid (HR.out.below hb5))
                | (go_at_call 57; first
                    | ((with_reducible refine (HPU.out _ _ _ _ _ HR.out.a.reg HR.out.a.bel).mono ?_); rintro e w6 ⟨rfl, hr6, hO6⟩; obtain ⟨F6, hR6⟩ := HR.out.call1 hr6 (more_gr _ _) hO6; have HR := Lib.hid hR6; clear hr6 hO6 hR6)
                    | ((with_reducible refine (HPU.out _ _ _ _ _ HR.out.b.reg HR.out.b.bel).mono ?_); rintro e w6 ⟨rfl, hr6, hO6⟩; obtain ⟨F6, hR6⟩ := HR.out.call2 hr6 (more_gr _ _) hO6; have HR := Lib.hid hR6; clear hr6 hO6 hR6)
                    | fail)
                | (go_at_call 59; first
                    | ((with_reducible refine (HPO.out _ _ _ _ _ HR.out.a.reg).mono ?_); rintro e w6 ⟨rfl, hr6, hO6⟩; obtain ⟨F6, hR6⟩ := HR.out.call1 hr6 (more_gr _ _) hO6; have HR := Lib.hid hR6; clear hr6 hO6 hR6)
                    | ((with_reducible refine (HPO.out _ _ _ _ _ HR.out.b.reg).mono ?_); rintro e w6 ⟨rfl, hr6, hO6⟩; obtain ⟨F6, hR6⟩ := HR.out.call2 hr6 (more_gr _ _) hO6; have HR := Lib.hid hR6; clear hr6 hO6 hR6)
                    | fail)
                | fail)
            all_goals
              go_wp2_with fail
              go_meet
              exact ⟨rfl, _, _, HR.out⟩
          case rest =>
            obtain ⟨rfl, G1, G2, hR⟩ := hcut
            have HR := Lib.hid hR
            obtain ⟨g1, g2, g3⟩ := HCl.out _ hR.a.bel
            clear hR HR0
            generalize oBegin (uBegin s (ul.take 8)) = s9 at *
            go_wp2_with fail
            refine (kind8_any kd un uA ul.length uc _).mono ?_
            rintro e w5 ⟨rfl, hb5⟩
            have HR5 := Lib.hid (HR.out.below hb5)
            have HS5 := Lib.hid (HSS.out _ _ _ _ _ HR5.out.a.reg (by omega))
            clear hb5 g1 g2 g3 HR
            go_wp2_with fail
            refine HS5.out.mono ?_
            rintro e w6 ⟨v6, rfl, hv6, hr6, hO6⟩
            have HL6 := Lib.hid hv6.lf
            have HDs := Lib.hid HR5.out.dis
            obtain ⟨F6, hR6⟩ := HR5.out.call1 hr6 (more_gr _ _) hO6
            have HR6 := Lib.hid hR6
            obtain ⟨g1, g2, g3⟩ := HCl.out _ hR6.a.bel
            clear hv6 hr6 hO6 hR6 HS5 HR5
            go_wp2_with fail
            refine (kind8_any kd un uA ul.length uc _).mono ?_
            rintro e w7 ⟨rfl, hb7⟩
            have HR7 := Lib.hid (HR6.out.below hb7)
            have HL7 := Lib.hid (HL6.out.bel hb7)
            have HS7 := Lib.hid (HSS.out _ _ _ _ _ HR7.out.b.reg (by omega))
            clear hb7 g1 g2 g3 HR6 HL6
            go_wp2_with fail
            refine HS7.out.mono ?_
            rintro e w8 ⟨v8, rfl, hv8, hr8, hO8⟩
            obtain ⟨A6, c6, rfl, hc6, hc6', hrow6⟩ := (HL7.out.only hO8 HDs.out).row
            obtain ⟨A8, c8, rfl, hc8, hc8', hrow8⟩ := hv8.lf.row
            obtain ⟨F8, hR8⟩ := HR7.out.call2 hr8 (more_gr _ _) hO8
            have HR8 := Lib.hid hR8
            have HSm := Lib.hid (C04.rsame1_any (l := xTold s9 (decide (modU kd 9 < 5))) (r := xTold s9 (decide (modU kd 9 < 5))) (c := c6) (d := c8) hrow6 hrow8 (Nat.le_trans hc6 hc6') (Nat.le_trans hc6 hc6'))
            rw [show C04.eqb (xTold s9 (decide (modU kd 9 < 5))) (xTold s9 (decide (modU kd 9 < 5))) = true by unfold C04.eqb; exact decide_eq_true rfl] at HSm
            clear hv8 hr8 hO8 hR8 HS7 HR7 HL7 hrow6 hrow8 hc6 hc6' hc8 hc8'
            generalize xStep s9 (decide (modU kd 9 < 5)) = s10 at *
            go_wp2_with fail
            refine HSm.out.mono ?_
            rintro e w9 ⟨rfl, m9, rfl⟩
            have HR9 := Lib.hid (HR8.out.below (bn (Below.refl _ _) m9))
            have HC9 := Lib.hid (rcells_any HR9.out.a.reg)
            unfold P at HC9
            clear HSm HR8
            go_wp2_with fail
            refine HC9.out.mono ?_
            rintro e wa ⟨va, rfl, hva, hba⟩
            have HRa := Lib.hid (HR9.out.below hba)
            have HCa := Lib.hid (rcells_any HRa.out.b.reg)
            have HVa := Lib.hid hva
            unfold P at HCa
            clear hva hba HC9 HR9
            go_wp2_with fail
            refine HCa.out.mono ?_
            rintro e wb ⟨vb, rfl, hvb, hbb⟩
            have HRb := Lib.hid (HRa.out.below hbb)
            obtain ⟨Aa, ca, rfl, hrowa, hca, hca', -⟩ := Own.row (Own.below HVa.out hbb)
            obtain ⟨Ab, cb, rfl, hrowb, hcb, hcb', -⟩ := Own.row hvb
            unfold maxLen at hca' hcb'
            have HSn := Lib.hid (C04.rsame1_any (l := s10.m) (r := s10.m) (c := ca) (d := cb) hrowa hrowb (Nat.le_trans hca hca') (Nat.le_trans hca hca'))
            rw [show C04.eqb s10.m s10.m = true by unfold C04.eqb; exact decide_eq_true rfl] at HSn
            clear hvb hbb hrowa hrowb hca hca' hcb hcb' HCa HVa HRa
            go_wp2_with fail
            refine HSn.out.mono ?_
            rintro e wd ⟨rfl, md, rfl⟩
            have HRd := Lib.hid (HRb.out.below (bn (Below.refl _ _) md))
            clear HSn HRb
            go_wp2_with fail
            go_roundw
            case rel => exact ⟨k2 + 1, s10, _, _, by go_num, by omega, by have := HRd.out; rw [show (150 : Int) + k2 + 1 = 150 + ((k2 + 1 : Nat) : Int) by omega, show (k2 : Int) + 1 = ((k2 + 1 : Nat) : Int) by omega] at this; exact this⟩
            case measure => simp [intOf]; omega
        · go_wp2_with fail
          go_ret
          exact ⟨rfl, HR.out.a.bel⟩
end Go.Proofs.YtpoidnajhcjmcaaDoor.ringResets
