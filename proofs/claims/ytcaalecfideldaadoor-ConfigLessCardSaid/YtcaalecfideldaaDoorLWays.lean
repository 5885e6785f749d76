/- The walk of ConfigWays. -/
import Derived.Test.YtcaalecfideldaaDoorRPath
import Derived.Test.YtcaalecfideldaaDoorFew
import Derived.Test.YtcaalecfideldaaDoorGood
import Derived.Test.YtcaalecfideldaaDoorLive
import Derived.Test.YtcaalecfideldaaDoorLSam
namespace Go.Proofs.YtcaalecfideldaaDoor.configWays
open Go.RowKit Go.Proofs.YtcaalecfideldaaDoor.G Go.Proofs.YtcaalecfideldaaDoor.C04
open Go.Proofs.YtcaalecfideldaaDoor.configSame (few_at blk5 below5)
attribute [local go_sem ↓] Go.wp_at_zero Go.wp_at_succ

def WI (W5 : World) (i : Value) (W : World) : Prop := ∃ k : Nat, i = .int .i64 k ∧ Below W5.heap.size W5 W
theorem path_self {g : Cfg} (hf : flt g = none) {a : Int} (ha : isp g.P a = true) : pathV g a a = true := pathV_iff.2 ⟨hf, ha, ha, reach_self _ _⟩
theorem path_hi {g : Cfg} (a : Int) : pathV g a g.P = false := by
  rw [Bool.eq_false_iff]; intro h
  have : 0 ≤ g.P ∧ g.P < g.P := of_decide_eq_true (pathV_iff.1 h).2.2.1
  omega
theorem path_lo {g : Cfg} (a : Int) : pathV g (-1) a = false := by
  rw [Bool.eq_false_iff]; intro h
  have : 0 ≤ (-1 : Int) ∧ (-1 : Int) < g.P := of_decide_eq_true (pathV_iff.1 h).2.1
  omega
theorem path_trans {g : Cfg} {a b d : Int} (h : pathV g a b = true) (k : pathV g b d = true) : pathV g a d = true := by
  obtain ⟨h1, h2, _, h4⟩ := pathV_iff.1 h
  obtain ⟨_, _, k3, k4⟩ := pathV_iff.1 k
  exact pathV_iff.2 ⟨h1, h2, k3, reach_trans h4 k4⟩
theorem path_one {g : Cfg} (hf : flt g = none) {x : Chn} (hx : x ∈ g.cs) : pathV g x.f x.t = true := by
  obtain ⟨_, _, _, _, _, hcb, _⟩ := flt_none hf
  obtain ⟨h1, h2, _⟩ := rgt_ends (cbad_none _ _ hcb x hx)
  exact pathV_iff.2 ⟨hf, decide_eq_true h1, decide_eq_true h2, reach_one hx⟩
set_option maxHeartbeats 4000000 in
set_option maxRecDepth 100000 in
theorem walk {w : World} {u : Value} {c : Cfg} (hg : Et w) (h : CfgAt w u c) :
    Calls Tryd.prog 5 #[u] w fun e w' => e = .returned (.bool true) ∧ Below w.heap.size w w' := by
  obtain ⟨A1, A2, A3, c1, c2, c3, rfl⟩ := few_at h
  have X0 := Blk.new w 26 #[.int .i64 c.P, .int .i64 c.F, .slice A1 c.ws.length c1, .slice A2 c.cs.length c2, .slice A3 c.ac.length c3]
  have HB := b01 w (.cells #[.int .i64 c.P, .int .i64 c.F, .slice A1 c.ws.length c1, .slice A2 c.cs.length c2, .slice A3 c.ac.length c3] 26)
  have HG := Lib.hid (hg.below HB)
  have HC := Lib.hid h
  clear hg h
  go_enter Tryd.func5, Tryd.ntmps5
  go_wp2_with fail
  refine (lives_any HG.out).mono ?_
  rintro e w1 ⟨rfl, hb1⟩
  have HB1 := bt HB hb1
  have k0 := (X0.bel hb1).cell
  clear HB X0
  go_wp2_with fail
  refine (few_any HC.out).mono ?_
  rintro e w2 ⟨v2, rfl, hc2, hb2⟩
  have HB2 := bt HB1 hb2
  go_wp2_with fail
  refine (good_any (hc2.below HB2)).mono ?_
  rintro e w4 ⟨v4, g, rfl, ho4, hgood, hb4⟩
  have hfl := hgood.1
  have hg4 := ho4.at_
  obtain ⟨Q1, Q2, Q3, q1, q2, q3, rfl⟩ := few_at hg4
  have Y1 := Blk.new w4 26 #[.int .i64 g.P, .int .i64 g.F, .slice Q1 g.ws.length q1, .slice Q2 g.cs.length q2, .slice Q3 g.ac.length q3]
  have HB5 := ba1 (bt HB2 hb4) (.cells #[.int .i64 g.P, .int .i64 g.F, .slice Q1 g.ws.length q1, .slice Q2 g.cs.length q2, .slice Q3 g.ac.length q3] 26)
  have HCG5 := Lib.hid (hg4.alloc (.cells #[.int .i64 g.P, .int .i64 g.F, .slice Q1 g.ws.length q1, .slice Q2 g.cs.length q2, .slice Q3 g.ac.length q3] 26))
  have hrow2 : Row w4 Q2 (cvs g.cs) := by
    obtain ⟨_, _, _, _, _, _, e, _, r2, _⟩ := hg4
    injection e with e
    injection e with e
    simp only [List.cons.injEq, Value.slice.injEq] at e
    rw [e.2.2.2.1.1]; exact r2
  have HR2 := Lib.hid (hrow2.alloc (.cells #[.int .i64 g.P, .int .i64 g.F, .slice Q1 g.ws.length q1, .slice Q2 g.cs.length q2, .slice Q3 g.ac.length q3] 26))
  clear k0 HB1 HB2 hb1 hb2 hb4 ho4 hg4 hc2 hrow2 HC HG
  obtain ⟨g5, hg5⟩ : ∃ g, w4.heap.size = g := ⟨_, rfl⟩
  rw [hg5] at Y1
  go_upto_region 4 with fail
  generalize w4.alloc (.cells #[.int .i64 g.P, .int .i64 g.F, .slice Q1 g.ws.length q1, .slice Q2 g.cs.length q2, .slice Q3 g.ac.length q3] 26) = W5 at *
  clear hg5
  obtain ⟨⟨n1, n2⟩, _, _, _, hc6, hcb, _⟩ := flt_none hfl
  have HFL := Lib.hid hfl
  have HCH : Hid (∀ x ∈ g.cs, pathV g x.f x.t = true) := fun x hx => path_one hfl hx
  clear hgood hfl hcb
  have S0 : Below W5.heap.size W5 W5 := Below.refl _ _
  go_wp2_with fail
  go_loopw [4] (fun i W => WI W5 i W) (fun i _ => g.cs.length - (intOf i).toNat)
  case atStart => exact ⟨0, rfl, S0⟩
  case round =>
    clear S0
    obtain ⟨k, rfl, S0⟩ := hrel
    have k1 := (Y1.bel S0).cell
    by_cases hlt : k < g.cs.length
    · obtain ⟨x, hx, hd⟩ := drop_cons hlt
      have HP := Lib.hid (HCH.out x (List.mem_of_getElem? hx))
      obtain ⟨b0, o, rfl, hbl, g0, g1, g2, g3, g4, g5', g6, g7, g8, g9, g10⟩ := row_chn (HR2.out.below S0) hx
      have S1 : Below W5.heap.size W5 wr.drew := S0.drew
      have k2 : ∀ i, wr.drew.cell? ⟨g5, i, none⟩ = (#[.int .i64 g.P, .int .i64 g.F, .slice Q1 g.ws.length q1, .slice (some ⟨b0, o, none⟩) g.cs.length q2, .slice Q3 g.ac.length q3] : Array Value)[i]? := k1
      have j1 : wr.drew.cell? ⟨b0, o + k * 11 + 1, none⟩ = some (.int .i64 x.f) := g1
      have j2 : wr.drew.cell? ⟨b0, o + k * 11 + 2, none⟩ = some (.int .i64 x.t) := g2
      clear hx hd g0 g1 g2 g3 g4 g5' g6 g7 g8 g9 g10
      go_upto_region 7 with fail
      go_still_tail 13, (by kernel_rfl)
      go_wp2_with (go_at_call 17; (with_reducible refine (path_any x.f x.t (HCG5.out.below S1)).mono ?_); rintro e w6 ⟨rfl, hb6⟩; rw [HP.out]; have S2 := bt S1 hb6)
      go_roundw
      case rel => exact ⟨k + 1, by go_num, S2⟩
      case measure => simp [intOf]; omega
    · have hend : ¬ (k : Int) < (g.cs.length : Int) := by omega
      go_wp2_with fail
      go_loopw [5] (fun i W => WI W5 i W) (fun i _ => (g.P - intOf i).toNat)
      case atStart => exact ⟨0, rfl, S0⟩
      case round =>
        clear S0 k1 hlt hend
        obtain ⟨a, rfl, S0⟩ := hrel
        have k1 := (Y1.bel S0).cell
        by_cases hlt : (a : Int) < g.P
        · have h1 := Lib.hid (path_self HFL.out (g := g) (a := (a : Int)) (decide_eq_true (by omega)))
          have h2 := Lib.hid (path_hi (g := g) (a : Int))
          have h3 := Lib.hid (path_lo (g := g) (a : Int))
          go_wp2_with (first
            | (go_at_call 17; (with_reducible refine (path_any (a : Int) (a : Int) (HCG5.out.below S0)).mono ?_); rintro e w6 ⟨rfl, hb6⟩; rw [h1.out]; replace S0 := bt S0 hb6; replace k1 := (Y1.bel S0).cell; clear hb6)
            | (go_at_call 17; (with_reducible refine (path_any (a : Int) g.P (HCG5.out.below S0)).mono ?_); rintro e w6 ⟨rfl, hb6⟩; rw [h2.out]; replace S0 := bt S0 hb6; replace k1 := (Y1.bel S0).cell; clear hb6)
            | (go_at_call 17; (with_reducible refine (path_any (-1) (a : Int) (HCG5.out.below S0)).mono ?_); rintro e w6 ⟨rfl, hb6⟩; rw [h3.out]; replace S0 := bt S0 hb6; replace k1 := (Y1.bel S0).cell; clear hb6))
          go_loopw [6] (fun i W => WI W5 i W) (fun i _ => (g.P - intOf i).toNat)
          case atStart => exact ⟨0, rfl, S0⟩
          case round =>
            clear S0 k1
            obtain ⟨b, rfl, S0⟩ := hrel
            have k1 := (Y1.bel S0).cell
            by_cases hlt2 : (b : Int) < g.P
            · go_wp2_with fail
              go_loopw [7] (fun i W => WI W5 i W) (fun i _ => (g.P - intOf i).toNat)
              case atStart => exact ⟨0, rfl, S0⟩
              case round =>
                clear S0 k1
                obtain ⟨d, rfl, S0⟩ := hrel
                have k1 := (Y1.bel S0).cell
                by_cases hlt3 : (d : Int) < g.P
                · obtain ⟨p1, e1⟩ : ∃ p, pathV g (a : Int) (b : Int) = p := ⟨_, rfl⟩
                  obtain ⟨p2, e2⟩ : ∃ p, pathV g (b : Int) (d : Int) = p := ⟨_, rfl⟩
                  obtain ⟨p3, e3⟩ : ∃ p, pathV g (a : Int) (d : Int) = p := ⟨_, rfl⟩
                  have hp : p1 = true → p2 = true → p3 = true := by
                    intro g1 g2; rw [← e3]; exact path_trans (e1.trans g1) (e2.trans g2)
                  have E1 := Lib.hid e1
                  have E2 := Lib.hid e2
                  have E3 := Lib.hid e3
                  clear e1 e2 e3
                  go_upto_region 20 with fail
                  cases p1 with
                  | false =>
                    clear hp
                    go_wp2_with (go_at_call 17; (with_reducible refine (path_any (a : Int) (b : Int) (HCG5.out.below S0)).mono ?_); rintro e w6 ⟨rfl, hb6⟩; rw [E1.out]; replace S0 := bt S0 hb6; replace k1 := (Y1.bel S0).cell; clear hb6)
                    go_roundw
                    case rel => exact ⟨d + 1, by go_num, S0⟩
                    case measure => simp [intOf]; omega
                  | true =>
                    cases p2 with
                    | false =>
                      clear hp
                      go_wp2_with (first
                        | (go_at_call 17; (with_reducible refine (path_any (a : Int) (b : Int) (HCG5.out.below S0)).mono ?_); rintro e w6 ⟨rfl, hb6⟩; rw [E1.out]; replace S0 := bt S0 hb6; replace k1 := (Y1.bel S0).cell; clear hb6 E1)
                        | (go_at_call 17; (with_reducible refine (path_any (b : Int) (d : Int) (HCG5.out.below S0)).mono ?_); rintro e w6 ⟨rfl, hb6⟩; rw [E2.out]; replace S0 := bt S0 hb6; replace k1 := (Y1.bel S0).cell; clear hb6))
                      go_roundw
                      case rel => exact ⟨d + 1, by go_num, S0⟩
                      case measure => simp [intOf]; omega
                    | true =>
                      obtain rfl : p3 = true := hp rfl rfl
                      clear hp
                      go_wp2_with (first
                        | (go_at_call 17; (with_reducible refine (path_any (a : Int) (b : Int) (HCG5.out.below S0)).mono ?_); rintro e w6 ⟨rfl, hb6⟩; rw [E1.out]; replace S0 := bt S0 hb6; replace k1 := (Y1.bel S0).cell; clear hb6 E1)
                        | (go_at_call 17; (with_reducible refine (path_any (b : Int) (d : Int) (HCG5.out.below S0)).mono ?_); rintro e w6 ⟨rfl, hb6⟩; rw [E2.out]; replace S0 := bt S0 hb6; replace k1 := (Y1.bel S0).cell; clear hb6 E2)
                        | (go_at_call 17; (with_reducible refine (path_any (a : Int) (d : Int) (HCG5.out.below S0)).mono ?_); rintro e w6 ⟨rfl, hb6⟩; rw [E3.out]; replace S0 := bt S0 hb6; replace k1 := (Y1.bel S0).cell; clear hb6 E3))
                      go_roundw
                      case rel => exact ⟨d + 1, by go_num, S0⟩
                      case measure => simp [intOf]; omega
                · go_wp2_with fail
                  go_roundw
                  case rel => exact ⟨b + 1, by go_num, S0⟩
                  case measure => simp [intOf]; omega
            · go_wp2_with fail
              go_roundw
              case rel => exact ⟨a + 1, by go_num, S0⟩
              case measure => simp [intOf]; omega
        · go_wp2_with fail
          go_ret
          exact ⟨rfl, bt HB5 S0⟩
end Go.Proofs.YtcaalecfideldaaDoor.configWays
