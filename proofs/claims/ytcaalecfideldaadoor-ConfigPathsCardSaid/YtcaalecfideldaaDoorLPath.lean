/- The walk of ConfigPaths. -/
import Derived.Test.YtcaalecfideldaaDoorRInto
import Derived.Test.YtcaalecfideldaaDoorRSam
import Derived.Test.YtcaalecfideldaaDoorFew
import Derived.Test.YtcaalecfideldaaDoorGood
import Derived.Test.YtcaalecfideldaaDoorLive
import Derived.Test.YtcaalecfideldaaDoorLSam
namespace Go.Proofs.YtcaalecfideldaaDoor.configPaths
open Go.RowKit Go.Proofs.YtcaalecfideldaaDoor.G Go.Proofs.YtcaalecfideldaaDoor.C04
open Go.Proofs.YtcaalecfideldaaDoor.configSame (few_at blk5 below5)
attribute [local go_sem ↓] Go.wp_at_zero Go.wp_at_succ

theorem into_len (c : Cfg) (b : Int) : (intoV c b).length ≤ 9223372036854775807 := Nat.le_trans (sel_len 4 0) (by omega)
theorem eqb_self (l : List Int) : eqb l l = true := by simp [eqb]
set_option maxHeartbeats 4000000 in
set_option maxRecDepth 100000 in
theorem walk {w : World} {u : Value} {c : Cfg} (a b : Int) (hg : Et w) (h : CfgAt w u c) :
    Calls Tryd.prog 3 #[u, .int .i64 a, .int .i64 b] w fun e w' => e = .returned (.bool true) ∧ Below w.heap.size w w' := by
  obtain ⟨A1, A2, A3, c1, c2, c3, rfl⟩ := few_at h
  have X0 := Blk.new w 26 #[.int .i64 c.P, .int .i64 c.F, .slice A1 c.ws.length c1, .slice A2 c.cs.length c2, .slice A3 c.ac.length c3]
  have HB := b01 w (.cells #[.int .i64 c.P, .int .i64 c.F, .slice A1 c.ws.length c1, .slice A2 c.cs.length c2, .slice A3 c.ac.length c3] 26)
  have HG := Lib.hid (hg.below HB)
  have HC := Lib.hid h
  clear hg h
  go_enter Tryd.func3, Tryd.ntmps3
  go_wp2_with fail
  refine (lives_any HG.out).mono ?_
  rintro e w1 ⟨rfl, hb1⟩
  have HB1 := bt HB hb1
  have X1 := X0.bel hb1
  have k0 := X1.cell
  clear HB X0
  go_wp2_with fail
  refine (few_any HC.out).mono ?_
  rintro e w2 ⟨v2, rfl, hc2, hb2⟩
  obtain ⟨P1, P2, P3, p1, p2, p3, rfl⟩ := few_at hc2
  have HC2 := Lib.hid hc2
  have HB2 := bt HB1 hb2
  have X2 := X1.bel hb2
  clear k0 X1 HB1 hb1 hb2 hc2
  have k0 := X2.cell
  have f0 := X2.frozen
  have z0 := X2.lt
  go_upto_region 4 with fail
  have X3 := blk5 X2 (.int .i64 (fw c).P) (.int .i64 (fw c).F) (.slice P1 (fw c).ws.length p1) (.slice P2 (fw c).cs.length p2) (.slice P3 (fw c).ac.length p3)
  have HB3 := below5 HB2 (Nat.le_refl _) (.int .i64 (fw c).P) (.int .i64 (fw c).F) (.slice P1 (fw c).ws.length p1) (.slice P2 (fw c).cs.length p2) (.slice P3 (fw c).ac.length p3)
  clear k0 f0 z0 X2 HB2
  generalize (((((w2.setCell ⟨w.heap.size, 0, none⟩ (.int .i64 (fw c).P)).setCell ⟨w.heap.size, 1, none⟩ (.int .i64 (fw c).F)).setCell ⟨w.heap.size, 2, none⟩ (.slice P1 (fw c).ws.length p1)).setCell ⟨w.heap.size, 3, none⟩ (.slice P2 (fw c).cs.length p2)).setCell ⟨w.heap.size, 4, none⟩ (.slice P3 (fw c).ac.length p3)) = W3 at *
  have k3 := X3.cell
  have HC3 := Lib.hid (HC2.out.below HB3)
  go_wp2_with fail
  refine (good_any HC3.out).mono ?_
  rintro e w4 ⟨v4, g, rfl, ho4, _, hb4⟩
  have hg4 := ho4.at_
  obtain ⟨Q1, Q2, Q3, q1, q2, q3, rfl⟩ := few_at hg4
  have Y0 := (X3.bel hb4).alloc (.cells #[.int .i64 g.P, .int .i64 g.F, .slice Q1 g.ws.length q1, .slice Q2 g.cs.length q2, .slice Q3 g.ac.length q3] 26)
  have Y1 := Blk.new w4 26 #[.int .i64 g.P, .int .i64 g.F, .slice Q1 g.ws.length q1, .slice Q2 g.cs.length q2, .slice Q3 g.ac.length q3]
  have HB5 := ba1 (bt HB3 hb4) (.cells #[.int .i64 g.P, .int .i64 g.F, .slice Q1 g.ws.length q1, .slice Q2 g.cs.length q2, .slice Q3 g.ac.length q3] 26)
  have HCA5 := Lib.hid (HC2.out.below HB5)
  have HCG5 := Lib.hid (hg4.alloc (.cells #[.int .i64 g.P, .int .i64 g.F, .slice Q1 g.ws.length q1, .slice Q2 g.cs.length q2, .slice Q3 g.ac.length q3] 26))
  clear k3 X3 HB3 hb4 ho4 hg4 HC3
  obtain ⟨g5, hg5⟩ : ∃ g, w4.heap.size = g := ⟨_, rfl⟩
  rw [hg5] at Y1
  go_upto_region 5 with fail
  generalize w4.alloc (.cells #[.int .i64 g.P, .int .i64 g.F, .slice Q1 g.ws.length q1, .slice Q2 g.cs.length q2, .slice Q3 g.ac.length q3] 26) = W5 at *
  clear hg5
  have S0 : Below W5.heap.size W5 W5.drew := (Below.refl _ _).drew
  have K0 : ∀ i, W5.drew.cell? ⟨w.heap.size, i, none⟩ = (#[.int .i64 (fw c).P, .int .i64 (fw c).F, .slice P1 (fw c).ws.length p1, .slice P2 (fw c).cs.length p2, .slice P3 (fw c).ac.length p3] : Array Value)[i]? := Y0.cell
  have K1 : ∀ i, W5.drew.cell? ⟨g5, i, none⟩ = (#[.int .i64 g.P, .int .i64 g.F, .slice Q1 g.ws.length q1, .slice Q2 g.cs.length q2, .slice Q3 g.ac.length q3] : Array Value)[i]? := Y1.cell
  have z0 := Y0.lt
  have z1 := Y1.lt
  go_region_held3 (fun W => Below W5.heap.size W5 W ∧ (∀ i, W.cell? ⟨w.heap.size, i, none⟩ = (#[.int .i64 (fw c).P, .int .i64 (fw c).F, .slice P1 (fw c).ws.length p1, .slice P2 (fw c).cs.length p2, .slice P3 (fw c).ac.length p3] : Array Value)[i]?) ∧ (∀ i, W.cell? ⟨g5, i, none⟩ = (#[.int .i64 g.P, .int .i64 g.F, .slice Q1 g.ws.length q1, .slice Q2 g.cs.length q2, .slice Q3 g.ac.length q3] : Array Value)[i]?)) (first | exact ⟨S0, K0, K1⟩ | assumption)
    (first
     | (rw [if_pos (by rfl)]; go_simp; go_at_call 17; (with_reducible refine (path_any a b (HCA5.out.below S0)).mono ?_); rintro e w6 ⟨rfl, hb6⟩; replace S0 := bt S0 hb6; replace K0 := (Y0.bel S0).cell; replace K1 := (Y1.bel S0).cell; clear hb6; dsimp only)
     | (rw [if_pos (by rfl)]; go_simp; go_at_call 17; (with_reducible refine (path_any a b (HCG5.out.below S0)).mono ?_); rintro e w6 ⟨rfl, hb6⟩; replace S0 := bt S0 hb6; replace K0 := (Y0.bel S0).cell; replace K1 := (Y1.bel S0).cell; clear hb6; dsimp only)
     | (rw [if_pos (by rfl)]; go_simp; go_at_call 18; (with_reducible refine (rpath_any a b (HCA5.out.below S0)).mono ?_); rintro e w6 ⟨rfl, hb6⟩; replace S0 := bt S0 hb6; replace K0 := (Y0.bel S0).cell; replace K1 := (Y1.bel S0).cell; clear hb6; dsimp only)
     | (rw [if_pos (by rfl)]; go_simp; go_at_call 18; (with_reducible refine (rpath_any a b (HCG5.out.below S0)).mono ?_); rintro e w6 ⟨rfl, hb6⟩; replace S0 := bt S0 hb6; replace K0 := (Y0.bel S0).cell; replace K1 := (Y1.bel S0).cell; clear hb6; dsimp only)
     | (rw [if_pos (by rfl)]; go_simp; go_at_call 20; (with_reducible refine (into_any b (HCG5.out.below S0)).mono ?_); rintro e w6 ⟨v6, rfl, hO, hb6⟩; obtain ⟨A6, c6, rfl, hR, hle, hm, _⟩ := hO.row; have HR1 := Lib.hid hR; clear hO hR hle hm; replace S0 := bt S0 hb6; replace K0 := (Y0.bel S0).cell; replace K1 := (Y1.bel S0).cell; clear hb6; dsimp only)
     | (rw [if_pos (by rfl)]; go_simp; go_at_call 20; (with_reducible refine (into_any b (HCA5.out.below S0)).mono ?_); rintro e w6 ⟨v6, rfl, hO, hb6⟩; obtain ⟨A6, c6, rfl, hR, hle, hm, _⟩ := hO.row; have HR1 := Lib.hid hR; clear hO hR hle hm; replace S0 := bt S0 hb6; replace K0 := (Y0.bel S0).cell; replace K1 := (Y1.bel S0).cell; clear hb6; dsimp only)
     | (rw [if_pos (by rfl)]; go_simp; go_at_call 21; (with_reducible refine (rinto_any b (HCG5.out.below S0)).mono ?_); rintro e w6 ⟨v6, rfl, hO, hb6⟩; obtain ⟨A7, c7, rfl, hR, hle, hm, _⟩ := hO.row; replace HR1 := Lib.hid (HR1.out.below hb6); have HR2 := Lib.hid hR; clear hO hR hle hm; replace S0 := bt S0 hb6; replace K0 := (Y0.bel S0).cell; replace K1 := (Y1.bel S0).cell; clear hb6; dsimp only)
     | (rw [if_pos (by rfl)]; go_simp; go_at_call 21; (with_reducible refine (rinto_any b (HCA5.out.below S0)).mono ?_); rintro e w6 ⟨v6, rfl, hO, hb6⟩; obtain ⟨A7, c7, rfl, hR, hle, hm, _⟩ := hO.row; replace HR1 := Lib.hid (HR1.out.below hb6); have HR2 := Lib.hid hR; clear hO hR hle hm; replace S0 := bt S0 hb6; replace K0 := (Y0.bel S0).cell; replace K1 := (Y1.bel S0).cell; clear hb6; dsimp only)
     | (rw [if_pos (by rfl)]; go_simp; go_at_call 19; (with_reducible refine (rsame1_any HR1.out HR2.out (into_len _ _) (into_len _ _)).mono ?_); rintro e w6 ⟨rfl, m6, rfl⟩; rw [eqb_self]; replace S0 := bn S0 m6; replace K0 := (Y0.bel S0).cell; replace K1 := (Y1.bel S0).cell; clear HR1 HR2; dsimp only))
  go_wp2_with fail
  go_ret
  exact ⟨rfl, bt HB5 S0⟩
end Go.Proofs.YtcaalecfideldaaDoor.configPaths
