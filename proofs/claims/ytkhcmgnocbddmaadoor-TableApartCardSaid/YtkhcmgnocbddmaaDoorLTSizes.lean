/- The walk of TableSizes. -/
import Derived.Test.YtkhcmgnocbddmaaDoorTLive
import Derived.Test.YtkhcmgnocbddmaaDoorFew5
import Derived.Test.YtkhcmgnocbddmaaDoorGood
namespace Go.Proofs.YtkhcmgnocbddmaaDoor.tableSizes
open Go.RowKit Go.Proofs.YtkhcmgnocbddmaaDoor.G Go.Proofs.YtkhcmgnocbddmaaDoor.C04 Go.Proofs.YtkhcmgnocbddmaaDoor.T
open Go.Proofs.YtkhcmgnocbddmaaDoor.configSame (few_at)
attribute [local go_sem ↓] Go.wp_at_zero Go.wp_at_succ

theorem enc_len {c : Cfg} (h : flt c = none) : (encL c).length = 9 + 3 * c.ws.length + 17 * c.cs.length + c.ac.length := by
  rw [encL, if_pos h, W.sealL_length]
  simp [encP, cfgB, ob_len, winsB_len, chnsB_len, actsB_len, W.num]; omega
set_option maxHeartbeats 4000000 in
set_option maxRecDepth 100000 in
theorem walk {w : World} {u : Value} {c : Cfg} (hg : Et w) (h : CfgAt w u c) :
    Calls Tryd.prog 9 #[u] w fun e w' => e = .returned (.bool true) ∧ Below w.heap.size w w' := by
  obtain ⟨A1, A2, A3, c1, c2, c3, rfl⟩ := few_at h
  have X0 := Blk.new w 50 #[.int .i64 c.P, .int .i64 c.F, .slice A1 c.ws.length c1, .slice A2 c.cs.length c2, .slice A3 c.ac.length c3]
  have HB := b01 w (.cells #[.int .i64 c.P, .int .i64 c.F, .slice A1 c.ws.length c1, .slice A2 c.cs.length c2, .slice A3 c.ac.length c3] 50)
  have HG := Lib.hid (hg.below HB)
  have HGw := Lib.hid hg
  have HC := Lib.hid h
  clear hg h
  go_enter Tryd.func9, Tryd.ntmps9
  go_wp2_with fail
  refine (T.lives_any HG.out).mono ?_
  rintro e w1 ⟨rfl, hb1⟩
  have HB1 := bt HB hb1
  have k0 := (X0.bel hb1).cell
  clear HB X0
  go_wp2_with fail
  refine (few5_any HC.out).mono ?_
  rintro e w2 ⟨v2, rfl, hc2, hb2⟩
  have HB2 := bt HB1 hb2
  go_wp2_with fail
  refine (good_any (hc2.below HB2)).mono ?_
  rintro e w4 ⟨v4, g, rfl, ho4, hgood, hb4⟩
  have hfl := hgood.1
  have hg4 := ho4.at_
  obtain ⟨Q1, Q2, Q3, q1, q2, q3, rfl⟩ := few_at hg4
  have Y1 := Blk.new w4 50 #[.int .i64 g.P, .int .i64 g.F, .slice Q1 g.ws.length q1, .slice Q2 g.cs.length q2, .slice Q3 g.ac.length q3]
  have HB5 := ba1 (bt HB2 hb4) (.cells #[.int .i64 g.P, .int .i64 g.F, .slice Q1 g.ws.length q1, .slice Q2 g.cs.length q2, .slice Q3 g.ac.length q3] 50)
  have HCG5 := Lib.hid (hg4.alloc (.cells #[.int .i64 g.P, .int .i64 g.F, .slice Q1 g.ws.length q1, .slice Q2 g.cs.length q2, .slice Q3 g.ac.length q3] 50))
  clear k0 HB1 HB2 hb1 hb2 hb4 ho4 hg4 hc2 HC HG
  obtain ⟨g5, hg5⟩ : ∃ g, w4.heap.size = g := ⟨_, rfl⟩
  rw [hg5] at Y1
  go_upto_region 4 with fail
  generalize w4.alloc (.cells #[.int .i64 g.P, .int .i64 g.F, .slice Q1 g.ws.length q1, .slice Q2 g.cs.length q2, .slice Q3 g.ac.length q3] 50) = W5 at *
  clear hg5
  obtain ⟨d1, d2⟩ := dec_enc hfl
  have hen : encE g = 0 := by rw [encE, if_pos hfl]
  have hln := enc_len hfl
  have hmx := encL_len g
  obtain ⟨hP, _, _, _, hc6, _, hac, _⟩ := flt_none hfl
  have hac4 : g.ac.length ≤ 4 := by omega
  have HAC := Lib.hid hac
  obtain ⟨L, hL⟩ : ∃ L, encL g = L := ⟨_, rfl⟩
  rw [hL] at d1 d2 hln hmx
  have HL := Lib.hid (And.intro hL (And.intro d1 (And.intro d2 hen)))
  have HLen := Lib.hid hln
  have HE5 := Lib.hid (HGw.out.below HB5)
  have HW6 := hgood.2.1
  clear hL d1 d2 hen hgood hln hac hP hfl
  have k5 := Y1.cell
  go_upto_region 5 with (go_at_call 36; refine (encode_any HE5.out HCG5.out).mono ?_; rintro e w6 ⟨x6, rfl, hx6, hb6⟩; rw [HL.out.1] at hx6; rw [HL.out.2.2.2]; obtain ⟨A6, c6, rfl, hr6, hle6, hm6, _⟩ := hx6.rd; have HR6 := Lib.hid hr6; have Y6 := Y1.bel hb6; clear hx6 hr6)
  have HB6 := bt HB5 hb6
  have HE6 := Lib.hid (HE5.out.below hb6)
  have HCG6 := Lib.hid (HCG5.out.below hb6)
  clear k5 Y1 hb6
  go_upto_region 6 with (go_at_call 42; refine (count_any HE6.out HR6.out hmx hle6).mono ?_; rintro e w7 ⟨rfl, hb7⟩; rw [HL.out.2.1, HL.out.2.2.1]; have Y7 := Y6.bel hb7)
  have HB7 := bt HB6 hb7
  have HE7 := Lib.hid (HE6.out.below hb7)
  have HCG7 := Lib.hid (HCG6.out.below hb7)
  clear Y6 hb7
  have k7 := Y7.cell
  have z7 := Y7.lt
  have t1 : IntKind.i64.wrap (3 * (g.ws.length : Int)) = 3 * (g.ws.length : Int) := by rw [IntKind.wrap_i64]; omega
  have t2 : IntKind.i64.wrap (17 * (g.cs.length : Int)) = 17 * (g.cs.length : Int) := by rw [IntKind.wrap_i64]; omega
  have t3 : IntKind.i64.wrap (9 + 3 * (g.ws.length : Int)) = 9 + 3 * (g.ws.length : Int) := by rw [IntKind.wrap_i64]; omega
  have t4 : IntKind.i64.wrap (9 + 3 * (g.ws.length : Int) + 17 * (g.cs.length : Int)) = 9 + 3 * (g.ws.length : Int) + 17 * (g.cs.length : Int) := by rw [IntKind.wrap_i64]; omega
  have t5 : IntKind.i64.wrap (9 + 3 * (g.ws.length : Int) + 17 * (g.cs.length : Int) + (g.ac.length : Int)) = 9 + 3 * (g.ws.length : Int) + 17 * (g.cs.length : Int) + (g.ac.length : Int) := by rw [IntKind.wrap_i64]; omega
  have t6 : ((L.length : Int) == 9 + 3 * (g.ws.length : Int) + 17 * (g.cs.length : Int) + (g.ac.length : Int)) = true := by rw [beq_iff_eq, HLen.out]; simp
  have t7 : ((g.ac.length : Int) == g.P) = true := by rw [beq_iff_eq]; exact HAC.out
  go_wp2_with (go_at_call 38; refine (size_any HE7.out HCG7.out).mono ?_; rintro e w8 ⟨rfl, hb8⟩; rw [HL.out.1])
  go_ret
  exact ⟨rfl, bt HB7 hb8⟩
end Go.Proofs.YtkhcmgnocbddmaaDoor.tableSizes
