/- The walk of TableWrites. -/
import Derived.Test.YtpjjliaialbniaaDoorTWA
import Derived.Test.YtpjjliaialbniaaDoorTLive
import Derived.Test.YtpjjliaialbniaaDoorFew5
namespace Go.Proofs.YtpjjliaialbniaaDoor.tableWrites
open Go.RowKit Go.Proofs.YtpjjliaialbniaaDoor.G Go.Proofs.YtpjjliaialbniaaDoor.C04 Go.Proofs.YtpjjliaialbniaaDoor.T
open Go.Proofs.YtpjjliaialbniaaDoor.configSame (few_at)
attribute [local go_sem ↓] Go.wp_at_zero Go.wp_at_succ
theorem bl5 {V : World} {g : Nat} {o0 o1 o2 o3 o4 : Value} (h : Blk V g 26 #[o0, o1, o2, o3, o4]) (n0 n1 n2 n3 n4 : Value) : Blk (((((V.setCell ⟨g, 0, none⟩ n0).setCell ⟨g, 1, none⟩ n1).setCell ⟨g, 2, none⟩ n2).setCell ⟨g, 3, none⟩ n3).setCell ⟨g, 4, none⟩ n4) g 26 #[n0, n1, n2, n3, n4] := by
  simpa using ((((h.set_ 0 n0).set_ 1 n1).set_ 2 n2).set_ 3 n3).set_ 4 n4
theorem be5 {w W : World} {g : Nat} (h : Below w.heap.size w W) (hg : w.heap.size ≤ g) (n0 n1 n2 n3 n4 : Value) :
    Below w.heap.size w (((((W.setCell ⟨g, 0, none⟩ n0).setCell ⟨g, 1, none⟩ n1).setCell ⟨g, 2, none⟩ n2).setCell ⟨g, 3, none⟩ n3).setCell ⟨g, 4, none⟩ n4) :=
  ((((h.setCell hg n0).setCell hg n1).setCell hg n2).setCell hg n3).setCell hg n4
set_option maxHeartbeats 4000000 in
set_option maxRecDepth 100000 in
theorem walk {w : World} {u : Value} {c : Cfg} (hg : Et w) (h : CfgAt w u c) :
    Calls Tryd.prog 3 #[u] w fun e w' => e = .returned (.bool true) ∧ Below w.heap.size w w' := by
  obtain ⟨A1, A2, A3, c1, c2, c3, rfl⟩ := few_at h
  have X0 := Blk.new w 26 #[.int .i64 c.P, .int .i64 c.F, .slice A1 c.ws.length c1, .slice A2 c.cs.length c2, .slice A3 c.ac.length c3]
  have HB := b01 w (.cells #[.int .i64 c.P, .int .i64 c.F, .slice A1 c.ws.length c1, .slice A2 c.cs.length c2, .slice A3 c.ac.length c3] 26)
  have HG := Lib.hid (hg.below HB)
  have HGw := Lib.hid hg
  have HC := Lib.hid h
  clear hg h
  go_enter Tryd.func3, Tryd.ntmps3
  go_wp2_with fail
  refine (T.lives_any HG.out).mono ?_
  rintro e w1 ⟨rfl, hb1⟩
  have HB1 := bt HB hb1
  have X1 := X0.bel hb1
  have k0 := X1.cell
  clear HB X0
  go_wp2_with fail
  refine (few5_any HC.out).mono ?_
  rintro e w2 ⟨v2, rfl, hc2, hb2⟩
  have HB2 := bt HB1 hb2
  have X2 := X1.bel hb2
  obtain ⟨g, hgc⟩ : ∃ g, fw c = g := ⟨_, rfl⟩
  rw [hgc] at hc2
  obtain ⟨Q1, Q2, Q3, q1, q2, q3, rfl⟩ := few_at hc2
  have HC2 := Lib.hid hc2
  clear k0 X1 HB1 hb1 hb2 hc2 HC HG
  have k0 := X2.cell
  have f0 := X2.frozen
  have z0 := X2.lt
  go_upto_region 4 with fail
  have X3 := bl5 X2 (.int .i64 g.P) (.int .i64 g.F) (.slice Q1 g.ws.length q1) (.slice Q2 g.cs.length q2) (.slice Q3 g.ac.length q3)
  have HB3 := be5 HB2 (Nat.le_refl _) (.int .i64 g.P) (.int .i64 g.F) (.slice Q1 g.ws.length q1) (.slice Q2 g.cs.length q2) (.slice Q3 g.ac.length q3)
  clear k0 f0 z0 X2 HB2
  generalize (((((w2.setCell ⟨w.heap.size, 0, none⟩ (.int .i64 g.P)).setCell ⟨w.heap.size, 1, none⟩ (.int .i64 g.F)).setCell ⟨w.heap.size, 2, none⟩ (.slice Q1 g.ws.length q1)).setCell ⟨w.heap.size, 3, none⟩ (.slice Q2 g.cs.length q2)).setCell ⟨w.heap.size, 4, none⟩ (.slice Q3 g.ac.length q3)) = W3 at *
  have k3 := X3.cell
  have HC3 := Lib.hid (HC2.out.below HB3)
  have HE3 := Lib.hid (HGw.out.below HB3)
  obtain ⟨L, hL⟩ : ∃ L, encL g = L := ⟨_, rfl⟩
  obtain ⟨n, hn⟩ : ∃ n, encE g = n := ⟨_, rfl⟩
  have HL := Lib.hid hL
  have HN := Lib.hid hn
  clear hL hn HC2 HGw
  go_upto_region 5 with (go_at_call 7; (with_reducible refine (encode_any HE3.out HC3.out).mono ?_); rintro e w4 ⟨x4, rfl, hx4, hb4⟩; rw [HL.out] at hx4; rw [HN.out]; obtain ⟨A4, c4, rfl, hr4, _, _, _⟩ := hx4.rd; have HR4 := Lib.hid hr4; have X4 := X3.bel hb4; clear hx4 hr4)
  have HB4 := bt HB3 hb4
  have HE4 := Lib.hid (HE3.out.below hb4)
  have HC4 := Lib.hid (HC3.out.below hb4)
  clear k3 X3 HB3 HE3 HC3 hb4
  have k4 := X4.cell
  go_upto_region 6 with (go_at_call 8; (with_reducible refine (rencode_any HC4.out).mono ?_); rintro e w5 ⟨x5, rfl, hx5, hb5⟩; rw [HL.out] at hx5; rw [HN.out]; obtain ⟨A5, c5, rfl, _, _, hr5⟩ := hx5; have HR5 := Lib.hid hr5; have X5 := X4.bel hb5; clear hr5)
  have HB5 := bt HB4 hb5
  have HE5 := Lib.hid (HE4.out.below hb5)
  have HC5 := Lib.hid (HC4.out.below hb5)
  have ca : (convert 29 9 (.slice A4 L.length c4)).run Tryd.prog w5 = .ok (.string ⟨L.toArray⟩) w5 := W.conv_any (HR4.out.below hb5) c4
  have cb : (convert 29 9 (.slice A5 L.length c5)).run Tryd.prog w5 = .ok (.string ⟨L.toArray⟩) w5 := W.conv_any HR5.out c5
  clear k4 X4 HB4 HE4 HC4 hb5
  have k5 := X5.cell
  have z5 := X5.lt
  go_wp2_with (go_at_call 9; (with_reducible refine (size_any HE5.out HC5.out).mono ?_); rintro e w8 ⟨rfl, hb8⟩; rw [HL.out])
  go_ret
  exact ⟨rfl, bt HB5 hb8⟩
end Go.Proofs.YtpjjliaialbniaaDoor.tableWrites
