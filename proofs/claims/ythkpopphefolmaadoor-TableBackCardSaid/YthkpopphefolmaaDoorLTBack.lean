/- The walk of TableBack. -/
import Derived.Test.YthkpopphefolmaaDoorLTSizes
namespace Go.Proofs.YthkpopphefolmaaDoor.tableBack
open Go.RowKit Go.Proofs.YthkpopphefolmaaDoor.G Go.Proofs.YthkpopphefolmaaDoor.C04 Go.Proofs.YthkpopphefolmaaDoor.T
open Go.Proofs.YthkpopphefolmaaDoor.configSame (few_at)
open Go.Proofs.YthkpopphefolmaaDoor.tableSizes (enc_len)
attribute [local go_sem ↓] Go.wp_at_zero Go.wp_at_succ

theorem dec_open {l : List UInt8} {n : Int} (h : W.openE l = n) (hn : n ≠ 0) : decE l = n ∧ decC l = cfg0 := by
  have ho : opE l = n := by rw [opE, if_neg (by rw [h]; exact hn), h]
  have hd : decE l = n := by rw [decE, if_neg (by rw [ho]; exact hn), ho]
  exact ⟨hd, by rw [decC, if_neg (by rw [hd]; exact hn)]⟩
set_option maxHeartbeats 4000000 in
set_option maxRecDepth 100000 in
theorem walk {w : World} {u : Value} {c : Cfg} {pl : Int} {y : UInt8} (hg : Et w) (h : CfgAt w u c) :
    Calls Tryd.prog 7 #[u, .int .i64 pl, .int .u8 (y.toNat : Int)] w fun e w' => e = .returned (.bool true) ∧ Below w.heap.size w w' := by
  obtain ⟨A1, A2, A3, c1, c2, c3, rfl⟩ := few_at h
  have X0 := Blk.new w 50 #[.int .i64 c.P, .int .i64 c.F, .slice A1 c.ws.length c1, .slice A2 c.cs.length c2, .slice A3 c.ac.length c3]
  have HB := b01 w (.cells #[.int .i64 c.P, .int .i64 c.F, .slice A1 c.ws.length c1, .slice A2 c.cs.length c2, .slice A3 c.ac.length c3] 50)
  have HG := Lib.hid (hg.below HB)
  have HGw := Lib.hid hg
  have HC := Lib.hid h
  clear hg h
  go_enter Tryd.func7, Tryd.ntmps7
  go_wp2_with fail
  refine (T.lives_any HG.out).mono ?_
  rintro e w1 ⟨rfl, hb1⟩
  have HB1 := bt HB hb1
  have k0 := (X0.bel hb1).cell
  clear HB X0
  go_wp2_with fail
  refine (few5_any HC.out).mono ?_
  rintro e w2 ⟨v2, rfl, hc2, hb2⟩
  have HB2 := bt HB1 hb2
  go_wp2_with fail
  refine (good_any (hc2.below HB2)).mono ?_
  rintro e w4 ⟨v4, g, rfl, ho4, hgood, hb4⟩
  have hfl := hgood.1
  have hg4 := ho4.at_
  obtain ⟨Q1, Q2, Q3, q1, q2, q3, rfl⟩ := few_at hg4
  have Y1 := Blk.new w4 50 #[.int .i64 g.P, .int .i64 g.F, .slice Q1 g.ws.length q1, .slice Q2 g.cs.length q2, .slice Q3 g.ac.length q3]
  have HB5 := ba1 (bt HB2 hb4) (.cells #[.int .i64 g.P, .int .i64 g.F, .slice Q1 g.ws.length q1, .slice Q2 g.cs.length q2, .slice Q3 g.ac.length q3] 50)
  have HCG5 := Lib.hid (hg4.alloc (.cells #[.int .i64 g.P, .int .i64 g.F, .slice Q1 g.ws.length q1, .slice Q2 g.cs.length q2, .slice Q3 g.ac.length q3] 50))
  clear k0 HB1 HB2 hb1 hb2 hb4 ho4 hg4 hc2 HC HG
  obtain ⟨g5, hg5⟩ : ∃ g, w4.heap.size = g := ⟨_, rfl⟩
  rw [hg5] at Y1
  go_upto_region 4 with fail
  generalize w4.alloc (.cells #[.int .i64 g.P, .int .i64 g.F, .slice Q1 g.ws.length q1, .slice Q2 g.cs.length q2, .slice Q3 g.ac.length q3] 50) = W5 at *
  clear hg5
  obtain ⟨d1, d2⟩ := dec_enc hfl
  have hen : encE g = 0 := by rw [encE, if_pos hfl]
  have hln := enc_len hfl
  have hmx := encL_len g
  have hse : encL g = W.sealL (encP g) := by rw [encL, if_pos hfl]
  obtain ⟨L, hL⟩ : ∃ L, encL g = L := ⟨_, rfl⟩
  rw [hL] at d1 d2 hln hmx hse
  have HSE := Lib.hid hse
  have HL := Lib.hid (And.intro hL (And.intro d1 (And.intro d2 hen)))
  have h9 : 9 ≤ L.length := by omega
  have HPos : Hid (0 < L.length) := by show 0 < L.length; omega
  have HE5 := Lib.hid (HGw.out.below HB5)
  clear hL d1 d2 hen hgood hln hfl hse
  have k5 := Y1.cell
  go_upto_region 5 with (go_at_call 41; refine (encode_any HE5.out HCG5.out).mono ?_; rintro e w6 ⟨x6, rfl, hx6, hb6⟩; rw [HL.out.1] at hx6; rw [HL.out.2.2.2]; obtain ⟨gb, c6, cur, rfl, hgb, hblk, hc6, hm6, hcur⟩ := hx6.row HPos.out; have HBK := Lib.hid hblk; have HCU := Lib.hid hcur; have Y6 := Y1.bel hb6; clear hx6 hblk hcur)
  have HB6 := bt HB5 hb6
  have HE6 := Lib.hid (HE5.out.below hb6)
  have HCG6 := Lib.hid (HCG5.out.below hb6)
  have hgw : w.heap.size ≤ gb := bs HB5 hgb
  unfold maxLen at hm6
  clear k5 Y1 hb6 hgb
  go_upto_region 6 with (go_at_call 45; refine (decode_any HE6.out (W.rd_of_row HBK.out HCU.out) hmx hc6).mono ?_; rintro e w7 ⟨v7, rfl, ho7, hb7⟩; rw [HL.out.2.2.1] at ho7; rw [HL.out.2.1]; have hat7 := ho7.at_; clear ho7; obtain ⟨P1, P2, P3, p1, p2, p3, rfl⟩ := few_at hat7)
  have Y7 := (Y6.bel hb7).alloc (.cells #[.int .i64 g.P, .int .i64 g.F, .slice P1 g.ws.length p1, .slice P2 g.cs.length p2, .slice P3 g.ac.length p3] 50)
  have Z7 := Blk.new w7 50 #[.int .i64 g.P, .int .i64 g.F, .slice P1 g.ws.length p1, .slice P2 g.cs.length p2, .slice P3 g.ac.length p3]
  have HB8 := ba1 (bt HB6 hb7) (.cells #[.int .i64 g.P, .int .i64 g.F, .slice P1 g.ws.length p1, .slice P2 g.cs.length p2, .slice P3 g.ac.length p3] 50)
  have HCa := Lib.hid ((HCG6.out.below hb7).alloc (.cells #[.int .i64 g.P, .int .i64 g.F, .slice P1 g.ws.length p1, .slice P2 g.cs.length p2, .slice P3 g.ac.length p3] 50))
  have HCb := Lib.hid (hat7.alloc (.cells #[.int .i64 g.P, .int .i64 g.F, .slice P1 g.ws.length p1, .slice P2 g.cs.length p2, .slice P3 g.ac.length p3] 50))
  have HBK8 := Lib.hid ((HBK.out.bel hb7).alloc (.cells #[.int .i64 g.P, .int .i64 g.F, .slice P1 g.ws.length p1, .slice P2 g.cs.length p2, .slice P3 g.ac.length p3] 50))
  clear hat7 hb7 Y6 HBK HE6 HCG6 HCG5 HE5
  obtain ⟨g7, hg7⟩ : ∃ g, w7.heap.size = g := ⟨_, rfl⟩
  rw [hg7] at Z7
  generalize w7.alloc (.cells #[.int .i64 g.P, .int .i64 g.F, .slice P1 g.ws.length p1, .slice P2 g.cs.length p2, .slice P3 g.ac.length p3] 50) = V8 at *
  rw [hg7]
  clear hg7
  have k7 := Y7.cell
  have m7 := Z7.cell
  have z7 := Y7.lt
  have y7 := Z7.lt
  have t3 : ¬ (L.length : Int) < 3 := by omega
  go_upto_region 8 with (go_at_call 38; (with_reducible refine (rsame_any HCa.out HCb.out).mono ?_); rintro e w9 ⟨rfl, hb9⟩; rw [sam_self]; have HB9 := bt HB8 hb9; have HBK9 := Lib.hid (HBK8.out.bel hb9); clear k7 m7 z7 y7)
  clear HBK8 HCa HCb Y7 Z7 hb9
  have q0 : 0 ≤ (IntKind.u64.wrap pl).tmod L.length := Int.tmod_nonneg _ (by rw [IntKind.wrap_u64]; omega)
  have q1 : (IntKind.u64.wrap pl).tmod L.length < L.length := Int.tmod_lt_of_pos _ (by omega)
  obtain ⟨q, hq⟩ : ∃ q : Nat, (IntKind.u64.wrap pl).tmod L.length = q := ⟨_, (Int.toNat_of_nonneg q0).symm⟩
  rw [hq] at q0 q1
  have hqs : q < L.length := by omega
  have hcell : w9.cell? ⟨gb, q, none⟩ = some (.int .u8 (L[q].toNat : Int)) := by
    rw [HBK9.out.cell, HCU.out q hqs]; simp [W.nth, hqs]
  have hfz := HBK9.out.frozen q
  have hx := W.bits_xor8 L[q] y
  have hrd := W.rd_turned HBK9.out HCU.out q (L[q] ^^^ y)
  have hS : Below w.heap.size w (w9.setCell ⟨gb, q, none⟩ (.int .u8 ((L[q] ^^^ y).toNat : Int))) := HB9.setCell hgw _
  have hop : W.openE (L.set q (L[q] ^^^ y)) = if y = 0 then 0 else 8 := by
    have e1 := HSE.out
    subst e1
    exact W.open_xored (encP g) q y hqs
  have hsl : (L.set q (L[q] ^^^ y)).length = L.length := List.length_set
  have hs0 : y = 0 → L.set q (L[q] ^^^ y) = L := by
    rintro rfl; simp
  have HS := Lib.hid hS
  have HRD := Lib.hid hrd
  have HES := Lib.hid (HGw.out.below hS)
  have HOP := Lib.hid (And.intro hop (And.intro hsl hs0))
  clear hop hrd hS hsl hs0 HBK9 hgw HB9 HB8 HB6 HB5
  generalize L[q] ^^^ y = t at *
  generalize L.set q t = lt at *
  go_upto_region 9 with fail
  clear hcell hfz hx hq
  by_cases hy : y = 0
  · have HLT : Hid (lt = L) := HOP.out.2.2 hy
    subst hy
    have CO2 : Hid (Calls Tryd.prog 45 #[.slice (some ⟨gb, 0, none⟩) L.length c6] (w9.setCell ⟨gb, q, none⟩ (.int .u8 (t.toNat : Int))) (DecPost (w9.setCell ⟨gb, q, none⟩ (.int .u8 (t.toNat : Int))) L)) := by
      have := decode_any (c := c6) HES.out HRD.out (by rw [HLT.out]; exact hmx) (by rw [HLT.out]; exact hc6)
      rw [HLT.out] at this
      exact this
    generalize w9.setCell ⟨gb, q, none⟩ (.int .u8 (t.toNat : Int)) = V9 at *
    go_wp2_with (go_at_call 45; refine CO2.out.mono ?_; rintro e w10 ⟨v10, rfl, ho10, hb10⟩; rw [HL.out.2.2.1] at ho10; rw [HL.out.2.1]; have hat10 := ho10.at_; clear ho10; obtain ⟨R1, R2, R3, r1, r2, r3, rfl⟩ := few_at hat10; have HBx := bt HS.out hb10)
    go_ret
    exact ⟨rfl, ba1 HBx _⟩
  · have h8 : W.openE lt = 8 := by rw [HOP.out.1, if_neg hy]
    obtain ⟨e8, c8⟩ := dec_open h8 (by decide)
    have HD := Lib.hid (And.intro e8 c8)
    have ty : ((y.toNat : Int) == 0) = false := by
      rw [beq_eq_false_iff_ne]; intro h; exact hy (UInt8.toNat_inj.1 (by simpa using h))
    clear e8 c8 h8 hy
    have CO2 : Hid (Calls Tryd.prog 45 #[.slice (some ⟨gb, 0, none⟩) L.length c6] (w9.setCell ⟨gb, q, none⟩ (.int .u8 (t.toNat : Int))) (DecPost (w9.setCell ⟨gb, q, none⟩ (.int .u8 (t.toNat : Int))) lt)) := by
      have := decode_any (c := c6) HES.out HRD.out (by rw [HOP.out.2.1]; exact hmx) (by rw [HOP.out.2.1]; exact hc6)
      rw [HOP.out.2.1] at this
      exact this
    generalize w9.setCell ⟨gb, q, none⟩ (.int .u8 (t.toNat : Int)) = V9 at *
    go_upto_region 10 with (go_at_call 45; refine CO2.out.mono ?_; rintro e w10 ⟨v10, rfl, ho10, hb10⟩; rw [HD.out.2] at ho10; rw [HD.out.1]; have hat10 := ho10.at_; clear ho10; obtain ⟨R1, R2, R3, r1, r2, r3, rfl⟩ := few_at hat10)
    have Z0 := Blk.new w10 50 #[.int .i64 cfg0.P, .int .i64 cfg0.F, .slice R1 cfg0.ws.length r1, .slice R2 cfg0.cs.length r2, .slice R3 cfg0.ac.length r3]
    have HCx := Lib.hid (hat10.alloc (.cells #[.int .i64 cfg0.P, .int .i64 cfg0.F, .slice R1 cfg0.ws.length r1, .slice R2 cfg0.cs.length r2, .slice R3 cfg0.ac.length r3] 50))
    have HBx := ba1 (bt HS.out hb10) (.cells #[.int .i64 cfg0.P, .int .i64 cfg0.F, .slice R1 cfg0.ws.length r1, .slice R2 cfg0.cs.length r2, .slice R3 cfg0.ac.length r3] 50)
    clear hat10 hb10 CO2
    obtain ⟨g9, hg9⟩ : ∃ g, w10.heap.size = g := ⟨_, rfl⟩
    rw [hg9] at Z0
    generalize w10.alloc (.cells #[.int .i64 cfg0.P, .int .i64 cfg0.F, .slice R1 cfg0.ws.length r1, .slice R2 cfg0.cs.length r2, .slice R3 cfg0.ac.length r3] 50) = V10 at *
    rw [hg9]
    clear hg9
    have k9 := Z0.cell
    have z9 := Z0.lt
    have HC0 := Lib.hid (cfg0_own V10 0).at_
    go_wp2_with (go_at_call 38; (with_reducible refine (rsame_any HCx.out HC0.out).mono ?_); rintro e w11 ⟨rfl, hb11⟩; rw [sam_self]; have HB11 := bt HBx hb11)
    go_ret
    exact ⟨rfl, HB11⟩
theorem walk' {w : World} {u : Value} {c : Cfg} {pl by' : Int} (hg : Et w) (h : CfgAt w u c) (h0 : 0 ≤ by') (h1 : by' < 256) :
    Calls Tryd.prog 7 #[u, .int .i64 pl, .int .u8 by'] w fun e w' => e = .returned (.bool true) ∧ Below w.heap.size w w' := by
  have := walk (pl := pl) (y := W.by_ by') hg h
  rwa [W.by_nat by' h0 h1] at this
end Go.Proofs.YthkpopphefolmaaDoor.tableBack
