/- table.Size, table.Count, the first check of stage 5's statements. Condition: the library's variable errors.errorType holds what the program's text lays. -/
import Derived.Test.YtfbbgoahipejlabDoorRt
import Derived.Test.YtfbbgoahipejlabDoorRSam
import Derived.Test.YtfbbgoahipejlabDoorLive
import Derived.Test.YtfbbgoahipejlabDoorLSam
import Derived.BigQuiet
namespace Go.Proofs.YtfbbgoahipejlabDoor.T
open Go.RowKit Go.Proofs.YtfbbgoahipejlabDoor.G Go.Proofs.YtfbbgoahipejlabDoor.C04
open Go.Proofs.YtfbbgoahipejlabDoor.configSame (few_at)

theorem encL_len (c : Cfg) : (encL c).length ≤ 2048 := by
  unfold encL
  split
  · rename_i h
    have := cfgB_len (cfgOk_of h)
    rw [W.sealL_length]; simp [encP]; omega
  · simp
set_option maxHeartbeats 1000000 in
theorem size_any {w : World} {v : Value} {c : Cfg} (hE : Et w) (h : CfgAt w v c) : Calls Tryd.prog 55 #[v] w fun e w' => e = .returned (.int .i64 (encL c).length) ∧ Below w.heap.size w w' := by
  obtain ⟨A1, A2, A3, c1, c2, c3, rfl⟩ := few_at h
  have HB := b01 w (.cells #[.int .i64 c.P, .int .i64 c.F, .slice A1 c.ws.length c1, .slice A2 c.cs.length c2, .slice A3 c.ac.length c3] 30)
  have HC := Lib.hid (h.alloc (.cells #[.int .i64 c.P, .int .i64 c.F, .slice A1 c.ws.length c1, .slice A2 c.cs.length c2, .slice A3 c.ac.length c3] 30))
  have HE := Lib.hid (hE.below HB)
  clear h hE
  obtain ⟨L, hL⟩ : ∃ L, encL c = L := ⟨_, rfl⟩
  obtain ⟨ee, hee⟩ : ∃ x, encE c = x := ⟨_, rfl⟩
  rw [hL]
  have HL := Lib.hid (And.intro hL hee)
  clear hL hee
  go_enter Tryd.func55, Tryd.ntmps55
  go_wp2_with (go_at_call 54; refine (encode_any HE.out HC.out).mono ?_; rintro e w1 ⟨x1, rfl, hx1, hb1⟩; rw [HL.out.1] at hx1; rw [HL.out.2]; obtain ⟨A4, c4, rfl, _, _, _, _⟩ := hx1.rd; clear hx1)
  go_ret
  exact ⟨rfl, bt HB hb1⟩
set_option maxHeartbeats 1000000 in
theorem count_any {w : World} {A : Option Addr} {c : Nat} {l : List UInt8} (hE : Et w) (hr : W.Rd w A l) (hl : l.length ≤ 2048) (hc : l.length ≤ c) : Calls Tryd.prog 10 #[.slice A l.length c] w fun e w' => e = .returned (.tuple #[.int .i64 (decC l).ws.length, .int .i64 (decC l).cs.length, .int .i64 (decC l).ac.length, .int .i64 (decE l)]) ∧ Below w.heap.size w w' := by
  have HK := Lib.hid (decode_any hE hr hl hc)
  clear hr hE
  obtain ⟨C, hC⟩ : ∃ C, decC l = C := ⟨_, rfl⟩
  obtain ⟨ee, hee⟩ : ∃ x, decE l = x := ⟨_, rfl⟩
  rw [hC, hee]
  have HL := Lib.hid (And.intro hC hee)
  clear hC hee
  go_enter Tryd.func10, Tryd.ntmps10
  go_upto_region 2 with (go_at_call 8; refine HK.out.mono ?_; rintro e w1 ⟨v1, rfl, ho1, hb1⟩; rw [HL.out.1] at ho1; rw [HL.out.2]; obtain ⟨P1, P2, P3, p1, p2, p3, rfl⟩ := few_at ho1.at_; clear ho1)
  have HB := ba1 hb1 (.cells #[.int .i64 C.P, .int .i64 C.F, .slice P1 C.ws.length p1, .slice P2 C.cs.length p2, .slice P3 C.ac.length p3] 30)
  have B1 := Blk.new w1 30 #[.int .i64 C.P, .int .i64 C.F, .slice P1 C.ws.length p1, .slice P2 C.cs.length p2, .slice P3 C.ac.length p3]
  obtain ⟨g, hg⟩ : ∃ g, w1.heap.size = g := ⟨_, rfl⟩
  rw [hg] at B1
  generalize w1.alloc (.cells #[.int .i64 C.P, .int .i64 C.F, .slice P1 C.ws.length p1, .slice P2 C.cs.length p2, .slice P3 C.ac.length p3] 30) = V at *
  rw [hg]
  have k1 := B1.cell
  have z1 := B1.lt
  go_quiet (fail)
  go_wp2_with fail
  refine bodyPost_ret (v := .tuple #[.int .i64 C.ws.length, .int .i64 C.cs.length, .int .i64 C.ac.length, .int .i64 ee]) (by simp [results, Tryd.results10, go_sem, *]) rfl ⟨rfl, ?_⟩
  exact bn HB _
theorem enc_ex0 : encE ex0 = 0 := by rw [encE, if_pos flt_ex0]
theorem len_ex0 : (encL ex0).length = 13 := by rw [encL, if_pos flt_ex0, W.sealL_length]; rfl
set_option maxHeartbeats 2000000 in
theorem lives_any {w : World} (hg : Et w) : Calls Tryd.prog 6 #[] w fun e w' => e = .returned (.bool true) ∧ Below w.heap.size w w' := by
  have hb0 : Below w.heap.size w (((w.alloc (.cells #[.int .i64 0, .int .i64 0, .int .i64 4] 89)).alloc (.cells #[.int .i64 0] 3)).alloc (.cells #[.int .i64 1, .int .i64 4, .slice (some ⟨w.heap.size, 0, none⟩) 1 1, .slice none 0 0, .slice (some ⟨w.heap.size + 1, 0, none⟩) 1 1] 30)) := ba1 (ba1 (b01 _ _) _) _
  have B0 := ((Blk.new w 89 #[.int .i64 0, .int .i64 0, .int .i64 4]).alloc (.cells #[.int .i64 0] 3)).alloc (.cells #[.int .i64 1, .int .i64 4, .slice (some ⟨w.heap.size, 0, none⟩) 1 1, .slice none 0 0, .slice (some ⟨w.heap.size + 1, 0, none⟩) 1 1] 30)
  have B1 := (Blk.new_at (w := w.alloc (.cells #[.int .i64 0, .int .i64 0, .int .i64 4] 89)) (n := w.heap.size + 1) (by simp) 3 #[.int .i64 0]).alloc (.cells #[.int .i64 1, .int .i64 4, .slice (some ⟨w.heap.size, 0, none⟩) 1 1, .slice none 0 0, .slice (some ⟨w.heap.size + 1, 0, none⟩) 1 1] 30)
  have B2 := Blk.new_at (w := (w.alloc (.cells #[.int .i64 0, .int .i64 0, .int .i64 4] 89)).alloc (.cells #[.int .i64 0] 3)) (n := w.heap.size + 1 + 1) (by simp) 30 #[.int .i64 1, .int .i64 4, .slice (some ⟨w.heap.size, 0, none⟩) 1 1, .slice none 0 0, .slice (some ⟨w.heap.size + 1, 0, none⟩) 1 1]
  have HC := Lib.hid (ex_at (c := ex0) (n := 0) rfl B0 B1)
  have HG := Lib.hid (hg.below hb0)
  clear hg B0 B1
  obtain ⟨d1, d2⟩ := dec_enc flt_ex0
  obtain ⟨L, hL⟩ : ∃ L, encL ex0 = L := ⟨_, rfl⟩
  rw [hL] at d1 d2
  have hlen : L.length = 13 := by rw [← hL]; exact len_ex0
  have HL := Lib.hid (And.intro hL (And.intro d1 d2))
  have HLen := Lib.hid hlen
  clear hL d1 d2 hlen
  go_enter Tryd.func6, Tryd.ntmps6
  go_upto_region 3 with (go_at_call 54; refine (encode_any HG.out HC.out).mono ?_; rintro e w1 ⟨x1, rfl, hx1, hb1⟩; rw [HL.out.1] at hx1; rw [enc_ex0]; obtain ⟨A4, c4, rfl, hr4, hle4, hm4, _⟩ := hx1.rd; have HR := Lib.hid hr4; have X2 := B2.bel hb1; clear hx1 hr4)
  have hB : Below w.heap.size w w1 := bt hb0 hb1
  have HC1 := Lib.hid (HC.out.below hb1)
  have HG1 := Lib.hid (HG.out.below hb1)
  clear B2 HC HG hb1
  go_upto_region 4 with (go_at_call 8; refine (decode_any HG1.out HR.out (by rw [HLen.out]; decide) hle4).mono ?_; rintro e w2 ⟨v2, rfl, ho2, hb2⟩; rw [HL.out.2.2] at ho2; rw [HL.out.2.1]; have hat := ho2.at_; clear ho2; obtain ⟨P1, P2, P3, p1, p2, p3, rfl⟩ := few_at hat)
  have Y2 := (X2.bel hb2).alloc (.cells #[.int .i64 ex0.P, .int .i64 ex0.F, .slice P1 ex0.ws.length p1, .slice P2 ex0.cs.length p2, .slice P3 ex0.ac.length p3] 30)
  have Y3 := Blk.new w2 30 #[.int .i64 ex0.P, .int .i64 ex0.F, .slice P1 ex0.ws.length p1, .slice P2 ex0.cs.length p2, .slice P3 ex0.ac.length p3]
  have HB3 := ba1 (bt hB hb2) (.cells #[.int .i64 ex0.P, .int .i64 ex0.F, .slice P1 ex0.ws.length p1, .slice P2 ex0.cs.length p2, .slice P3 ex0.ac.length p3] 30)
  have HCa := Lib.hid ((HC1.out.below hb2).alloc (.cells #[.int .i64 ex0.P, .int .i64 ex0.F, .slice P1 ex0.ws.length p1, .slice P2 ex0.cs.length p2, .slice P3 ex0.ac.length p3] 30))
  have HCb := Lib.hid (hat.alloc (.cells #[.int .i64 ex0.P, .int .i64 ex0.F, .slice P1 ex0.ws.length p1, .slice P2 ex0.cs.length p2, .slice P3 ex0.ac.length p3] 30))
  have HG3 := Lib.hid ((HG1.out.below hb2).alloc (.cells #[.int .i64 ex0.P, .int .i64 ex0.F, .slice P1 ex0.ws.length p1, .slice P2 ex0.cs.length p2, .slice P3 ex0.ac.length p3] 30))
  clear hat hb2 X2 HR HC1 HG1
  obtain ⟨g3, hg3⟩ : ∃ g, w2.heap.size = g := ⟨_, rfl⟩
  rw [hg3] at Y3
  generalize w2.alloc (.cells #[.int .i64 ex0.P, .int .i64 ex0.F, .slice P1 ex0.ws.length p1, .slice P2 ex0.cs.length p2, .slice P3 ex0.ac.length p3] 30) = V at *
  rw [hg3]
  clear hg3
  have k2 := Y2.cell
  have k3 := Y3.cell
  have z2 := Y2.lt
  have z3 := Y3.lt
  have t13 : ((L.length : Int) == 13) = true := by rw [HLen.out]; rfl
  go_wp2_with (first
    | (go_at_call 11; (with_reducible refine (rsame_any HCa.out HCb.out).mono ?_); rintro e w4 ⟨rfl, hb4⟩; rw [sam_self]; have HB4 := bt HB3 hb4; have HCc := Lib.hid (HCa.out.below hb4); have HGc := Lib.hid (HG3.out.below hb4); have Y4 := Y2.bel hb4; clear k2 k3 z2 z3; have k2 := Y4.cell; have z2 := Y4.lt)
    | (go_at_call 55; refine (size_any HGc.out HCc.out).mono ?_; rintro e w5 ⟨rfl, hb5⟩; rw [len_ex0]; have HB5 := bt HB4 hb5))
  go_ret
  exact ⟨rfl, HB5⟩
end Go.Proofs.YtfbbgoahipejlabDoor.T
