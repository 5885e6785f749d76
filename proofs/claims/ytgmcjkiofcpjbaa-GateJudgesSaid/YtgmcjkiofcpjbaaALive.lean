/- The first check of every statement of stage 12 ('lives'): the document's example. -/
import Derived.Test.YtgmcjkiofcpjbaaAOf
namespace Go.Proofs.Ytgmcjkiofcpjbaa.A12
open Go.RowKit Go.Proofs.Ytgmcjkiofcpjbaa.G Go.Proofs.Ytgmcjkiofcpjbaa.L10 Go.Proofs.Ytgmcjkiofcpjbaa.C04
set_option maxRecDepth 100000
variable {w0 w00 w w' : World} {g : Nat} {a : Ga} {s : Gs}
def plainC : Chn := ⟨1, 0, 1, 1, 0, 1, 1, 1, 5, 0, 9⟩
theorem plain_any (w : World) : Calls Try.prog 33 #[] w fun e w' => e = .returned plainC.val ∧ Below w.heap.size w w' := by
  unfold plainC Chn.val
  go_enter Try.func33, Try.ntmps33
  go_wp2_with fail
  refine bodyPost_ret (v := _) (by simp [results, Try.results33, go_sem]) rfl ⟨rfl, ?_⟩
  exact b01 _ _
set_option maxHeartbeats 2000000 in
theorem lives_any (w : World) : Calls Try.prog 10 #[] w fun e w' => e = .returned (.bool true) ∧ Below w.heap.size w w' := by
  go_enter Try.func10, Try.ntmps10
  go_wp2_with fail
  refine (plain_any _).mono ?_
  rintro e w1 ⟨rfl, hb1⟩
  have HB1 := Lib.hid hb1
  have HN := Lib.hid (new_any plainC w1)
  unfold Chn.val at HN
  clear hb1
  unfold Chn.val
  go_wp2_with fail
  refine HN.out.mono ?_
  rintro e w2 ⟨g, a, rfl, hg, hf⟩
  obtain ⟨k, lb, bb, L, P, R, C⟩ := a
  obtain ⟨f1, f2, f3, f4, f5, _, _⟩ := hf
  simp only at f1 f2 f3 f4 f5
  obtain rfl : L = 1 := by have : (L : Int) = 1 := f2; omega
  obtain rfl : P = 1 := by have : (P : Int) = 1 := f3; omega
  obtain rfl : R = 0 := f4
  obtain rfl : C = 9 := f5
  subst f1
  clear f2 f3 HN
  have HG := Lib.hid (hg.old HB1.out)
  clear hg
  go_wp2_with fail
  have b3 := b01 w2 (.cells #[.int .i64 7] 3)
  have HO1 := Lib.hid (offer_any (HG.out.below b3) (ws := [7]) (c := 1) 0 0 3 0 (HG.out.ap_new (Row.of_blk (xs := L10.iv [7]) (Blk.new w2 3 #[.int .i64 7]) (fun j u hj => by simpa [L10.iv] using hj)) fun _ q o e => by injection e with e; injection e with e1 _; omega) (Nat.le_refl _) (by decide) (by decide) (by show (0 : Int) ≤ 0; omega) (by show (0 : Int) ≤ 1000000; omega))
  rw [show oc ⟨plainC, lb, bb, 1, 1, 0, 9⟩ (s0 ⟨plainC, lb, bb, 1, 1, 0, 9⟩) 0 0 [7] 0 = 0 from rfl, show asks ⟨plainC, lb, bb, 1, 1, 0, 9⟩ (s0 ⟨plainC, lb, bb, 1, 1, 0, 9⟩) 0 0 [7] = true from rfl] at HO1
  clear b3
  refine HO1.out.mono ?_
  rintro e w4 ⟨m1, s1, rfl, h1⟩
  have q1 : s1.q = 1 := h1.q
  have T1 : s1.T = 8 := h1.T.trans (show (if true = true then K11.less (K11.ctok 0 9 9 0 0) else 9) = 8 by decide)
  have N1 : s1.N = 0 := h1.N.trans (show (if true = true then K11.crnd 0 0 else 0) = 0 by decide)
  have P1 : m1.pl = ⟨[7], 0, 3, 8, 1⟩ := h1.mp.trans (show (if (0 : Int) = 0 then pm ⟨plainC, lb, bb, 1, 1, 0, 9⟩ [7] 0 3 (0 + 1) else z0.pl) = ⟨[7], 0, 3, 8, 1⟩ from rfl)
  have D1 : s1.d.map MV.pl = [⟨[7], 0, 3, 8, 1⟩] := h1.dp.trans (show (if (0 : Int) = 0 then insP [] (pm ⟨plainC, lb, bb, 1, 1, 0, 9⟩ [7] 0 3 (0 + 1)) else []) = [⟨[7], 0, 3, 8, 1⟩] from rfl)
  have HG1 := Lib.hid h1.gt
  clear h1 HO1
  obtain ⟨r1, d1, T, N, q⟩ := s1
  obtain ⟨ma, mw, mc, ml, ms, mt, mq⟩ := m1
  simp only at q1 T1 N1 D1
  simp only [MV.pl, Pm.mk.injEq] at P1
  obtain ⟨rfl, rfl, rfl, rfl, rfl⟩ := P1
  subst q1 T1 N1
  have HCt : Hid (room 1 1 d1 0 = 0) := by
    show room 1 1 d1 0 = 0
    unfold room
    rw [cnt_pl (e := [⟨none, [7], 0, 0, 3, 8, 1⟩]) D1]
    rfl
  have hln : d1.length = 1 := by have := congrArg List.length D1; simpa using this
  have HLn := Lib.hid hln
  clear hln
  have HN4 := Lib.hid (Blk.new w4 43 #[.slice ma 1 mc, .int .i64 0, .int .i64 3, .int .i64 8, .int .i64 1])
  have b5 := b01 w4 (.cells #[.slice ma 1 mc, .int .i64 0, .int .i64 3, .int .i64 8, .int .i64 1] 43)
  have HG2 := Lib.hid (HG1.out.below b5)
  have HFk := Lib.hid (HG1.out.nofl (Nat.le_refl _))
  clear D1 b5 HG HG1
  unfold MV.val
  simp only [List.length_cons, List.length_nil, Nat.zero_add]
  go_upto_region 3 with fail
  obtain ⟨km, hkm⟩ : ∃ km, w4.heap.size = km := ⟨_, rfl⟩
  rw [hkm] at HN4 HFk
  rw [hkm]
  generalize w4.alloc (.cells #[.slice ma 1 mc, .int .i64 0, .int .i64 3, .int .i64 8, .int .i64 1] 43) = W5 at *
  clear hkm
  have b6 := b01 W5 (.cells #[.int .i64 8] 3)
  have HO2 := Lib.hid (offer_any (HG2.out.below b6) (ws := [8]) (c := 1) 0 0 3 0 (HG2.out.ap_new (Row.of_blk (xs := L10.iv [8]) (Blk.new W5 3 #[.int .i64 8]) (fun j u hj => by simpa [L10.iv] using hj)) fun _ q o e => by injection e with e; injection e with e1 _; omega) (Nat.le_refl _) (by decide) (by decide) (by show (0 : Int) ≤ 1; omega) (by show (1 : Int) ≤ 1000000; omega))
  rw [show oc ⟨plainC, lb, bb, 1, 1, 0, 9⟩ ⟨r1, d1, 8, 0, 1⟩ 0 0 [8] 0 = 2 by unfold oc; rw [HCt.out]; rfl, show asks ⟨plainC, lb, bb, 1, 1, 0, 9⟩ ⟨r1, d1, 8, 0, 1⟩ 0 0 [8] = false from decide_eq_false (fun hh => hh.2 HCt.out)] at HO2
  have HN5 := Lib.hid (HN4.out.bel b6)
  have HOf := Lib.hid ((HG2.out.below b6).off HN5.out HFk.out (by decide) (by decide))
  clear b6
  go_wp2_with fail
  refine HO2.out.mono ?_
  rintro e w6 ⟨m2, s2, rfl, h2⟩
  have HN6 := Lib.hid (h2.on.blk HN5.out HOf.out)
  have HP2 := Lib.hid (show m2.pl = ⟨[], 0, 0, 0, 0⟩ from h2.mp)
  have e1 : s2.q = 1 := h2.q
  have e2 : s2.T = 8 := h2.T
  have e3 : s2.N = 0 := h2.N
  have e4 : s2.d.length = 1 := by
    have h := congrArg List.length h2.dp
    rw [List.length_map] at h
    rw [h, if_neg (by decide), List.length_map]
    exact HLn.out
  have b7 := b01 w6 (.cells #[.slice m2.a m2.ws.length m2.c, .int .i64 m2.ln, .int .i64 m2.st, .int .i64 m2.lt, .int .i64 m2.sq] 43)
  have HG7 := Lib.hid (h2.gt.below b7)
  have HN7 := Lib.hid (HN6.out.bel b7)
  have CL := Lib.hid (len_any HG7.out)
  have CT := Lib.hid (tokens_any HG7.out 0)
  rw [e2, e3, show K11.ctok 0 9 8 0 0 = 8 by decide] at CT
  rw [e4] at CL
  have k0 := HN7.out.cell 3
  have k1 := HN7.out.cell 4
  simp only [List.getElem?_toArray, List.getElem?_cons_zero, List.getElem?_cons_succ] at k0 k1
  clear h2 e1 e2 e3 e4 b7 HN5 HN6 HO2
  unfold MV.val
  go_wp2_with (first
    | (go_at_call 26; refine CL.out.mono ?_; rintro e w' ⟨rfl, rfl⟩)
    | (go_at_call 29; refine CT.out.mono ?_; rintro e w8 ⟨rfl, hg8, _⟩))
  go_ret
  exact ⟨rfl, hg8.bl⟩
end Go.Proofs.Ytgmcjkiofcpjbaa.A12
