/- GateLate, walked. -/
import Derived.Test.YtgmcjkiofcpjbaaAPut
namespace Go.Proofs.Ytgmcjkiofcpjbaa.gateLate
open Go.RowKit Go.Proofs.Ytgmcjkiofcpjbaa.G Go.Proofs.Ytgmcjkiofcpjbaa.L10 Go.Proofs.Ytgmcjkiofcpjbaa.C04 Go.Proofs.Ytgmcjkiofcpjbaa.A12
set_option maxRecDepth 100000
variable {w w' : World} {g : Nat} {a : Ga} {y : Chn}
set_option maxHeartbeats 4000000 in
theorem walk (k : Chn) (now after : Int) (w : World) : Calls Try.prog 9 #[k.val, .int .i64 now, .int .i64 after] w fun e w' => e = .returned (.bool true) ∧ Below w.heap.size w w' := by
  obtain ⟨t, ht, t0, t1⟩ : ∃ t, (IntKind.u64.wrap now).tmod 1000000 = t ∧ 0 ≤ t ∧ t < 1000000 := ⟨_, rfl, modU_bd now 1000000 (by decide)⟩
  obtain ⟨n, hn, n0, n1⟩ : ∃ n, (IntKind.u64.wrap after).tmod 100 = n ∧ 0 ≤ n ∧ n < 100 := ⟨_, rfl, modU_bd after 100 (by decide)⟩
  have HT := Lib.hid (And.intro ht hn)
  clear ht hn
  have b0 := b01 w (.cells #[.int .i64 k.k, .int .i64 k.f, .int .i64 k.t, .int .i64 k.w, .int .i64 k.r, .int .i64 k.la, .int .i64 k.d, .int .i64 k.h, .int .i64 k.li, .int .i64 k.ra, .int .i64 k.c] 23)
  have HN := Lib.hid (Blk.new w 23 #[.int .i64 k.k, .int .i64 k.f, .int .i64 k.t, .int .i64 k.w, .int .i64 k.r, .int .i64 k.la, .int .i64 k.d, .int .i64 k.h, .int .i64 k.li, .int .i64 k.ra, .int .i64 k.c])
  have HB := Lib.hid b0
  have HGd := Lib.hid (fun V => good12_any k V)
  unfold Chn.val at *
  clear b0
  go_enter Try.func9, Try.ntmps9
  go_wp2_with fail
  refine (lives_any _).mono ?_
  rintro e w1 ⟨rfl, hb1⟩
  have HN1 := Lib.hid (HN.out.bel hb1)
  have HB1 := Lib.hid (bt HB.out hb1)
  obtain ⟨ks, hks⟩ : ∃ ks, w.heap.size = ks := ⟨_, rfl⟩
  have HKS : Hid (w.heap.size ≤ ks) := Nat.le_of_eq hks
  rw [hks] at HN1
  rw [hks]
  clear hb1 HN HB hks
  have q0 := HN1.out.cell
  go_wp2_with fail
  refine (HGd.out _).mono ?_
  rintro e w2 ⟨y, rfl, hy, hb2⟩
  have HY := Lib.hid hy
  have HN2 := Lib.hid (HN1.out.bel hb2)
  have HB2 := Lib.hid (bt HB1.out hb2)
  clear q0 hy hb2 HN1 HB1 HGd
  unfold Chn.val
  have q0 := HN2.out.cell
  have f0 := HN2.out.frozen
  go_upto_region 4 with fail
  have HN3 := Lib.hid (put11 HN2.out (.int .i64 y.k) (.int .i64 y.f) (.int .i64 y.t) (.int .i64 y.w) (.int .i64 y.r) (.int .i64 y.la) (.int .i64 y.d) (.int .i64 y.h) (.int .i64 y.li) (.int .i64 y.ra) (.int .i64 y.c))
  have HB3 := Lib.hid (bel11 HB2.out HKS.out (.int .i64 y.k) (.int .i64 y.f) (.int .i64 y.t) (.int .i64 y.w) (.int .i64 y.r) (.int .i64 y.la) (.int .i64 y.d) (.int .i64 y.h) (.int .i64 y.li) (.int .i64 y.ra) (.int .i64 y.c))
  clear q0 f0 HN2 HB2
  generalize (((((((((((w2.setCell ⟨ks, 0, none⟩ (.int .i64 y.k)).setCell ⟨ks, 1, none⟩ (.int .i64 y.f)).setCell ⟨ks, 2, none⟩ (.int .i64 y.t)).setCell ⟨ks, 3, none⟩ (.int .i64 y.w)).setCell ⟨ks, 4, none⟩ (.int .i64 y.r)).setCell ⟨ks, 5, none⟩ (.int .i64 y.la)).setCell ⟨ks, 6, none⟩ (.int .i64 y.d)).setCell ⟨ks, 7, none⟩ (.int .i64 y.h)).setCell ⟨ks, 8, none⟩ (.int .i64 y.li)).setCell ⟨ks, 9, none⟩ (.int .i64 y.ra)).setCell ⟨ks, 10, none⟩ (.int .i64 y.c)) = W3 at *
  have q0 := HN3.out.cell
  have HNw := Lib.hid (new_any y W3)
  unfold Chn.val at HNw
  go_wp2_with fail
  refine HNw.out.mono ?_
  rintro e w4 ⟨g, a, rfl, hg, hf⟩
  have HG := Lib.hid (hg.old HB3.out)
  have HF := Lib.hid hf
  have HN4 := Lib.hid (HN3.out.bel (hg.below (Below.refl _ _)).bl)
  clear q0 hg hf HN3 HNw
  have ht := HT.out.1
  go_wp2_with fail
  have HO := Lib.hid (offer_one HG.out 5 0 0 t 0 (by show (0 : Int) ≤ 0; omega) (by show (0 : Int) ≤ 1000000; omega))
  obtain ⟨e1, e2⟩ := oc_new HG.out HF.out HY.out 5 (by omega) (by omega) 0
  rw [e1, e2] at HO
  have HM : Hid (pm a [5] 0 t ((s0 a).q + 1) = ⟨[5], 0, t, t + y.li, 1⟩) := by
    show Pm.mk [5] 0 (Sat.cut t) (Sat.add (Sat.cut t) a.k.li) (0 + 1) = _
    rw [HF.out.ch, add_small t0 (by omega) (by have := HY.out.li; omega) (by have := HY.out.li; omega), Sat.cut_id t t0 (by omega)]
    rfl
  clear e1 e2
  refine HO.out.mono ?_
  rintro e w5 ⟨m, s', rfl, h5⟩
  have HX := Lib.hid (h5.on.blk (HN4.out.alloc (.cells #[.int .i64 5] 3)) ((HG.out.alloc _).off2 (HN4.out.alloc (.cells #[.int .i64 5] 3)) (by decide) (by decide) (by decide) (by decide)))
  have e1 : m.pl = ⟨[5], 0, t, t + y.li, 1⟩ := h5.mp.trans HM.out
  have e4 : s'.d.map MV.pl = [⟨[5], 0, t, t + y.li, 1⟩] := h5.dp.trans (show insP [] (pm a [5] 0 t ((s0 a).q + 1)) = _ by rw [HM.out]; rfl)
  obtain ⟨x, e2, e3⟩ := pl_one e4
  obtain ⟨xa, xc, rfl⟩ := pl_eq e3
  obtain ⟨ma, mc, rfl⟩ := pl_eq e1
  have hwm := h5.wo
  have hy0 := HY.out.li
  have b6 := b01 w5 (.cells #[.slice ma 1 mc, .int .i64 0, .int .i64 t, .int .i64 (t + y.li), .int .i64 1] 43)
  have HM6 := Lib.hid (Blk.new w5 43 #[.slice ma 1 mc, .int .i64 0, .int .i64 t, .int .i64 (t + y.li), .int .i64 1])
  have HNF := Lib.hid (h5.gt.nofl (Nat.le_refl _))
  have HG6 := Lib.hid (h5.gt.below b6)
  have HX6 := Lib.hid (HX.out.bel b6)
  have HW6 := Lib.hid (hwm.below b6)
  clear e4 e3 h5 b6 HX hwm HO HN4
  unfold MV.val
  simp only [List.length_cons, List.length_nil, Nat.zero_add]
  have hn := HT.out.2
  go_upto_region 7 with fail
  obtain ⟨km, hkm⟩ : ∃ km, w5.heap.size = km := ⟨_, rfl⟩
  rw [hkm] at HM6 HNF
  rw [hkm]
  generalize w5.alloc (.cells #[.slice ma 1 mc, .int .i64 0, .int .i64 t, .int .i64 (t + y.li), .int .i64 1] 43) = W6 at *
  clear hkm
  obtain ⟨r', d', T', N', q'⟩ := s'
  simp only at e2
  subst e2
  have HS := Lib.hid (A12.sweep_any HG6.out (t + n))
  simp only [List.filter_cons, List.filter_nil, late_small (x := t + n) (z := t + y.li) (by omega) (by omega) (by omega) (by omega)] at HS
  have HOf := Lib.hid (HG6.out.off HM6.out HNF.out (by decide) (by decide))
  have HOx := Lib.hid (HG6.out.off2 HX6.out (by decide) (by decide) (by decide) (by decide))
  by_cases hln : y.li ≤ n
  · rw [decide_eq_true (show t + y.li ≤ t + n by omega)] at HS
    simp only [if_true, Bool.not_true, Bool.false_eq_true, if_false] at HS
    unfold A12.OuP at HS
    simp only [List.length_cons, List.length_nil, Nat.zero_add] at HS
    have hq : decide (n ≥ y.li) = true := decide_eq_true hln
    go_wp2_with fail
    refine HS.out.mono ?_
    rintro e w7 ⟨A7, c7, r7, rfl, hr7, hw7, hg7, ho7, hn7⟩
    obtain ⟨b7, o7, rfl, hb7, k0, k1, k2, k3, k4⟩ := row_msg hr7 (k := 0) (m := (⟨xa, [5], xc, 0, t, t + y.li, 1⟩ : MV)) rfl
    have HM7 := Lib.hid (ho7.blk HM6.out HOf.out)
    have HX7 := Lib.hid (ho7.blk HX6.out HOx.out)
    have HB7 := Lib.hid hg7.bl
    have HW7 := Lib.hid ((HW6.out.only ho7 fun q cs hq => HG6.out.off2 hq (by decide) (by decide) (by decide) (by decide)).wr)
    have HWx := Lib.hid (hw7 (⟨xa, [5], xc, 0, t, t + y.li, 1⟩ : MV) (List.mem_singleton.2 rfl))
    have h0 : o7 + 0 * 5 = o7 := by omega
    rw [h0] at k0 k1 k2 k3 k4
    clear h0
    have HS7 : Hid (∀ V, Below w7.heap.size w7 V → ((∀ i, V.cell? ⟨ks, i, none⟩ = (#[.int .i64 y.k, .int .i64 y.f, .int .i64 y.t, .int .i64 y.w, .int .i64 y.r, .int .i64 y.la, .int .i64 y.d, .int .i64 y.h, .int .i64 y.li, .int .i64 y.ra, .int .i64 y.c] : Array Value)[i]?) ∧ (∀ i, V.cell? ⟨km, i, none⟩ = (#[.slice ma 1 mc, .int .i64 0, .int .i64 t, .int .i64 (t + y.li), .int .i64 1] : Array Value)[i]?) ∧ V.cell? ⟨b7, o7, none⟩ = some (.slice xa 1 xc) ∧ V.cell? ⟨b7, o7 + 1, none⟩ = some (.int .i64 0) ∧ V.cell? ⟨b7, o7 + 2, none⟩ = some (.int .i64 t) ∧ V.cell? ⟨b7, o7 + 3, none⟩ = some (.int .i64 (t + y.li)) ∧ V.cell? ⟨b7, o7 + 4, none⟩ = some (.int .i64 1))) := fun V hV => ⟨(HX7.out.bel hV).cell, (HM7.out.bel hV).cell, (hV.cell (p := ⟨b7, o7, none⟩) hb7).trans k0, (hV.cell (p := ⟨b7, o7 + 1, none⟩) hb7).trans k1, (hV.cell (p := ⟨b7, o7 + 2, none⟩) hb7).trans k2, (hV.cell (p := ⟨b7, o7 + 3, none⟩) hb7).trans k3, (hV.cell (p := ⟨b7, o7 + 4, none⟩) hb7).trans k4⟩
    have CL : Hid (∀ V, Below w7.heap.size w7 V → Calls Try.prog 26 #[.pointer (some ⟨g, 0, none⟩)] V fun e w' => e = .returned (.int .i64 0) ∧ V = w') := fun V hV => A12.len_any (hg7.below hV)
    have CO : Hid (∀ V, Below w7.heap.size w7 V → Calls Try.prog 19 #[(⟨xa, [5], xc, 0, t, t + y.li, 1⟩ : MV).val, (⟨ma, [5], mc, 0, t, t + y.li, 1⟩ : MV).val] V fun e w' => e = .returned (.bool true) ∧ Below V.heap.size V w') := fun V hV => (one_any (HWx.out.below hV) (HW7.out.below hV)).mono fun e w' ⟨he, hg⟩ => ⟨by rw [he]; exact congrArg (fun b => Ending.returned (Value.bool b)) (decide_eq_true rfl), hg.below⟩
    unfold MV.val at CO
    simp only [List.length_cons, List.length_nil, Nat.zero_add] at CO
    have S0 : Below w7.heap.size w7 w7.drew := (Below.refl _ _).drew
    have q0 := HX7.out.cell
    clear ho7 hn7 hw7 hr7 hg7 hb7 HM7 HX7
    go_upto_region 10 with fail
    clear q0 k0 k1 k2 k3 k4
    have tt : (t == t) = true := by simp
    have tl : (t + y.li == t + y.li) = true := by simp
    have twl : IntKind.i64.wrap (t + y.li) = t + y.li := by rw [IntKind.wrap_i64]; omega
    go_region_held3 (fun V => (∀ i, V.cell? ⟨ks, i, none⟩ = (#[.int .i64 y.k, .int .i64 y.f, .int .i64 y.t, .int .i64 y.w, .int .i64 y.r, .int .i64 y.la, .int .i64 y.d, .int .i64 y.h, .int .i64 y.li, .int .i64 y.ra, .int .i64 y.c] : Array Value)[i]?) ∧ (∀ i, V.cell? ⟨km, i, none⟩ = (#[.slice ma 1 mc, .int .i64 0, .int .i64 t, .int .i64 (t + y.li), .int .i64 1] : Array Value)[i]?) ∧ V.cell? ⟨b7, o7, none⟩ = some (.slice xa 1 xc) ∧ V.cell? ⟨b7, o7 + 1, none⟩ = some (.int .i64 0) ∧ V.cell? ⟨b7, o7 + 2, none⟩ = some (.int .i64 t) ∧ V.cell? ⟨b7, o7 + 3, none⟩ = some (.int .i64 (t + y.li)) ∧ V.cell? ⟨b7, o7 + 4, none⟩ = some (.int .i64 1)) (first | (with_reducible exact HS7.out _ S0) | fail)
      (first
        | (go_at_call 26; (with_reducible refine (CL.out _ S0).mono ?_); rintro e w8 ⟨rfl, rfl⟩)
        | (go_at_call 19; (with_reducible refine (CO.out _ S0).mono ?_); rintro e w8 ⟨rfl, hb8⟩; have S0 := bt S0 hb8)
        | fail)
    go_wp2_with fail
    go_ret
    exact ⟨rfl, bt HB7.out S0⟩
  · rw [decide_eq_false (show ¬ t + y.li ≤ t + n by omega)] at HS
    simp only [if_true, Bool.not_false, Bool.false_eq_true, if_false] at HS
    unfold A12.OuP at HS
    simp only [List.length_cons, List.length_nil, Nat.zero_add] at HS
    have hq : decide (n ≥ y.li) = false := decide_eq_false hln
    go_wp2_with fail
    refine HS.out.mono ?_
    rintro e w7 ⟨A7, c7, r7, rfl, hr7, hw7, hg7, ho7, hn7⟩
    have HM7 := Lib.hid (ho7.blk HM6.out HOf.out)
    have HX7 := Lib.hid (ho7.blk HX6.out HOx.out)
    have HB7 := Lib.hid hg7.bl
    have HS7 : Hid (∀ V, Below w7.heap.size w7 V → ((∀ i, V.cell? ⟨ks, i, none⟩ = (#[.int .i64 y.k, .int .i64 y.f, .int .i64 y.t, .int .i64 y.w, .int .i64 y.r, .int .i64 y.la, .int .i64 y.d, .int .i64 y.h, .int .i64 y.li, .int .i64 y.ra, .int .i64 y.c] : Array Value)[i]?) ∧ (∀ i, V.cell? ⟨km, i, none⟩ = (#[.slice ma 1 mc, .int .i64 0, .int .i64 t, .int .i64 (t + y.li), .int .i64 1] : Array Value)[i]?))) := fun V hV => ⟨(HX7.out.bel hV).cell, (HM7.out.bel hV).cell⟩
    have CL : Hid (∀ V, Below w7.heap.size w7 V → Calls Try.prog 26 #[.pointer (some ⟨g, 0, none⟩)] V fun e w' => e = .returned (.int .i64 1) ∧ V = w') := fun V hV => A12.len_any (hg7.below hV)
    have S0 : Below w7.heap.size w7 w7.drew := (Below.refl _ _).drew
    have q0 := HX7.out.cell
    clear ho7 hn7 hw7 hr7 hg7 HM7 HX7
    go_upto_region 10 with fail
    clear q0
    have tt : (t == t) = true := by simp
    have tl : (t + y.li == t + y.li) = true := by simp
    have twl : IntKind.i64.wrap (t + y.li) = t + y.li := by rw [IntKind.wrap_i64]; omega
    have z0 : (false == false) = true := rfl
    have z1 : (!false) = true := rfl
    have z2 : ((0 : Int) == 1) = false := rfl
    have z3 : ((1 : Int) == 0) = false := rfl
    have q0 := HS7.out w7 (Below.refl _ _)
    obtain ⟨q1, q2⟩ := q0
    go_quiet (first | (go_at_call 26; exact K11.quiet_left (CL.out _ (bn (Below.refl _ _) _))) | fail)
    go_wp2_with fail
    go_ret
    exact ⟨rfl, bt HB7.out (bn (Below.refl _ _) nq)⟩
end Go.Proofs.Ytgmcjkiofcpjbaa.gateLate
