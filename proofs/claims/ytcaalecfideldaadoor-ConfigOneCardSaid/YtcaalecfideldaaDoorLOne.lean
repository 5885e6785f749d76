/- The walk of ConfigOne. -/
import Derived.Test.YtcaalecfideldaaDoorFew
import Derived.Test.YtcaalecfideldaaDoorGood
import Derived.Test.YtcaalecfideldaaDoorLive
import Derived.Test.YtcaalecfideldaaDoorOne0
import Derived.StillTailTactics
namespace Go.Proofs.YtcaalecfideldaaDoor.configOne
open Go.RowKit Go.Proofs.YtcaalecfideldaaDoor.G Go.Proofs.YtcaalecfideldaaDoor.C04
attribute [local go_sem ↓] Go.wp_at_zero Go.wp_at_succ

theorem cfg_at {w : World} {v : Value} {c : Cfg} (h : CfgAt w v c) : ∃ (A1 A2 A3 : Option Addr) (c1 c2 c3 : Nat), v = .agg #[.int .i64 c.P, .int .i64 c.F, .slice A1 c.ws.length c1, .slice A2 c.cs.length c2, .slice A3 c.ac.length c3] := by
  obtain ⟨A1, A2, A3, c1, c2, c3, e, _⟩ := h; exact ⟨A1, A2, A3, c1, c2, c3, e⟩
set_option maxHeartbeats 4000000 in
set_option maxRecDepth 100000 in
theorem walk {w : World} {u : Value} {c : Cfg} (what at_ : Int) (hg : Et w) (h : CfgAt w u c) :
    Calls Tryd.prog 4 #[u, .int .i64 what, .int .i64 at_] w fun e w' => e = .returned (.bool true) ∧ Below w.heap.size w w' := by
  obtain ⟨A1, A2, A3, c1, c2, c3, rfl⟩ := cfg_at h
  have X0 := Blk.new w 26 #[.int .i64 c.P, .int .i64 c.F, .slice A1 c.ws.length c1, .slice A2 c.cs.length c2, .slice A3 c.ac.length c3]
  have HB := b01 w (.cells #[.int .i64 c.P, .int .i64 c.F, .slice A1 c.ws.length c1, .slice A2 c.cs.length c2, .slice A3 c.ac.length c3] 26)
  have HG := Lib.hid (hg.below HB)
  have HC := Lib.hid h
  have HGw := Lib.hid hg
  clear hg h
  have q0 : 0 ≤ (IntKind.u64.wrap what).tmod 5 := Int.tmod_nonneg _ (by rw [IntKind.wrap_u64]; omega)
  have q1 : (IntKind.u64.wrap what).tmod 5 < 5 := Int.tmod_lt_of_pos _ (by omega)
  obtain ⟨q, hq⟩ : ∃ q, (IntKind.u64.wrap what).tmod 5 = q := ⟨_, rfl⟩
  rw [hq] at q0 q1
  go_enter Tryd.func4, Tryd.ntmps4
  go_wp2_with fail
  refine (lives_any HG.out).mono ?_
  rintro e w1 ⟨rfl, hb1⟩
  have HB1 := bt HB hb1
  have k0 := (X0.bel hb1).cell
  go_wp2_with fail
  refine (few_any HC.out).mono ?_
  rintro e w2 ⟨v2, rfl, hc2, hb2⟩
  have HB2 := bt HB1 hb2
  go_wp2_with fail
  refine (good_any (hc2.below HB2)).mono ?_
  rintro e w3 ⟨v3, g, rfl, ho3, hgood, hb3⟩
  have HB3 := bt HB2 hb3
  obtain ⟨hfl, n1, n2, _, _⟩ := hgood
  have hfn := flt_none hfl
  go_wp2_with fail
  refine (clone_any ho3.at_ (by omega) (by omega) (by omega)).mono ?_
  rintro e w4 ⟨v4, rfl, ho4, hb4⟩
  have HB4 := bt HB3 hb4
  have HG4 := (((HG.out.below hb1).below hb2).below hb3).below hb4
  obtain ⟨gP, gF, ws, cs, ac⟩ := g
  obtain ⟨v1, v2', v3', rfl, o1, o2, o3, hwb⟩ := ho4
  simp only at o1 o2 o3 hfn n1 n2
  obtain ⟨R1, r1, rfl⟩ := own_slice o1
  obtain ⟨R2, r2, rfl⟩ := own_slice o2
  obtain ⟨R3, r3, rfl⟩ := own_slice o3
  have HE := (HG4.alloc (.cells #[.int .i64 gP, .int .i64 gF, .slice R1 ws.length r1, .slice R2 cs.length r2, .slice R3 ac.length r3] 26)).alloc (.cells #[.int .i64 0, .int .i64 0] 33)
  have Z0 := (Blk.new w4 26 #[.int .i64 gP, .int .i64 gF, .slice R1 ws.length r1, .slice R2 cs.length r2, .slice R3 ac.length r3]).alloc (.cells #[.int .i64 0, .int .i64 0] 33)
  have Z1 := Blk.new_at (w := w4.alloc (.cells #[.int .i64 gP, .int .i64 gF, .slice R1 ws.length r1, .slice R2 cs.length r2, .slice R3 ac.length r3] 26)) (n := w4.heap.size + 1) (by simp) 33 #[.int .i64 0, .int .i64 0]
  have p1 := ((o1.less HB3.size).alloc (.cells #[.int .i64 gP, .int .i64 gF, .slice R1 ws.length r1, .slice R2 cs.length r2, .slice R3 ac.length r3] 26)).alloc (.cells #[.int .i64 0, .int .i64 0] 33)
  have p2 := ((o2.less HB3.size).alloc (.cells #[.int .i64 gP, .int .i64 gF, .slice R1 ws.length r1, .slice R2 cs.length r2, .slice R3 ac.length r3] 26)).alloc (.cells #[.int .i64 0, .int .i64 0] 33)
  have p3 := ((o3.less HB3.size).alloc (.cells #[.int .i64 gP, .int .i64 gF, .slice R1 ws.length r1, .slice R2 cs.length r2, .slice R3 ac.length r3] 26)).alloc (.cells #[.int .i64 0, .int .i64 0] 33)
  have HB5 := ba1 (ba1 HB4 (.cells #[.int .i64 gP, .int .i64 gF, .slice R1 ws.length r1, .slice R2 cs.length r2, .slice R3 ac.length r3] 26)) (.cells #[.int .i64 0, .int .i64 0] 33)
  have hbg : w.heap.size ≤ w4.heap.size := HB4.size
  obtain ⟨bg, hbgE⟩ : ∃ b, w4.heap.size = b := ⟨_, rfl⟩
  rw [hbgE] at Z0 Z1 hbg
  clear k0 HB1 HB2 HB3 HB4 HG HG4 X0 HB o1 o2 o3 ho3 hc2 hb1 hb2 hb3 hb4 HC
  go_upto_region 5 with fail
  generalize (w4.alloc (.cells #[.int .i64 gP, .int .i64 gF, .slice R1 ws.length r1, .slice R2 cs.length r2, .slice R3 ac.length r3] 26)).alloc (.cells #[.int .i64 0, .int .i64 0] 33) = W at *
  clear hbgE
  have HO := Lib.hid (And.intro p1 (And.intro p2 p3))
  have HFN := Lib.hid hfn
  have HFL := Lib.hid hfl
  have HWB := Lib.hid hwb
  have HEt := Lib.hid HE
  have m1 : 1 ≤ ws.length := by omega
  have m2 : ac.length ≤ 4 := by omega
  clear p1 p2 p3 hfn hfl hwb HE
  have c0 := Z0.cell
  have c1' := Z1.cell
  have f0 := Z0.frozen
  have f1 := Z1.frozen
  have zl := Z1.lt
  have hcase : q = 0 ∨ q = 1 ∨ q = 2 ∨ q = 3 ∨ q = 4 := by omega
  clear q0 q1
  rcases hcase with rfl | rfl | rfl | rfl | rfl
  · obtain ⟨p1, p2, p3⟩ := HO.out
    have a1 := own_st p1 (own_off p1 Z0 (by decide)) 0 (.int .i64 5)
    have a2 := own_st p2 (own_off p2 Z0 (by decide)) 0 (.int .i64 5)
    have a3 := own_st p3 (own_off p3 Z0 (by decide)) 0 (.int .i64 5)
    have Y1 := Z1.far (p := ⟨bg, 0, none⟩) (by simp) (.int .i64 5)
    have n1' := own_off a1 Y1 (by decide)
    have n2' := own_off a2 Y1 (by decide)
    have n3' := own_off a3 Y1 (by decide)
    have HCx : CfgAt (((W.setCell ⟨bg, 0, none⟩ (.int .i64 5)).setCell ⟨bg + 1, 0, none⟩ (.int .i64 1)).setCell ⟨bg + 1, 1, none⟩ (.int .i64 0)) (.agg #[.int .i64 5, .int .i64 gF, .slice R1 ws.length r1, .slice R2 cs.length r2, .slice R3 ac.length r3]) ⟨5, gF, ws, cs, ac⟩ := CfgOwn.at_ (B := w.heap.size) ⟨_, _, _, rfl, own_st (own_st a1 n1' 0 _) n1' 1 _, own_st (own_st a2 n2' 0 _) n2' 1 _, own_st (own_st a3 n3' 0 _) n3' 1 _, HWB.out⟩
    have HFx := Lib.hid (one_P (c := ⟨5, gF, ws, cs, ac⟩) rfl)
    have Zw : Blk (((W.setCell ⟨bg, 0, none⟩ (.int .i64 5)).setCell ⟨bg + 1, 0, none⟩ (.int .i64 1)).setCell ⟨bg + 1, 1, none⟩ (.int .i64 0)) (bg + 1) 33 #[.int .i64 1, .int .i64 0] := by simpa using (Y1.set_ 0 (.int .i64 1)).set_ 1 (.int .i64 0)
    have HBV : Below w.heap.size w (((W.setCell ⟨bg, 0, none⟩ (.int .i64 5)).setCell ⟨bg + 1, 0, none⟩ (.int .i64 1)).setCell ⟨bg + 1, 1, none⟩ (.int .i64 0)) := ((HB5.setCell hbg _).setCell (Nat.le_succ_of_le hbg) _).setCell (Nat.le_succ_of_le hbg) _
    clear p1 p2 p3 a1 a2 a3 Y1 n1' n2' n3'
    have HCX := Lib.hid HCx
    have HBX := Lib.hid HBV
    have HZX := Lib.hid Zw
    clear HCx HBV Zw
    go_wp2_with fail
    have HE9 := HGw.out.below HBX.out
    have HK := check_any HCX.out HE9
    refine HK.mono ?_
    rintro e w5 ⟨rfl, hb5⟩
    clear HK
    rw [HFx.out]
    unfold chkV
    have qw := (HZX.out.bel hb5).cell
    have zw := (HZX.out.bel hb5).lt
    have HB9 := bt HBX.out hb5
    clear HCX HBX HZX HE9 Z0 Z1 hb5 c0 c1' f0 f1 HB5 HFx HO HFN HFL HWB HEt HGw
    go_wp2
    go_ret
    exact ⟨rfl, ba1 HB9 _⟩
  · obtain ⟨p1, p2, p3⟩ := HO.out
    have a1 := own_st p1 (own_off p1 Z0 (by decide)) 1 (.int .i64 0)
    have a2 := own_st p2 (own_off p2 Z0 (by decide)) 1 (.int .i64 0)
    have a3 := own_st p3 (own_off p3 Z0 (by decide)) 1 (.int .i64 0)
    have Y1 := Z1.far (p := ⟨bg, 1, none⟩) (by simp) (.int .i64 0)
    have n1' := own_off a1 Y1 (by decide)
    have n2' := own_off a2 Y1 (by decide)
    have n3' := own_off a3 Y1 (by decide)
    have HCx : CfgAt (((W.setCell ⟨bg, 1, none⟩ (.int .i64 0)).setCell ⟨bg + 1, 0, none⟩ (.int .i64 2)).setCell ⟨bg + 1, 1, none⟩ (.int .i64 0)) (.agg #[.int .i64 gP, .int .i64 0, .slice R1 ws.length r1, .slice R2 cs.length r2, .slice R3 ac.length r3]) ⟨gP, 0, ws, cs, ac⟩ := CfgOwn.at_ (B := w.heap.size) ⟨_, _, _, rfl, own_st (own_st a1 n1' 0 _) n1' 1 _, own_st (own_st a2 n2' 0 _) n2' 1 _, own_st (own_st a3 n3' 0 _) n3' 1 _, HWB.out⟩
    have HFx := Lib.hid (one_F (c := ⟨gP, 0, ws, cs, ac⟩) HFN.out.1 rfl)
    have Zw : Blk (((W.setCell ⟨bg, 1, none⟩ (.int .i64 0)).setCell ⟨bg + 1, 0, none⟩ (.int .i64 2)).setCell ⟨bg + 1, 1, none⟩ (.int .i64 0)) (bg + 1) 33 #[.int .i64 2, .int .i64 0] := by simpa using (Y1.set_ 0 (.int .i64 2)).set_ 1 (.int .i64 0)
    have HBV : Below w.heap.size w (((W.setCell ⟨bg, 1, none⟩ (.int .i64 0)).setCell ⟨bg + 1, 0, none⟩ (.int .i64 2)).setCell ⟨bg + 1, 1, none⟩ (.int .i64 0)) := ((HB5.setCell hbg _).setCell (Nat.le_succ_of_le hbg) _).setCell (Nat.le_succ_of_le hbg) _
    clear p1 p2 p3 a1 a2 a3 Y1 n1' n2' n3'
    have HCX := Lib.hid HCx
    have HBX := Lib.hid HBV
    have HZX := Lib.hid Zw
    clear HCx HBV Zw
    go_wp2_with fail
    have HE9 := HGw.out.below HBX.out
    have HK := check_any HCX.out HE9
    refine HK.mono ?_
    rintro e w5 ⟨rfl, hb5⟩
    clear HK
    rw [HFx.out]
    unfold chkV
    have qw := (HZX.out.bel hb5).cell
    have zw := (HZX.out.bel hb5).lt
    have HB9 := bt HBX.out hb5
    clear HCX HBX HZX HE9 Z0 Z1 hb5 c0 c1' f0 f1 HB5 HFx HO HFN HFL HWB HEt HGw
    go_wp2
    go_ret
    exact ⟨rfl, ba1 HB9 _⟩
  · obtain ⟨p1, p2, p3⟩ := HO.out
    have hm : IntKind.u64.wrap (ws.length : Int) = (ws.length : Int) := by rw [IntKind.wrap_u64]; omega
    have hz : ((ws.length : Int) == 0) = false := by rw [beq_eq_false_iff_ne]; omega
    have k0 : 0 ≤ (IntKind.u64.wrap at_).tmod (ws.length : Int) := Int.tmod_nonneg _ (by rw [IntKind.wrap_u64]; omega)
    have k1 : (IntKind.u64.wrap at_).tmod (ws.length : Int) < (ws.length : Int) := Int.tmod_lt_of_pos _ (by omega)
    obtain ⟨kk, hkk⟩ : ∃ kk, (IntKind.u64.wrap at_).tmod (ws.length : Int) = kk := ⟨_, rfl⟩
    rw [hkk] at k0 k1
    obtain ⟨k, rfl⟩ := Int.eq_ofNat_of_zero_le k0
    have hk : k < ws.length := by omega
    obtain ⟨x, hx, _⟩ := drop_cons hk
    obtain ⟨A, cc, eA, hrow, _, _, hAB⟩ := p1.row
    injection eA with eA _ e3
    subst eA
    subst e3
    obtain ⟨b, o, rfl, hbl, g0, g1, g2⟩ := row_win hrow hx
    obtain ⟨rfl, hBb, cur, hcur⟩ := hAB b o rfl
    rw [Nat.zero_add] at g0 g1 g2
    have fz := hcur.frozen (k * 3 + 2)
    have hlen : k * 3 + 2 < (wvs ws).length := by rw [wvs_len]; omega
    have a1 := own_set p1 (k * 3 + 2) hlen (.int .i64 0)
    rw [wvs_set ws k x hx 0] at a1
    have a2 := own_st p2 (own_off p2 hcur (by decide)) (k * 3 + 2) (.int .i64 0)
    have a3 := own_st p3 (own_off p3 hcur (by decide)) (k * 3 + 2) (.int .i64 0)
    have Y1 := Z1.far (p := ⟨b, k * 3 + 2, none⟩) (hcur.ne_ Z1 (by decide)).symm (.int .i64 0)
    have n1' := own_off a1 Y1 (by decide)
    have n2' := own_off a2 Y1 (by decide)
    have n3' := own_off a3 Y1 (by decide)
    have ZB := Z0.far (p := ⟨b, k * 3 + 2, none⟩) (fun e => hcur.ne_ Z0 (by decide) e.symm) (.int .i64 0)
    have HBX := HB5.setCell (p := ⟨b, k * 3 + 2, none⟩) hBb (.int .i64 0)
    have HWS : Hid (∀ (j : Nat) (y : Win), (ws.set k ⟨x.o, x.s, 0⟩)[j]? = some y → y.s ≤ 9223372036854775807) := fun j y hy => by
      rw [List.getElem?_set] at hy
      split at hy
      · injection hy with hy; subst hy; exact HWB.out k x hx
      · exact HWB.out j y hy
    have HFx := Lib.hid (one_W HFL.out hk (y := ⟨x.o, x.s, 0⟩) rfl)
    have HK3 := Lib.hid (And.intro a1 (And.intro a2 (And.intro a3 (And.intro n1' (And.intro n2' n3')))))
    have kk0 : (0 : Int) ≤ (k : Int) := by omega
    have kk1 : (k : Int) < (ws.length : Int) := by omega
    clear p1 p2 p3 a1 a2 a3 n1' n2' n3' hrow hAB hcur hx g0 g1 hlen k0 c1' f1 Z1
    go_upto_region 17 with fail
    generalize W.setCell ⟨b, k * 3 + 2, none⟩ (.int .i64 0) = V at *
    clear c0 f0 zl fz k1 kk0 kk1 hk m1 hbl
    obtain ⟨a1, a2, a3, n1', n2', n3'⟩ := HK3.out
    have HCX : Hid (CfgAt ((V.setCell ⟨bg + 1, 0, none⟩ (.int .i64 3)).setCell ⟨bg + 1, 1, none⟩ (.int .i64 k)) (.agg #[.int .i64 gP, .int .i64 gF, .slice (some ⟨b, 0, none⟩) ws.length r1, .slice R2 cs.length r2, .slice R3 ac.length r3]) ⟨gP, gF, ws.set k ⟨x.o, x.s, 0⟩, cs, ac⟩) := CfgOwn.at_ (B := w.heap.size) ⟨_, _, _, rfl, by simpa using own_st (own_st a1 n1' 0 _) n1' 1 _, own_st (own_st a2 n2' 0 _) n2' 1 _, own_st (own_st a3 n3' 0 _) n3' 1 _, HWS.out⟩
    have zx : Blk ((V.setCell ⟨bg + 1, 0, none⟩ (.int .i64 3)).setCell ⟨bg + 1, 1, none⟩ (.int .i64 k)) (bg + 1) 33 #[.int .i64 3, .int .i64 k] := by simpa using (Y1.set_ 0 (.int .i64 3)).set_ 1 (.int .i64 k)
    have HZX := Lib.hid zx
    clear zx
    have HBV : Hid (Below w.heap.size w ((V.setCell ⟨bg + 1, 0, none⟩ (.int .i64 3)).setCell ⟨bg + 1, 1, none⟩ (.int .i64 k))) := (HBX.setCell (Nat.le_succ_of_le hbg) _).setCell (Nat.le_succ_of_le hbg) _
    have qb := ZB.cell
    have q1 := Y1.cell
    have f1 := Y1.frozen
    have z1 := Y1.lt
    clear a1 a2 a3 n1' n2' n3' HK3 Y1 ZB HBX HB5 Z0
    go_wp2_with fail
    have HE9 := HGw.out.below HBV.out
    have HK := check_any HCX.out HE9
    with_reducible refine HK.mono ?_
    rintro e w5 ⟨rfl, hb5⟩
    clear HK
    rw [HFx.out]
    unfold chkV
    have qw := (HZX.out.bel hb5).cell
    have zw := (HZX.out.bel hb5).lt
    have HB9 := bt HBV.out hb5
    clear HCX HBV HZX HE9 hb5 qb q1 f1 z1 HFx HO HFN HFL HWB HEt HGw HWS
    go_wp2
    go_ret
    exact ⟨rfl, ba1 HB9 _⟩
  · obtain ⟨p1, p2, p3⟩ := HO.out
    by_cases hc0 : cs.length = 0
    · have hz : ((cs.length : Int) == 0) = true := by rw [beq_iff_eq]; omega
      clear p1 p2 p3 HO HFN HFL HWB HEt HGw Z0 Z1
      go_wp2_with fail
      go_ret
      exact ⟨rfl, HB5⟩
    have hm : IntKind.u64.wrap (cs.length : Int) = (cs.length : Int) := by rw [IntKind.wrap_u64]; omega
    have hz : ((cs.length : Int) == 0) = false := by rw [beq_eq_false_iff_ne]; omega
    have k0 : 0 ≤ (IntKind.u64.wrap at_).tmod (cs.length : Int) := Int.tmod_nonneg _ (by rw [IntKind.wrap_u64]; omega)
    have k1 : (IntKind.u64.wrap at_).tmod (cs.length : Int) < (cs.length : Int) := Int.tmod_lt_of_pos _ (by omega)
    obtain ⟨kk, hkk⟩ : ∃ kk, (IntKind.u64.wrap at_).tmod (cs.length : Int) = kk := ⟨_, rfl⟩
    rw [hkk] at k0 k1
    obtain ⟨k, rfl⟩ := Int.eq_ofNat_of_zero_le k0
    have hk : k < cs.length := by omega
    obtain ⟨x, hx, _⟩ := drop_cons hk
    obtain ⟨A, cc, eA, hrow, _, _, hAB⟩ := p2.row
    injection eA with eA _ e3
    subst eA
    subst e3
    obtain ⟨b, o, rfl, hbl, hch⟩ := row_chn hrow hx
    obtain ⟨rfl, hBb, cur, hcur⟩ := hAB b o rfl
    rw [Nat.zero_add] at hch
    have g1 := hch.2.1
    have g2 := hch.2.2.1
    have fz := hcur.frozen (k * 11 + 2)
    have hlen : k * 11 + 2 < (cvs cs).length := by rw [cvs_len]; omega
    have a2 := own_set p2 (k * 11 + 2) hlen (.int .i64 x.f)
    rw [cvs_set cs k x hx x.f] at a2
    have a1 := own_st p1 (own_off p1 hcur (by decide)) (k * 11 + 2) (.int .i64 x.f)
    have a3 := own_st p3 (own_off p3 hcur (by decide)) (k * 11 + 2) (.int .i64 x.f)
    have Y1 := Z1.far (p := ⟨b, k * 11 + 2, none⟩) (hcur.ne_ Z1 (by decide)).symm (.int .i64 x.f)
    have n1' := own_off a1 Y1 (by decide)
    have n2' := own_off a2 Y1 (by decide)
    have n3' := own_off a3 Y1 (by decide)
    have ZB := Z0.far (p := ⟨b, k * 11 + 2, none⟩) (fun e => hcur.ne_ Z0 (by decide) e.symm) (.int .i64 x.f)
    have HBX := HB5.setCell (p := ⟨b, k * 11 + 2, none⟩) hBb (.int .i64 x.f)
    have HFx := Lib.hid (one_C HFL.out hk (y := { x with t := x.f }) (by simp [rgt]))
    have HK3 := Lib.hid (And.intro a1 (And.intro a2 (And.intro a3 (And.intro n1' (And.intro n2' n3')))))
    have kk0 : (0 : Int) ≤ (k : Int) := by omega
    have kk1 : (k : Int) < (cs.length : Int) := by omega
    clear p1 p2 p3 a1 a2 a3 n1' n2' n3' hrow hAB hcur hx hlen hch k0 c1' f1 Z1
    go_upto_region 22 with fail
    go_still_tail 11, (by kernel_rfl)
    go_upto_region 23 with fail
    generalize W.setCell ⟨b, k * 11 + 2, none⟩ (.int .i64 x.f) = V at *
    clear c0 f0 zl fz k1 kk0 kk1 hk m1 hbl g1 g2
    obtain ⟨a1, a2, a3, n1', n2', n3'⟩ := HK3.out
    have hcx : CfgAt ((V.setCell ⟨bg + 1, 0, none⟩ (.int .i64 4)).setCell ⟨bg + 1, 1, none⟩ (.int .i64 k)) (.agg #[.int .i64 gP, .int .i64 gF, .slice R1 ws.length r1, .slice (some ⟨b, 0, none⟩) cs.length r2, .slice R3 ac.length r3]) ⟨gP, gF, ws, cs.set k { x with t := x.f }, ac⟩ := CfgOwn.at_ (B := w.heap.size) ⟨_, _, _, rfl, own_st (own_st a1 n1' 0 _) n1' 1 _, by simpa using own_st (own_st a2 n2' 0 _) n2' 1 _, own_st (own_st a3 n3' 0 _) n3' 1 _, HWB.out⟩
    have HCX : Hid (CfgAt (((V.setCell ⟨bg + 1, 0, none⟩ (.int .i64 4)).setCell ⟨bg + 1, 1, none⟩ (.int .i64 k)).drew) (.agg #[.int .i64 gP, .int .i64 gF, .slice R1 ws.length r1, .slice (some ⟨b, 0, none⟩) cs.length r2, .slice R3 ac.length r3]) ⟨gP, gF, ws, cs.set k { x with t := x.f }, ac⟩) := hcx
    clear hcx
    have zx : Blk (((V.setCell ⟨bg + 1, 0, none⟩ (.int .i64 4)).setCell ⟨bg + 1, 1, none⟩ (.int .i64 k)).drew) (bg + 1) 33 #[.int .i64 4, .int .i64 k] := by
      have zy : Blk ((V.setCell ⟨bg + 1, 0, none⟩ (.int .i64 4)).setCell ⟨bg + 1, 1, none⟩ (.int .i64 k)) (bg + 1) 33 #[.int .i64 4, .int .i64 k] := by simpa using (Y1.set_ 0 (.int .i64 4)).set_ 1 (.int .i64 k)
      exact zy
    have HZX := Lib.hid zx
    clear zx
    have HBV : Hid (Below w.heap.size w (((V.setCell ⟨bg + 1, 0, none⟩ (.int .i64 4)).setCell ⟨bg + 1, 1, none⟩ (.int .i64 k)).drew)) := ((HBX.setCell (Nat.le_succ_of_le hbg) _).setCell (Nat.le_succ_of_le hbg) _).drew
    have qb := ZB.cell
    have q1 := Y1.cell
    have f1 := Y1.frozen
    have z1 := Y1.lt
    clear a1 a2 a3 n1' n2' n3' HK3 Y1 ZB HBX HB5 Z0
    go_wp2_with fail
    have HE9 := HGw.out.below HBV.out
    have HK := check_any HCX.out HE9
    with_reducible refine HK.mono ?_
    rintro e w5 ⟨rfl, hb5⟩
    clear HK
    rw [HFx.out]
    unfold chkV
    have qw := (HZX.out.bel hb5).cell
    have zw := (HZX.out.bel hb5).lt
    have HB9 := bt HBV.out hb5
    clear HCX HBV HZX HE9 hb5 qb q1 f1 z1 HFx HO HFN HFL HWB HEt HGw
    go_wp2
    go_ret
    exact ⟨rfl, ba1 HB9 _⟩
  · obtain ⟨p1, p2, p3⟩ := HO.out
    have m3 : 1 ≤ ac.length := by
      obtain ⟨x1, _, _, _, _, _, x2, _⟩ := HFN.out
      omega
    have hm : IntKind.u64.wrap (ac.length : Int) = (ac.length : Int) := by rw [IntKind.wrap_u64]; omega
    have hz : ((ac.length : Int) == 0) = false := by rw [beq_eq_false_iff_ne]; omega
    have k0 : 0 ≤ (IntKind.u64.wrap at_).tmod (ac.length : Int) := Int.tmod_nonneg _ (by rw [IntKind.wrap_u64]; omega)
    have k1 : (IntKind.u64.wrap at_).tmod (ac.length : Int) < (ac.length : Int) := Int.tmod_lt_of_pos _ (by omega)
    obtain ⟨kk, hkk⟩ : ∃ kk, (IntKind.u64.wrap at_).tmod (ac.length : Int) = kk := ⟨_, rfl⟩
    rw [hkk] at k0 k1
    obtain ⟨k, rfl⟩ := Int.eq_ofNat_of_zero_le k0
    have hk : k < ac.length := by omega
    obtain ⟨x, hx, _⟩ := drop_cons hk
    obtain ⟨A, cc, eA, hrow, _, _, hAB⟩ := p3.row
    injection eA with eA _ e3
    subst eA
    subst e3
    obtain ⟨b, o, rfl, hbl, g0⟩ := row_int hrow hx
    obtain ⟨rfl, hBb, cur, hcur⟩ := hAB b o rfl
    rw [Nat.zero_add] at g0
    have fz := hcur.frozen k
    have hlen : k < (ivs ac).length := by rw [ivs_len]; omega
    have a3 := own_set p3 k hlen (.int .i64 (-1))
    rw [ivs_set ac k (-1)] at a3
    have a1 := own_st p1 (own_off p1 hcur (by decide)) k (.int .i64 (-1))
    have a2 := own_st p2 (own_off p2 hcur (by decide)) k (.int .i64 (-1))
    have Y1 := Z1.far (p := ⟨b, k, none⟩) (hcur.ne_ Z1 (by decide)).symm (.int .i64 (-1))
    have n1' := own_off a1 Y1 (by decide)
    have n2' := own_off a2 Y1 (by decide)
    have n3' := own_off a3 Y1 (by decide)
    have ZB := Z0.far (p := ⟨b, k, none⟩) (fun e => hcur.ne_ Z0 (by decide) e.symm) (.int .i64 (-1))
    have HBX := HB5.setCell (p := ⟨b, k, none⟩) hBb (.int .i64 (-1))
    have HFx := Lib.hid (one_A HFL.out hk (y := -1) rfl)
    have HK3 := Lib.hid (And.intro a1 (And.intro a2 (And.intro a3 (And.intro n1' (And.intro n2' n3')))))
    have kk0 : (0 : Int) ≤ (k : Int) := by omega
    have kk1 : (k : Int) < (ac.length : Int) := by omega
    clear p1 p2 p3 a1 a2 a3 n1' n2' n3' hrow hAB hcur hx hlen k0 c1' f1 Z1
    go_upto_region 29 with fail
    generalize W.setCell ⟨b, k, none⟩ (.int .i64 (-1)) = V at *
    clear c0 f0 zl fz k1 kk0 kk1 hk m1 hbl m2 m3
    obtain ⟨a1, a2, a3, n1', n2', n3'⟩ := HK3.out
    have HCX : Hid (CfgAt ((V.setCell ⟨bg + 1, 0, none⟩ (.int .i64 5)).setCell ⟨bg + 1, 1, none⟩ (.int .i64 k)) (.agg #[.int .i64 gP, .int .i64 gF, .slice R1 ws.length r1, .slice R2 cs.length r2, .slice (some ⟨b, 0, none⟩) ac.length r3]) ⟨gP, gF, ws, cs, ac.set k (-1)⟩) := CfgOwn.at_ (B := w.heap.size) ⟨_, _, _, rfl, own_st (own_st a1 n1' 0 _) n1' 1 _, own_st (own_st a2 n2' 0 _) n2' 1 _, by simpa using own_st (own_st a3 n3' 0 _) n3' 1 _, HWB.out⟩
    have zx : Blk ((V.setCell ⟨bg + 1, 0, none⟩ (.int .i64 5)).setCell ⟨bg + 1, 1, none⟩ (.int .i64 k)) (bg + 1) 33 #[.int .i64 5, .int .i64 k] := by simpa using (Y1.set_ 0 (.int .i64 5)).set_ 1 (.int .i64 k)
    have HZX := Lib.hid zx
    clear zx
    have HBV : Hid (Below w.heap.size w ((V.setCell ⟨bg + 1, 0, none⟩ (.int .i64 5)).setCell ⟨bg + 1, 1, none⟩ (.int .i64 k))) := (HBX.setCell (Nat.le_succ_of_le hbg) _).setCell (Nat.le_succ_of_le hbg) _
    have qb := ZB.cell
    have q1 := Y1.cell
    have f1 := Y1.frozen
    have z1 := Y1.lt
    clear a1 a2 a3 n1' n2' n3' HK3 Y1 ZB HBX HB5 Z0
    go_wp2_with fail
    have HE9 := HGw.out.below HBV.out
    have HK := check_any HCX.out HE9
    with_reducible refine HK.mono ?_
    rintro e w5 ⟨rfl, hb5⟩
    clear HK
    rw [HFx.out]
    unfold chkV
    have qw := (HZX.out.bel hb5).cell
    have zw := (HZX.out.bel hb5).lt
    have HB9 := bt HBV.out hb5
    clear HCX HBV HZX HE9 hb5 qb q1 f1 z1 HFx HO HFN HFL HWB HEt HGw
    go_wp2
    go_ret
    exact ⟨rfl, ba1 HB9 _⟩
end Go.Proofs.YtcaalecfideldaaDoor.configOne
