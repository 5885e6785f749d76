/- Texts laid together: Dec, Dec2. -/
import Derived.Test.YtfbbgoahipejlabDoorPR8
import Derived.Test.YtfbbgoahipejlabDoorLiv
import Derived.Deep.DeepCutAuto
import Derived.Deep.CutRange
import Derived.Deep.CutBlock
import Derived.Test.YtfbbgoahipejlabDoorLSam
/- table.Decode: the config of any bytes. -/
namespace Go.Proofs.YtfbbgoahipejlabDoor.T
open Go.RowKit Go.Proofs.YtfbbgoahipejlabDoor.G Go.Proofs.YtfbbgoahipejlabDoor.C04

def opE (l : List UInt8) : Int := if W.openE l = 0 then (if (W.openL l).length < 2 then 9 else if W.nxV (W.openL l) 0 1 = 231 ∧ W.nxV (rl [1] (W.openL l) 0) (re [1] (W.openL l) 0) 1 = 1 then 0 else 8) else W.openE l
def OpPost (w : World) (l : List UInt8) (e : Ending) (w' : World) : Prop := Below w.heap.size w w' ∧ ((opE l ≠ 0 ∧ e = .returned (.tuple #[.pointer none, .int .i64 (opE l)])) ∨ (opE l = 0 ∧ ∃ br, e = .returned (.tuple #[.pointer (some ⟨br, 0, none⟩), .int .i64 0]) ∧ w.heap.size ≤ br ∧ W.Rdr w' br (rl [1, 1] (W.openL l) 0) (re [1, 1] (W.openL l) 0)))
set_option maxHeartbeats 2000000 in
set_option maxRecDepth 100000 in
theorem open_rd {w : World} {A : Option Addr} {c : Nat} {l : List UInt8} (hr : W.Rd w A l) (hl : l.length ≤ 2048) (hc : l.length ≤ c) : Calls Tryd.prog 58 #[.slice A l.length c] w (OpPost w l) := by
  have HK := Lib.hid (W.open_any hr hl hc)
  obtain ⟨e0, he0⟩ : ∃ x, W.openE l = x := ⟨_, rfl⟩
  obtain ⟨p, hp⟩ : ∃ x, W.openL l = x := ⟨_, rfl⟩
  have hpl : p.length ≤ 2048 := by rw [← hp]; exact Nat.le_trans (W.openL_length l) hl
  have HE := Lib.hid (And.intro he0 hp)
  clear hr he0 hp
  by_cases h0 : e0 = 0
  · subst h0
    by_cases h2 : p.length < 2
    · have HO : Hid (opE l = 9) := by show opE l = 9; rw [opE, HE.out.1, HE.out.2, if_pos rfl, if_pos h2]
      have t2 : (p.length : Int) < 2 := by omega
      go_enter Tryd.func58, Tryd.ntmps58
      go_wp2_with (first
        | (go_at_call 94; refine HK.out.mono ?_; rintro e w1 ⟨x1, rfl, hx1, hb1⟩; rw [HE.out.1]; rw [HE.out.2] at hx1; obtain ⟨A1, c1, rfl, hr1, _, _, _⟩ := hx1.rd; have HR1 := Lib.hid hr1; clear hr1 hx1)
        | (go_at_call 95; (with_reducible refine (W.read_any HR1.out (Nat.le_trans hpl (by omega))).mono ?_); rintro e w2 ⟨br, rfl, hbr, hrd, hb2⟩; have HRD := Lib.hid hrd; clear hrd)
        | (go_at_call 96; (with_reducible refine (W.left_any HRD.out).mono ?_); rintro e w' ⟨rfl, rfl⟩))
      go_ret2
      exact ⟨bt hb1 hb2, .inl ⟨by rw [HO.out]; decide, by rw [HO.out]; rfl⟩⟩
    · have t2 : ¬ (p.length : Int) < 2 := by omega
      obtain ⟨y0, hy0⟩ : ∃ y, W.nxV p 0 1 = y := ⟨_, rfl⟩
      obtain ⟨y1, hy1⟩ : ∃ y, W.nxV (rl [1] p 0) (re [1] p 0) 1 = y := ⟨_, rfl⟩
      have HO : Hid (opE l = if y0 = 231 ∧ y1 = 1 then 0 else 8) := by show opE l = _; rw [opE, HE.out.1, HE.out.2, if_pos rfl, if_neg h2, hy0, hy1]
      have HY := Lib.hid (And.intro hy0 hy1)
      clear hy0 hy1
      go_enter Tryd.func58, Tryd.ntmps58
      go_upto_region 7 with (first
        | (go_at_call 94; refine HK.out.mono ?_; rintro e w1 ⟨x1, rfl, hx1, hb1⟩; rw [HE.out.1]; rw [HE.out.2] at hx1; obtain ⟨A1, c1, rfl, hr1, _, _, _⟩ := hx1.rd; have HR1 := Lib.hid hr1; clear hr1 hx1)
        | (go_at_call 95; (with_reducible refine (W.read_any HR1.out (Nat.le_trans hpl (by omega))).mono ?_); rintro e w2 ⟨br, rfl, hbr, hrd, hb2⟩; have HRD := Lib.hid hrd; clear hrd)
        | (go_at_call 96; (with_reducible refine (W.left_any HRD.out).mono ?_); rintro e w' ⟨rfl, rfl⟩))
      have HBB : Below w.heap.size w w2 := bt hb1 hb2
      have hbw : w.heap.size ≤ br := Nat.le_trans hb1.size hbr
      by_cases c0 : y0 = 231
      · subst c0
        by_cases c1' : y1 = 1
        · subst c1'
          go_wp2_with (first
            | (go_at_call 61; (with_reducible refine (W.next_any HRD.out (Nat.le_trans hpl (by omega)) 1).mono ?_); rintro r w3 ⟨rfl, hr3, hg3⟩; rw [HY.out.1]; have HR3 := Lib.hid hr3; have hl3 := Nat.le_trans (W.nxL_length p 0 1) hpl; clear hr3 HRD)
            | (go_at_call 61; (with_reducible refine (W.next_any HR3.out (Nat.le_trans hl3 (by omega)) 1).mono ?_); rintro r w4 ⟨rfl, hr4, hg4⟩; have hv : W.nxV (W.nxL p 0 1) (W.nxE p 0 1) 1 = 1 := HY.out.2; rw [hv]; have HR4 := Lib.hid hr4; clear hr4))
          go_ret2
          refine ⟨gbelow (gbelow HBB hg3 hbw) hg4 hbw, .inr ⟨by rw [HO.out]; simp, br, rfl, hbw, ?_⟩⟩
          rw [HE.out.2]; exact HR4.out
        · have t1 : (y1 != 1) = true := by simpa using c1'
          have HC := Lib.hid c1'
          clear c1'
          go_wp2_with (first
            | (go_at_call 61; (with_reducible refine (W.next_any HRD.out (Nat.le_trans hpl (by omega)) 1).mono ?_); rintro r w3 ⟨rfl, hr3, hg3⟩; rw [HY.out.1]; have HR3 := Lib.hid hr3; have hl3 := Nat.le_trans (W.nxL_length p 0 1) hpl; clear hr3 HRD)
            | (go_at_call 61; (with_reducible refine (W.next_any HR3.out (Nat.le_trans hl3 (by omega)) 1).mono ?_); rintro r w4 ⟨rfl, hr4, hg4⟩; have hv : W.nxV (W.nxL p 0 1) (W.nxE p 0 1) 1 = y1 := HY.out.2; rw [hv]; clear hr4))
          go_ret2
          have ho : opE l = 8 := by rw [HO.out, if_neg (fun h => HC.out h.2)]
          exact ⟨gbelow (gbelow HBB hg3 hbw) hg4 hbw, .inl ⟨by rw [ho]; decide, by rw [ho]; rfl⟩⟩
      · have t1 : (y0 != 231) = true := by simpa using c0
        have HC := Lib.hid c0
        clear c0
        go_wp2_with (go_at_call 61; (with_reducible refine (W.next_any HRD.out (Nat.le_trans hpl (by omega)) 1).mono ?_); rintro r w3 ⟨rfl, hr3, hg3⟩; rw [HY.out.1]; clear hr3)
        go_ret2
        have ho : opE l = 8 := by rw [HO.out, if_neg (fun h => HC.out h.1)]
        exact ⟨gbelow HBB hg3 hbw, .inl ⟨by rw [ho]; decide, by rw [ho]; rfl⟩⟩
  · have HO : Hid (opE l = e0) := by show opE l = e0; rw [opE, HE.out.1, if_neg h0]
    have t0 : (e0 != 0) = true := by simpa using h0
    have HN := Lib.hid h0
    clear h0
    go_enter Tryd.func58, Tryd.ntmps58
    go_wp2_with (go_at_call 94; refine HK.out.mono ?_; rintro e w1 ⟨x1, rfl, hx1, hb1⟩; rw [HE.out.1]; clear hx1)
    go_ret2
    exact ⟨hb1, .inl ⟨by rw [HO.out]; exact HN.out, by rw [HO.out]; rfl⟩⟩
end Go.Proofs.YtfbbgoahipejlabDoor.T
/- table.Decode: the config of any bytes. -/
namespace Go.Proofs.YtfbbgoahipejlabDoor.T
open Go.RowKit Go.Proofs.YtfbbgoahipejlabDoor.G Go.Proofs.YtfbbgoahipejlabDoor.C04
open Go.Proofs.YtfbbgoahipejlabDoor.configSame (blk5 below5)

def dL (l : List UInt8) : List UInt8 := rl [1, 1] (W.openL l) 0
def dE (l : List UInt8) : Int := re [1, 1] (W.openL l) 0
def dC (l : List UInt8) : Cfg := rCfg (dL l) (dE l)
def dN (l : List UInt8) : Int := W.endE (rCfgL (dL l) (dE l)) (rCfgE (dL l) (dE l))
def decE (l : List UInt8) : Int := if opE l = 0 then (if dN l = 0 then (if flt (dC l) = none then 0 else 4) else dN l) else opE l
def cfg0 : Cfg := ⟨0, 0, [], [], []⟩
def decC (l : List UInt8) : Cfg := if decE l = 0 then dC l else cfg0
def DecPost (w : World) (l : List UInt8) (e : Ending) (w' : World) : Prop := ∃ v, e = .returned (.tuple #[v, .int .i64 (decE l)]) ∧ CfgOwn w' w.heap.size v (decC l) ∧ Below w.heap.size w w'
theorem cfg0_own (w : World) (B : Nat) : CfgOwn w B (.agg #[.int .i64 0, .int .i64 0, .slice none 0 0, .slice none 0 0, .slice none 0 0]) cfg0 := ⟨_, _, _, rfl, Own.nil_ _ _ _ _, Own.nil_ _ _ _ _, Own.nil_ _ _ _ _, fun k x hx => by simp [cfg0] at hx⟩
theorem rWs_wb : ∀ (k : Nat) (l : List UInt8) (e : Int) (i : Nat) (x : Win), (rWs k l e)[i]? = some x → x.s ≤ 9223372036854775807
  | 0, _, _, i, x, h => by simp [rWs] at h
  | k + 1, l, e, 0, x, h => by
    obtain rfl : rWin l e = x := by simpa [rWs] using h
    have := nx1_bd (rl [1] l e) (re [1] l e)
    simp only [rWin]; omega
  | k + 1, l, e, i + 1, x, h => rWs_wb k _ _ i x (by simpa [rWs] using h)
theorem dC_wb (l : List UInt8) : WB (dC l) := fun k x h => rWs_wb _ _ _ k x h
set_option maxHeartbeats 4000000 in
set_option maxRecDepth 100000 in
theorem decode_any {w : World} {A : Option Addr} {c : Nat} {l : List UInt8} (hE : Et w) (hr : W.Rd w A l) (hl : l.length ≤ 2048) (hc : l.length ≤ c) : Calls Tryd.prog 8 #[.slice A l.length c] w (DecPost w l) := by
  have B0 := Blk.new w 30 zcfg
  have HB := b01 w (.cells zcfg 30)
  have HO := Lib.hid (open_rd (hr.alloc (.cells zcfg 30)) hl hc)
  have HE := Lib.hid hE
  have hmf : ∀ (fn : Fn) (first cap : Array Value) (w : World), (Instr.makeFunc fn first cap).run Tryd.prog w = .ok (.func fn first cap) w := fun _ _ _ _ => rfl
  clear hE hr
  unfold zcfg at B0 HB HO
  by_cases h0 : opE l = 0
  · have H0 := Lib.hid h0
    obtain ⟨n0, hn0⟩ : ∃ x, dN l = x := ⟨_, rfl⟩
    have HD : Hid (dN l = n0) := hn0
    clear h0 hn0
    go_enter Tryd.func8, Tryd.ntmps8
    go_upto_region 5 with (go_at_call 58; refine HO.out.mono ?_; rintro e w1 ⟨hb1, h1⟩; obtain ⟨_, br, rfl, hbr, hrd⟩ := h1.resolve_left (fun h => h.1 H0.out); have B1 := B0.bel hb1; have HB1 := bt HB hb1; have HRD := Lib.hid hrd; have HBR := Lib.hid hbr; clear h1 hrd hbr)
    have hbr : w.heap.size + 1 ≤ br := by have := HBR.out; simpa using this
    have hlen : (dL l).length ≤ 2048 := by
      have h1 := W.openL_length l
      have h2 := W.nxL_length (W.openL l) 0 1
      have h3 := W.nxL_length (W.nxL (W.openL l) 0 1) (W.nxE (W.openL l) 0 1) 1
      show (W.nxL (W.nxL (W.openL l) 0 1) (W.nxE (W.openL l) 0 1) 1).length ≤ 2048
      omega
    have D0 := (B1.alloc (.cells #[.pointer (some ⟨br, 0, none⟩)] 95)).alloc (.cells #[.int .i64 0, .int .i64 0, .slice none 0 0, .slice none 0 0, .slice none 0 0] 30)
    have D1 := (Blk.new w1 95 #[.pointer (some ⟨br, 0, none⟩)]).alloc (.cells #[.int .i64 0, .int .i64 0, .slice none 0 0, .slice none 0 0, .slice none 0 0] 30)
    have D2 := Blk.new_at (w := w1.alloc (.cells #[.pointer (some ⟨br, 0, none⟩)] 95)) (n := w1.heap.size + 1) (by simp) 30 #[.int .i64 0, .int .i64 0, .slice none 0 0, .slice none 0 0, .slice none 0 0]
    have RS1 : RS w1.heap.size br (dL l) (dE l) ((w1.alloc (.cells #[.pointer (some ⟨br, 0, none⟩)] 95)).alloc (.cells #[.int .i64 0, .int .i64 0, .slice none 0 0, .slice none 0 0, .slice none 0 0] 30)) := ⟨D1, (HRD.out.below (b01 _ _)).below (b01 _ _), hlen⟩
    have HB2 := ba1 (ba1 HB1 (.cells #[.pointer (some ⟨br, 0, none⟩)] 95)) (.cells #[.int .i64 0, .int .i64 0, .slice none 0 0, .slice none 0 0, .slice none 0 0] 30)
    have hgc : w.heap.size + 1 ≤ w1.heap.size + 1 := Nat.succ_le_succ HB1.size
    generalize (w1.alloc (.cells #[.pointer (some ⟨br, 0, none⟩)] 95)).alloc (.cells #[.int .i64 0, .int .i64 0, .slice none 0 0, .slice none 0 0, .slice none 0 0] 30) = V1 at *
    have hs1 := D2.lt
    have HK := Lib.hid (row_rd RS1 D2 hbr hgc)
    clear D1 D2 RS1 hlen HRD HBR B1 HB1 hb1 hbr
    have hr0 := D0.lt
    go_upto_region 6 with (go_at_call 59; (with_reducible refine HK.out.mono ?_); rintro r w2 ⟨v1, v2, v3, rfl, hbx, ho1, ho2, ho3, hrs, hbl⟩)
    obtain ⟨gc, hgcE⟩ : ∃ gc, w1.heap.size + 1 = gc := ⟨_, rfl⟩
    obtain ⟨gp, hgpE⟩ : ∃ gp, w1.heap.size = gp := ⟨_, rfl⟩
    rw [hgpE] at hrs
    rw [hgcE] at hbx hgc
    rw [hgcE, hgpE]
    obtain ⟨Q1, q1, hv1⟩ := own_slice ho1
    obtain ⟨Q2, q2, hv2⟩ := own_slice ho2
    obtain ⟨Q3, q3, hv3⟩ := own_slice ho3
    subst hv1 hv2 hv3
    have E0 := D0.below hbl (Nat.lt_succ_self _)
    have HB3 : Below w.heap.size w w2 := HB2.trans (hbl.mono (Nat.le_succ _))
    have ht : rCfg (dL l) (dE l) = dC l := rfl
    rw [ht] at hbx ho1 ho2 ho3
    have HOO := Lib.hid (And.intro ho1 (And.intro ho2 ho3))
    have HRR := Lib.hid hrs.2.1
    have kp := hrs.1.cell 0
    have kz := hrs.1.lt
    have kc := hbx.cell
    have k0 := E0.cell
    have f0 := E0.frozen
    have z0 := E0.lt
    have HBX := Lib.hid hbx
    have HE0 := Lib.hid E0
    have HDN := Lib.hid (show W.endE (rCfgL (dL l) (dE l)) (rCfgE (dL l) (dE l)) = n0 from HD.out)
    clear hrs hbl HK D0 hgcE hgpE ho1 ho2 ho3 hbx E0 ht hs1 hr0 HB2
    by_cases hn : n0 = 0
    · subst hn
      obtain ⟨ho1, ho2, ho3⟩ := HOO.out
      have hat : CfgAt w2 (.agg #[.int .i64 (dC l).P, .int .i64 (dC l).F, .slice Q1 (dC l).ws.length q1, .slice Q2 (dC l).cs.length q2, .slice Q3 (dC l).ac.length q3]) (dC l) := CfgOwn.at_ (B := w.heap.size + 1) ⟨_, _, _, rfl, ho1, ho2, ho3, dC_wb l⟩
      have HCK := Lib.hid (check_any hat (HE.out.below HB3))
      have hsz3 := HB3.size
      clear ho1 ho2 ho3 hat
      obtain ⟨f, hff⟩ : ∃ f, flt (dC l) = f := ⟨_, rfl⟩
      have HFF := Lib.hid hff
      cases f with
      | some x =>
        obtain ⟨p, n⟩ := x
        have HF : Hid (decE l = 4 ∧ decC l = cfg0) := by
          show decE l = 4 ∧ decC l = cfg0
          have e1 : decE l = 4 := by rw [decE, if_pos H0.out, HD.out, if_pos rfl, if_neg (by rw [hff]; simp)]
          exact ⟨e1, by rw [decC, e1, if_neg (by decide)]⟩
        clear hff
        go_wp2_with (first
          | (go_at_call 62; (with_reducible refine (W.end_any HRR.out).mono ?_); rintro r w' ⟨rfl, rfl⟩; rw [HDN.out])
          | (go_at_call 63; (with_reducible refine HCK.out.mono ?_); rintro e w4 ⟨rfl, hb4⟩; rw [HFF.out]; unfold chkV; have HB4 := bt HB3 hb4; have E4 := HE0.out.bel hb4; clear k0 f0 z0 kc kp kz; have k0 := E4.cell; have f0 := E4.frozen; have z0 := E4.lt))
        refine bodyPost_ret (v := .tuple #[.agg #[.int .i64 0, .int .i64 0, .slice none 0 0, .slice none 0 0, .slice none 0 0], .int .i64 4]) (by simp [results, Tryd.results8, go_sem, *]) rfl ⟨.agg #[.int .i64 0, .int .i64 0, .slice none 0 0, .slice none 0 0, .slice none 0 0], by rw [HF.out.1], by rw [HF.out.2]; exact cfg0_own _ _, ?_⟩
        exact ba1 (below5 HB4 (Nat.le_refl _) _ _ _ _ _) _
      | none =>
        have HF : Hid (decE l = 0 ∧ decC l = dC l) := by
          show decE l = 0 ∧ decC l = dC l
          have e1 : decE l = 0 := by rw [decE, if_pos H0.out, HD.out, if_pos rfl, if_pos hff]
          exact ⟨e1, by rw [decC, if_pos e1]⟩
        clear hff
        go_wp2_with (first
          | (go_at_call 62; (with_reducible refine (W.end_any HRR.out).mono ?_); rintro r w' ⟨rfl, rfl⟩; rw [HDN.out])
          | (go_at_call 63; (with_reducible refine HCK.out.mono ?_); rintro e w4 ⟨rfl, hb4⟩; rw [HFF.out]; unfold chkV; have HB4 := bt HB3 hb4; have E4 := HE0.out.bel hb4; have X4 := HBX.out.bel hb4; have hz4 := X4.lt; clear k0 f0 z0 kc kp kz; have k0 := E4.cell; have kc := X4.cell; have f0 := E4.frozen; have z0 := E4.lt))
        have E5 := blk5 E4 (.int .i64 (dC l).P) (.int .i64 (dC l).F) (.slice Q1 (dC l).ws.length q1) (.slice Q2 (dC l).cs.length q2) (.slice Q3 (dC l).ac.length q3)
        have st : ∀ {t : TypeId} {m n : Nat} {v : Value} {xs : List Value}, Own w2 (w.heap.size + 1) t m v n xs → t ≠ 30 → Own (((((w4.setCell ⟨w.heap.size, 0, none⟩ (.int .i64 (dC l).P)).setCell ⟨w.heap.size, 1, none⟩ (.int .i64 (dC l).F)).setCell ⟨w.heap.size, 2, none⟩ (.slice Q1 (dC l).ws.length q1)).setCell ⟨w.heap.size, 3, none⟩ (.slice Q2 (dC l).cs.length q2)).setCell ⟨w.heap.size, 4, none⟩ (.slice Q3 (dC l).ac.length q3)) w.heap.size t m v n xs := fun h ht => by
          have h4 := (h.below hb4).less (Nat.le_succ w.heap.size)
          have n := own_off h4 E4 ht
          exact own_st (own_st (own_st (own_st (own_st h4 n 0 _) n 1 _) n 2 _) n 3 _) n 4 _
        obtain ⟨ho1, ho2, ho3⟩ := HOO.out
        have q1' := (st ho1 (by decide)).alloc (.cells #[.int .i64 0, .int .i64 0] 104)
        have q2' := (st ho2 (by decide)).alloc (.cells #[.int .i64 0, .int .i64 0] 104)
        have q3' := (st ho3 (by decide)).alloc (.cells #[.int .i64 0, .int .i64 0] 104)
        have HQ := Lib.hid (And.intro q1' (And.intro q2' q3'))
        clear st ho1 ho2 ho3 q1' q2' q3' E5
        refine bodyPost_ret (v := .tuple #[.agg #[.int .i64 (dC l).P, .int .i64 (dC l).F, .slice Q1 (dC l).ws.length q1, .slice Q2 (dC l).cs.length q2, .slice Q3 (dC l).ac.length q3], .int .i64 0]) (by simp [results, Tryd.results8, go_sem, *]) rfl ⟨.agg #[.int .i64 (dC l).P, .int .i64 (dC l).F, .slice Q1 (dC l).ws.length q1, .slice Q2 (dC l).cs.length q2, .slice Q3 (dC l).ac.length q3], by rw [HF.out.1], ?_, ?_⟩
        · rw [HF.out.2]
          exact ⟨_, _, _, rfl, HQ.out.1, HQ.out.2.1, HQ.out.2.2, dC_wb l⟩
        · exact ba1 (below5 HB4 (Nat.le_refl _) _ _ _ _ _) _
    · have tn : (n0 != 0) = true := by simpa using hn
      have HF : Hid (decE l = n0 ∧ decC l = cfg0) := by
        show decE l = n0 ∧ decC l = cfg0
        have e1 : decE l = n0 := by rw [decE, if_pos H0.out, HD.out, if_neg hn]
        exact ⟨e1, by rw [decC, e1, if_neg hn]⟩
      clear hn
      go_wp2_with (go_at_call 62; (with_reducible refine (W.end_any HRR.out).mono ?_); rintro r w' ⟨rfl, rfl⟩; rw [HDN.out])
      refine bodyPost_ret (v := .tuple #[.agg #[.int .i64 0, .int .i64 0, .slice none 0 0, .slice none 0 0, .slice none 0 0], .int .i64 n0]) (by simp [results, Tryd.results8, go_sem, *]) rfl ⟨.agg #[.int .i64 0, .int .i64 0, .slice none 0 0, .slice none 0 0, .slice none 0 0], by rw [HF.out.1], by rw [HF.out.2]; exact cfg0_own _ _, ?_⟩
      exact below5 HB3 (Nat.le_refl _) _ _ _ _ _
  · have HN := Lib.hid h0
    have HD : Hid (decE l = opE l ∧ decC l = cfg0) := by
      show decE l = opE l ∧ decC l = cfg0
      have e1 : decE l = opE l := by rw [decE, if_neg h0]
      exact ⟨e1, by rw [decC, e1, if_neg h0]⟩
    obtain ⟨e0, he0⟩ : ∃ x, opE l = x := ⟨_, rfl⟩
    have t0 : (e0 != 0) = true := by rw [← he0]; simpa using h0
    have H0 := Lib.hid he0
    clear h0 he0
    go_enter Tryd.func8, Tryd.ntmps8
    go_wp2_with (go_at_call 58; refine HO.out.mono ?_; rintro e w1 ⟨hb1, h1⟩; obtain ⟨_, rfl⟩ := h1.resolve_right (fun h => HN.out h.1); rw [H0.out]; have B1 := B0.bel hb1; have HB1 := bt HB hb1; have f1 := B1.frozen; have k1 := B1.cell; have z1 := B1.lt; clear h1 hb1)
    refine bodyPost_ret (v := .tuple #[.agg #[.int .i64 0, .int .i64 0, .slice none 0 0, .slice none 0 0, .slice none 0 0], .int .i64 e0]) (by simp [results, Tryd.results8, go_sem, *]) rfl ⟨.agg #[.int .i64 0, .int .i64 0, .slice none 0 0, .slice none 0 0, .slice none 0 0], by rw [HD.out.1, H0.out], by rw [HD.out.2]; exact cfg0_own _ _, ?_⟩
    exact ba1 (below5 HB1 (Nat.le_refl _) _ _ _ _ _) _
end Go.Proofs.YtfbbgoahipejlabDoor.T
