/- Which configs may be, part two: the channels, the windows, and the first fault of a config. -/
import Derived.Test.YtmfkapbllmfegaaDoorChk
namespace Go.Proofs.YtmfkapbllmfegaaDoor.C04
open Go.RowKit Go.Proofs.YtmfkapbllmfegaaDoor.G

def InvC (w : World) (c : Cfg) (cs : Array Value) (i : Value) (wr : World) : Prop := ∃ k : Nat, i = .int .i64 k ∧ k ≤ c.cs.length ∧ cbad c.P 0 c.cs = cbad c.P k (c.cs.drop k) ∧ Below w.heap.size w wr ∧ Blk wr w.heap.size 26 cs
set_option maxHeartbeats 1000000 in
theorem chnf_any {w : World} {v : Value} {c : Cfg} (h : CfgAt w v c) : Calls Tryd.prog 62 #[v] w (ErrPost (cflt c) w) := by
  obtain ⟨A1, A2, A3, c1, c2, c3, rfl, h1, h2, h3, _, _, l2, m2, _, _, _⟩ := h
  have H2 := Lib.hid h2
  clear h1 h2 h3
  have B0 := Blk.new w 26 #[.int .i64 c.P, .int .i64 c.F, .slice A1 c.ws.length c1, .slice A2 c.cs.length c2, .slice A3 c.ac.length c3]
  by_cases hn : c.cs.length ≤ 6
  · have HA : Hid (cflt c = (cbad c.P 0 c.cs).map fun i => (4, (i : Int))) := by show cflt c = _; rw [cflt, if_pos hn]
    go_enter Tryd.func62, Tryd.ntmps62
    go_wp2
    go_loopw [15] (fun i wr => InvC w c #[.int .i64 c.P, .int .i64 c.F, .slice A1 c.ws.length c1, .slice A2 c.cs.length c2, .slice A3 c.ac.length c3] i wr) (fun i _ => c.cs.length - (intOf i).toNat)
    case atStart => exact ⟨0, rfl, by omega, rfl, b01 _ _, B0⟩
    case round =>
      obtain ⟨k, rfl, hk, ha, hb, hB⟩ := hrel
      have HR := Lib.hid ha; clear ha
      have q := hB.cell
      have B1 := hB.alloc (.cells #[] 0)
      clear B0
      by_cases hlt : k < c.cs.length
      · obtain ⟨x, hx, hd⟩ := drop_cons hlt
        obtain ⟨b, o, rfl, hbl, g0, g1, g2, g3, g4, g5, g6, g7, g8, g9, g10⟩ := row_chn (H2.out.below hb) hx
        have HX := Lib.hid hd; clear hd hx B1
        have Bc := hB.alloc (.cells #[.int .i64 x.k, .int .i64 x.f, .int .i64 x.t, .int .i64 x.w, .int .i64 x.r, .int .i64 x.la, .int .i64 x.d, .int .i64 x.h, .int .i64 x.li, .int .i64 x.ra, .int .i64 x.c] 37)
        have qc := Bc.cell
        have hsz := hB.lt
        by_cases ht : rgt c.P x = true
        · go_wp2_with (go_at_call 68; refine (right_any c.P x _ _ _ _ _).mono ?_; rintro e w' ⟨rfl, hb'⟩)
          go_roundw
          case rel => exact ⟨k + 1, by go_num, by omega, by rw [HR.out, HX.out, cbad, if_pos ht], bt (ba1 hb _) hb', Bc.bel hb'⟩
          case measure => simp [intOf]; omega
        · have tf : rgt c.P x = false := by simpa using ht
          go_wp2_with (go_at_call 68; refine (right_any c.P x _ _ _ _ _).mono ?_; rintro e w' ⟨rfl, hb'⟩)
          go_ret
          refine ⟨?_, bt (ba1 hb _) hb'⟩
          rw [HA.out, HR.out, HX.out, cbad, if_neg ht]
          rfl
      · go_wp2
        go_ret
        refine ⟨?_, hb⟩
        rw [HA.out, HR.out, List.drop_of_length_le (by omega)]
        rfl
  · have HA : Hid (cflt c = some (4, -1)) := by show cflt c = _; rw [cflt, if_neg hn]
    go_enter Tryd.func62, Tryd.ntmps62
    go_wp2
    go_ret
    exact ⟨by rw [HA.out]; rfl, b01 _ _⟩

def InvW (w : World) (c : Cfg) (cs : Array Value) (j i : Value) (wr : World) : Prop := ∃ (k : Nat) (e : Int), i = .int .i64 k ∧ j = .int .i64 e ∧ 0 ≤ e ∧ e ≤ 64 ∧ k ≤ c.ws.length ∧ wbad c.P c.F 0 0 c.ws = wbad c.P c.F k e (c.ws.drop k) ∧ Below w.heap.size w wr ∧ Blk wr w.heap.size 26 cs
set_option maxHeartbeats 2000000 in
theorem winf_any {w : World} {v : Value} {c : Cfg} (h : CfgAt w v c) (hF1 : 1 ≤ c.F) (hF2 : c.F ≤ 64) : Calls Tryd.prog 61 #[v] w (ErrPost (wflt c) w) := by
  obtain ⟨A1, A2, A3, c1, c2, c3, rfl, h1, h2, h3, l1, m1, _, _, _, _, hwb⟩ := h
  have H1 := Lib.hid h1
  have HWB := Lib.hid hwb
  clear h1 h2 h3 hwb
  have B0 := Blk.new w 26 #[.int .i64 c.P, .int .i64 c.F, .slice A1 c.ws.length c1, .slice A2 c.cs.length c2, .slice A3 c.ac.length c3]
  by_cases hn : wth c.ws.length 1 8 = true
  · have HA : Hid (wflt c = (wbad c.P c.F 0 0 c.ws).map fun i => (3, (i : Int))) := by show wflt c = _; rw [wflt, if_pos hn]
    go_enter Tryd.func61, Tryd.ntmps61
    go_wp2_with (go_at_call 60; refine (within_any _ _ _ _).mono ?_; rintro e w' ⟨rfl, rfl⟩)
    go_loopw [3, 18] (fun j i wr => InvW w c #[.int .i64 c.P, .int .i64 c.F, .slice A1 c.ws.length c1, .slice A2 c.cs.length c2, .slice A3 c.ac.length c3] j i wr) (fun _ i _ => c.ws.length - (intOf i).toNat)
    case atStart => exact ⟨0, 0, rfl, rfl, by omega, by omega, by omega, rfl, b01 _ _, B0⟩
    case round =>
      obtain ⟨k, e, rfl, rfl, he1, he2, hk, ha, hb, hB⟩ := hrel
      have HR := Lib.hid ha; clear ha
      have q := hB.cell
      clear B0 hn
      by_cases hlt : k < c.ws.length
      · obtain ⟨x, hx, hd⟩ := drop_cons hlt
        have hs := HWB.out k x hx
        obtain ⟨b, o, rfl, hbl, g0, g1, g2⟩ := row_win (H1.out.below hb) hx
        have HX := Lib.hid hd; clear hd hx
        have Bc := hB.alloc (.cells #[.int .i64 x.o, .int .i64 x.s, .int .i64 x.l] 41)
        have Bw := Blk.new wr 41 #[.int .i64 x.o, .int .i64 x.s, .int .i64 x.l]
        have qc := Bc.cell
        have hsz := hB.lt
        have HB := ba1 hb (.cells #[.int .i64 x.o, .int .i64 x.s, .int .i64 x.l] 41)
        have f0 : 0 ≤ e := he1
        go_wp2_with (go_at_call 67; refine (ispart_any _ _ _ _ _ _ _).mono ?_; rintro e' w1 ⟨rfl, hb'⟩; have HB := bt HB hb'; have Bc := Bc.bel hb'; have Bw := Bw.bel hb'; have qc := Bc.cell; have qw := Bw.cell)
        all_goals first
          | (go_ret
             have hw : ¬ wok c.P c.F e x = true := by simp only [wok, isp, decide_eq_true_eq] at *; omega
             refine ⟨?_, by first | exact HB | exact ba1 hb _⟩
             rw [HA.out, HR.out, HX.out, wbad, if_neg hw]
             rfl)
          | (go_roundw
             case rel =>
               have hw : wok c.P c.F e x = true := by simp only [wok, isp, decide_eq_true_eq] at *; omega
               exact ⟨k + 1, x.s + x.l, by go_num, rfl, by omega, by omega, by omega, by rw [HR.out, HX.out, wbad, if_pos hw], by first | exact HB | exact ba1 hb _, by first | exact Bc | exact hB.alloc _⟩
             case measure => simp [intOf]; omega)
      · go_wp2
        go_ret
        refine ⟨?_, hb⟩
        rw [HA.out, HR.out, List.drop_of_length_le (by omega)]
        rfl
  · have HA : Hid (wflt c = some (3, -1)) := by show wflt c = _; rw [wflt, if_neg hn]
    have tn : wth c.ws.length 1 8 = false := by simpa using hn
    clear hn
    go_enter Tryd.func61, Tryd.ntmps61
    go_wp2_with (go_at_call 60; refine (within_any _ _ _ _).mono ?_; rintro e w' ⟨rfl, rfl⟩)
    go_ret
    exact ⟨by rw [HA.out]; rfl, b01 _ _⟩

set_option maxHeartbeats 1000000 in
theorem first_any {w : World} {v : Value} {c : Cfg} (h : CfgAt w v c) : Calls Tryd.prog 53 #[v] w (ErrPost (flt c) w) := by
  have h0 := h
  obtain ⟨A1, A2, A3, c1, c2, c3, rfl, h1, h2, h3, _⟩ := h
  clear h1 h2 h3
  have B0 := Blk.new w 26 #[.int .i64 c.P, .int .i64 c.F, .slice A1 c.ws.length c1, .slice A2 c.cs.length c2, .slice A3 c.ac.length c3]
  have HC := Lib.hid (h0.alloc (.cells #[.int .i64 c.P, .int .i64 c.F, .slice A1 c.ws.length c1, .slice A2 c.cs.length c2, .slice A3 c.ac.length c3] 26))
  have HB := b01 w (.cells #[.int .i64 c.P, .int .i64 c.F, .slice A1 c.ws.length c1, .slice A2 c.cs.length c2, .slice A3 c.ac.length c3] 26)
  clear h0
  by_cases hP : wth c.P 1 4 = true
  · by_cases hF : wth c.F 1 64 = true
    · have hF' := wth_yes hF
      obtain ⟨f, hf⟩ : ∃ f, wflt c = f := ⟨_, rfl⟩
      have HW := Lib.hid hf; clear hf
      cases f with
      | some x =>
        have HA : Hid (flt c = some x) := by show flt c = _; rw [flt, if_pos hP, if_pos hF, HW.out]
        obtain ⟨p, n⟩ := x
        go_enter Tryd.func53, Tryd.ntmps53
        go_wp2_with (first
          | (go_at_call 60; refine (within_any _ _ _ _).mono ?_; rintro e w' ⟨rfl, rfl⟩)
          | (go_at_call 61; refine (winf_any HC.out hF'.1 hF'.2).mono ?_; rintro e w1 ⟨rfl, hb⟩; rw [HW.out]; unfold errV; have HB := bt HB hb))
        go_ret
        exact ⟨by rw [HA.out]; rfl, HB⟩
      | none =>
        obtain ⟨g, hg⟩ : ∃ g, cflt c = g := ⟨_, rfl⟩
        have HG := Lib.hid hg; clear hg
        cases g with
        | some x =>
          have HA : Hid (flt c = some x) := by show flt c = _; rw [flt, if_pos hP, if_pos hF, HW.out]; simp only [HG.out]
          obtain ⟨p, n⟩ := x
          go_enter Tryd.func53, Tryd.ntmps53
          go_wp2_with (first
            | (go_at_call 60; refine (within_any _ _ _ _).mono ?_; rintro e w' ⟨rfl, rfl⟩)
            | (go_at_call 61; refine (winf_any HC.out hF'.1 hF'.2).mono ?_; rintro e w1 ⟨rfl, hb⟩; rw [HW.out]; unfold errV; have HB := bt HB hb; have B0 := B0.bel hb; have q0 := B0.cell; have HC := Lib.hid (HC.out.below hb))
            | (go_at_call 62; refine (chnf_any HC.out).mono ?_; rintro e w1 ⟨rfl, hb⟩; rw [HG.out]; unfold errV; have HB := bt HB hb))
          go_ret
          exact ⟨by rw [HA.out]; rfl, HB⟩
        | none =>
          have HA : Hid (flt c = aflt c) := by show flt c = _; rw [flt, if_pos hP, if_pos hF, HW.out]; simp only [HG.out]
          go_enter Tryd.func53, Tryd.ntmps53
          go_wp2_with (first
            | (go_at_call 60; refine (within_any _ _ _ _).mono ?_; rintro e w' ⟨rfl, rfl⟩)
            | (go_at_call 61; refine (winf_any HC.out hF'.1 hF'.2).mono ?_; rintro e w1 ⟨rfl, hb⟩; rw [HW.out]; unfold errV; have HB := bt HB hb; have B0 := B0.bel hb; have q0 := B0.cell; have HC := Lib.hid (HC.out.below hb))
            | (go_at_call 62; refine (chnf_any HC.out).mono ?_; rintro e w1 ⟨rfl, hb⟩; rw [HG.out]; unfold errV; have HB := bt HB hb; have B0 := B0.bel hb; have q0 := B0.cell; have HC := Lib.hid (HC.out.below hb))
            | (go_at_call 63; refine (actf_any HC.out).mono ?_; rintro e w1 ⟨rfl, hb⟩; have HB := bt HB hb))
          go_ret
          exact ⟨by rw [HA.out]; rfl, HB⟩
    · have HA : Hid (flt c = some (2, 0)) := by show flt c = _; rw [flt, if_pos hP, if_neg hF]
      have tF : wth c.F 1 64 = false := by simpa using hF
      clear hF
      go_enter Tryd.func53, Tryd.ntmps53
      go_wp2_with (go_at_call 60; refine (within_any _ _ _ _).mono ?_; rintro e w' ⟨rfl, rfl⟩)
      go_ret
      exact ⟨by rw [HA.out]; rfl, HB⟩
  · have HA : Hid (flt c = some (1, 0)) := by show flt c = _; rw [flt, if_neg hP]
    have tP : wth c.P 1 4 = false := by simpa using hP
    clear hP
    go_enter Tryd.func53, Tryd.ntmps53
    go_wp2_with (go_at_call 60; refine (within_any _ _ _ _).mono ?_; rintro e w' ⟨rfl, rfl⟩)
    go_ret
    exact ⟨by rw [HA.out]; rfl, HB⟩
end Go.Proofs.YtmfkapbllmfegaaDoor.C04
