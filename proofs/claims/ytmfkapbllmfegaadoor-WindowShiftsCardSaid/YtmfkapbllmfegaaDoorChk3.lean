/- The document's own Check and May: contracts against the same plain function. -/
import Derived.Test.YtmfkapbllmfegaaDoorChk2
import Derived.StillTailTactics
namespace Go.Proofs.YtmfkapbllmfegaaDoor.C04
open Go.RowKit Go.Proofs.YtmfkapbllmfegaaDoor.G

def chkV : Option (Int × Int) → Value
  | none => .tuple #[.agg #[.int .i64 0, .int .i64 0], .int .i64 0]
  | some (p, n) => .tuple #[.agg #[.int .i64 p, .int .i64 n], .int .i64 4]
def ChkPost (f : Option (Int × Int)) (w : World) (e : Ending) (w' : World) : Prop := e = .returned (chkV f) ∧ Below w.heap.size w w'
def Two (w : World) (cs : Array Value) (wr : World) : Prop := Below w.heap.size w wr ∧ Blk wr w.heap.size 26 cs ∧ Blk wr (w.heap.size + 1) 57 #[.int .i64 0, .int .i64 0]
def InvK1 (w : World) (c : Cfg) (cs : Array Value) (j i : Value) (wr : World) : Prop := ∃ (k : Nat) (e : Int), i = .int .i64 k ∧ j = .int .i64 e ∧ 0 ≤ e ∧ e ≤ 64 ∧ k ≤ c.ws.length ∧ wbad c.P c.F 0 0 c.ws = wbad c.P c.F k e (c.ws.drop k) ∧ Two w cs wr
def InvK2 (w : World) (c : Cfg) (cs : Array Value) (i : Value) (wr : World) : Prop := ∃ k : Nat, i = .int .i64 k ∧ k ≤ c.cs.length ∧ cbad c.P 0 c.cs = cbad c.P k (c.cs.drop k) ∧ Two w cs wr
def InvK3 (w : World) (c : Cfg) (cs : Array Value) (i : Value) (wr : World) : Prop := ∃ k : Nat, i = .int .i64 k ∧ k ≤ c.ac.length ∧ abad 0 c.ac = abad k (c.ac.drop k) ∧ Two w cs wr
theorem Two.bel {w wr wr' : World} {cs : Array Value} (h : Two w cs wr) (hb : Below wr.heap.size wr wr') : Two w cs wr' := ⟨bt h.1 hb, h.2.1.bel hb, h.2.2.bel hb⟩
theorem Two.alloc {w wr : World} {cs : Array Value} (h : Two w cs wr) (o : Obj) : Two w cs (wr.alloc o) := h.bel (b01 _ _)
theorem Two.drewN {w wr : World} {cs : Array Value} (h : Two w cs wr) (n : Nat) : Two w cs (wr.drewN n) := ⟨bn h.1 n, h.2.1, h.2.2⟩
theorem Two.drew {w wr : World} {cs : Array Value} (h : Two w cs wr) : Two w cs wr.drew := ⟨h.1.drew, h.2.1, h.2.2⟩
theorem two_set {w wr : World} {cs : Array Value} (h : Two w cs wr) (i j : Nat) (u v : Value) : Below w.heap.size w ((wr.setCell ⟨w.heap.size + 1, i, none⟩ u).setCell ⟨w.heap.size + 1, j, none⟩ v) := (h.1.setCell (by simp) _).setCell (by simp) _

theorem two_fin (w : World) (o o' : Obj) : Below w.heap.size w ((w.alloc o).alloc o') := ba1 (b01 _ _) _

set_option maxHeartbeats 4000000 in
set_option maxRecDepth 100000 in
theorem rcheck_any {w : World} {v : Value} {c : Cfg} (h : CfgAt w v c) : Calls Tryd.prog 49 #[v] w (ChkPost (flt c) w) := by
  obtain ⟨A1, A2, A3, c1, c2, c3, rfl, h1, h2, h3, l1, m1, l2, m2, l3, m3, hwb⟩ := h
  have H1 := Lib.hid h1
  have H2 := Lib.hid h2
  have H3 := Lib.hid h3
  have HWB := Lib.hid hwb
  clear h1 h2 h3 hwb
  have B0 := (Blk.new w 26 #[.int .i64 c.P, .int .i64 c.F, .slice A1 c.ws.length c1, .slice A2 c.cs.length c2, .slice A3 c.ac.length c3]).alloc (.cells #[.int .i64 0, .int .i64 0] 57)
  have B1 := Blk.new_at (w := w.alloc (.cells #[.int .i64 c.P, .int .i64 c.F, .slice A1 c.ws.length c1, .slice A2 c.cs.length c2, .slice A3 c.ac.length c3] 26)) (n := w.heap.size + 1) (by simp) 57 #[.int .i64 0, .int .i64 0]
  have T0 : Two w #[.int .i64 c.P, .int .i64 c.F, .slice A1 c.ws.length c1, .slice A2 c.cs.length c2, .slice A3 c.ac.length c3] _ := ⟨ba1 (b01 _ _) _, B0, B1⟩
  clear B0 B1
  by_cases hP : wth c.P 1 4 = true
  · by_cases hF : wth c.F 1 64 = true
    · by_cases hn : wth c.ws.length 1 8 = true
      · have hF' := wth_yes hF
        have hP' := wth_yes hP
        have HA : Hid (∀ k : Nat, wbad c.P c.F 0 0 c.ws = some k → flt c = some (3, (k : Int))) := by
          show ∀ k : Nat, wbad c.P c.F 0 0 c.ws = some k → flt c = some (3, (k : Int))
          intro k hk; rw [flt, if_pos hP, if_pos hF, wflt, if_pos hn, hk]; rfl
        go_enter Tryd.func49, Tryd.ntmps49
        go_wp2_with (go_at_call 54; refine (in_any _ _ _ _).mono ?_; rintro e w' ⟨rfl, rfl⟩)
        go_loopw [4, 5] (fun j i wr => InvK1 w c #[.int .i64 c.P, .int .i64 c.F, .slice A1 c.ws.length c1, .slice A2 c.cs.length c2, .slice A3 c.ac.length c3] j i wr) (fun _ i _ => c.ws.length - (intOf i).toNat)
        case atStart => exact ⟨0, 0, rfl, rfl, by omega, by omega, by omega, rfl, T0⟩
        case round =>
          obtain ⟨k, e, rfl, rfl, he1, he2, hk, ha, T⟩ := hrel
          have HR := Lib.hid ha; clear ha T0
          have q := T.2.1.cell
          by_cases hlt : k < c.ws.length
          · obtain ⟨x, hx, hd⟩ := drop_cons hlt
            have hs := HWB.out k x hx
            obtain ⟨b, o, rfl, hbl, g0, g1, g2⟩ := row_win (H1.out.below T.1) hx
            have HX := Lib.hid hd; clear hd hx hn hP hF
            have T' := T.alloc (.cells #[.int .i64 x.o, .int .i64 x.s, .int .i64 x.l] 41)
            have q' := T'.2.1.cell
            have r' := T.2.2.cell
            have f' := T.2.2.frozen
            have hsz := T.2.2.lt
            have hb : (wth x.l 1 64 = true ∧ wth x.s e 64 = true ∧ 1 ≤ x.l ∧ x.l ≤ 64 ∧ e ≤ x.s ∧ x.s ≤ 64) ∨ wth x.l 1 64 = false ∨ (wth x.l 1 64 = true ∧ wth x.s e 64 = false) := by
              cases h1 : wth x.l 1 64
              · exact .inr (.inl rfl)
              · cases h2 : wth x.s e 64
                · exact .inr (.inr ⟨rfl, rfl⟩)
                · exact .inl ⟨rfl, rfl, (wth_yes h1).1, (wth_yes h1).2, (wth_yes h2).1, (wth_yes h2).2⟩
            rcases hb with ⟨t2, t3, b1, b2, b3, b4⟩ | t2 | ⟨t2, t3⟩
            all_goals
              go_wp2_with (go_at_call 54; refine (in_any _ _ _ _).mono ?_; rintro e w' ⟨rfl, rfl⟩)
            all_goals first
              | (go_roundw
                 case rel =>
                   have hw : wok c.P c.F e x = true := by simp only [wok, wth, decide_eq_true_eq] at *; omega
                   exact ⟨k + 1, x.s + x.l, by go_num, rfl, by omega, by omega, by omega, by rw [HR.out, HX.out, wbad, if_pos hw], T'⟩
                 case measure => simp [intOf]; omega)
              | (have hw : ¬ wok c.P c.F e x = true := by simp only [wok, wth, decide_eq_true_eq, decide_eq_false_iff_not] at *; omega
                 refine bodyPost_ret (v := .tuple #[.agg #[.int .i64 3, .int .i64 k], .int .i64 4]) (by simp [results, Tryd.results49, go_sem, *]) rfl ⟨?_, ?_⟩
                 · rw [HA.out k (by rw [HR.out, HX.out, wbad, if_neg hw])]; rfl
                 · exact ba1 (two_set T 0 1 _ _) _)
          · have hw0 : wflt c = none := by rw [wflt, if_pos hn, HR.out, List.drop_of_length_le (by omega)]; rfl
            have r := T.2.2.cell
            have f := T.2.2.frozen
            have hsz := T.2.2.lt
            clear hn
            by_cases hm : c.cs.length ≤ 6
            · have HC : Hid (∀ k : Nat, cbad c.P 0 c.cs = some k → flt c = some (4, (k : Int))) := by
                show ∀ k : Nat, cbad c.P 0 c.cs = some k → flt c = some (4, (k : Int))
                intro k hk; rw [flt, if_pos hP, if_pos hF, hw0]; simp only [cflt, if_pos hm, hk]; rfl
              have HW0 := Lib.hid hw0
              have HPF : Hid (wth c.P 1 4 = true ∧ wth c.F 1 64 = true) := by show _ ∧ _; exact ⟨hP, hF⟩
              clear hw0 hP hF
              go_wp2_with fail
              go_loopw [7] (fun i wr => InvK2 w c #[.int .i64 c.P, .int .i64 c.F, .slice A1 c.ws.length c1, .slice A2 c.cs.length c2, .slice A3 c.ac.length c3] i wr) (fun i _ => c.cs.length - (intOf i).toNat)
              case atStart => exact ⟨0, rfl, by omega, rfl, T⟩
              case round =>
                clear q r f hsz T
                obtain ⟨k2, rfl, hk2, ha2, T⟩ := hrel
                have HR2 := Lib.hid ha2; clear ha2
                have q := T.2.1.cell
                have r := T.2.2.cell
                have f := T.2.2.frozen
                have hsz := T.2.2.lt
                by_cases hlt2 : k2 < c.cs.length
                · obtain ⟨x, hx, hd⟩ := drop_cons hlt2
                  obtain ⟨b, o, rfl, hbl, g0, g1, g2, g3, g4, g5, g6, g7, g8, g9, g10⟩ := row_chn (H2.out.below T.1) hx
                  have HX := Lib.hid hd; clear hd hx
                  have T1 := T.drew
                  have HRG : Hid (∀ W : World, Calls Tryd.prog 55 #[.int .i64 c.P, .agg #[.int .i64 x.k, .int .i64 x.f, .int .i64 x.t, .int .i64 x.w, .int .i64 x.r, .int .i64 x.la, .int .i64 x.d, .int .i64 x.h, .int .i64 x.li, .int .i64 x.ra, .int .i64 x.c]] W (BoolPost (rgt c.P x) W)) := fun W => rright_any c.P (by omega) (by omega) x W
                  go_wp2
                  go_still_tail 7, (by kernel_rfl)
                  go_wp2_with fail
                  refine (HRG.out _).mono ?_
                  rintro e' w' ⟨rfl, hb'⟩
                  have T2 := T1.bel hb'
                  have q2 := T2.2.1.cell
                  have r2 := T2.2.2.cell
                  have f2 := T2.2.2.frozen
                  have hsz2 := T2.2.2.lt
                  clear q r f g0 g1 g2 g3 g4 g5 g6 g7 g8 g9 g10
                  by_cases ht : rgt c.P x = true
                  · go_wp2
                    go_roundw
                    case rel => exact ⟨k2 + 1, by go_num, by omega, by rw [HR2.out, HX.out, cbad, if_pos ht], T2⟩
                    case measure => simp [intOf]; omega
                  · have tf : rgt c.P x = false := by simpa using ht
                    go_wp2
                    refine bodyPost_ret (v := .tuple #[.agg #[.int .i64 4, .int .i64 k2], .int .i64 4]) (by simp [results, Tryd.results49, go_sem, *]) rfl ⟨?_, ?_⟩
                    · rw [HC.out k2 (by rw [HR2.out, HX.out, cbad, if_neg ht])]; rfl
                    · exact two_set T2 0 1 _ _
                · have hc0 : cflt c = none := by rw [cflt, if_pos hm, HR2.out, List.drop_of_length_le (by omega)]; rfl
                  have HFA : Hid (flt c = aflt c) := by show flt c = aflt c; rw [flt, if_pos HPF.out.1, if_pos HPF.out.2, HW0.out]; simp only [hc0]
                  clear hc0
                  by_cases hn3 : (c.ac.length : Int) = c.P
                  · have HAF : Hid (flt c = (abad 0 c.ac).map fun i => (5, (i : Int))) := by show flt c = _; rw [HFA.out, aflt, if_pos hn3]
                    have tn : ((c.ac.length : Int) != c.P) = false := by simpa using hn3
                    clear hn3
                    go_wp2_with fail
                    go_loopw [9] (fun i wr => InvK3 w c #[.int .i64 c.P, .int .i64 c.F, .slice A1 c.ws.length c1, .slice A2 c.cs.length c2, .slice A3 c.ac.length c3] i wr) (fun i _ => c.ac.length - (intOf i).toNat)
                    case atStart => exact ⟨0, rfl, by omega, rfl, T⟩
                    case round =>
                      clear q r f hsz T
                      obtain ⟨k3, rfl, hk3, ha3, T⟩ := hrel
                      have HR3 := Lib.hid ha3; clear ha3
                      have q := T.2.1.cell
                      have r := T.2.2.cell
                      have f := T.2.2.frozen
                      have hsz := T.2.2.lt
                      by_cases hlt3 : k3 < c.ac.length
                      · obtain ⟨x, hx, hd⟩ := drop_cons hlt3
                        obtain ⟨b, o, rfl, hbl, g0⟩ := row_int (H3.out.below T.1) hx
                        have HX := Lib.hid hd; clear hd hx
                        by_cases ht : wth x 0 2 = true
                        · go_wp2_with (go_at_call 54; refine (in_any _ _ _ _).mono ?_; rintro e w' ⟨rfl, rfl⟩)
                          go_roundw
                          case rel => exact ⟨k3 + 1, by go_num, by omega, by rw [HR3.out, HX.out, abad, if_pos ht], T⟩
                          case measure => simp [intOf]; omega
                        · have tf : wth x 0 2 = false := by simpa using ht
                          go_wp2_with (go_at_call 54; refine (in_any _ _ _ _).mono ?_; rintro e w' ⟨rfl, rfl⟩)
                          refine bodyPost_ret (v := .tuple #[.agg #[.int .i64 5, .int .i64 k3], .int .i64 4]) (by simp [results, Tryd.results49, go_sem, *]) rfl ⟨?_, ?_⟩
                          · rw [HAF.out, HR3.out, HX.out, abad, if_neg ht]; rfl
                          · exact two_set T 0 1 _ _
                      · go_wp2_with fail
                        refine bodyPost_ret (v := .tuple #[.agg #[.int .i64 0, .int .i64 0], .int .i64 0]) (by simp [results, Tryd.results49, go_sem, *]) rfl ⟨?_, ?_⟩
                        · rw [HAF.out, HR3.out, List.drop_of_length_le (by omega)]; rfl
                        · exact two_set T 0 1 _ _
                  · have HAF : Hid (flt c = some (5, -1)) := by show flt c = _; rw [HFA.out, aflt, if_neg hn3]
                    have tn : ((c.ac.length : Int) != c.P) = true := by simpa using hn3
                    clear hn3
                    go_wp2_with fail
                    refine bodyPost_ret (v := .tuple #[.agg #[.int .i64 5, .int .i64 (-1)], .int .i64 4]) (by simp [results, Tryd.results49, go_sem, *]) rfl ⟨?_, ?_⟩
                    · rw [HAF.out]; rfl
                    · exact two_set T 0 1 _ _
            · have HC : Hid (flt c = some (4, -1)) := by show flt c = _; rw [flt, if_pos hP, if_pos hF, hw0]; simp only [cflt, if_neg hm]
              clear hw0 hP hF
              go_wp2_with fail
              refine bodyPost_ret (v := .tuple #[.agg #[.int .i64 4, .int .i64 (-1)], .int .i64 4]) (by simp [results, Tryd.results49, go_sem, *]) rfl ⟨?_, ?_⟩
              · rw [HC.out]; rfl
              · exact two_set T 0 1 _ _
      · have HA : Hid (flt c = some (3, -1)) := by show flt c = _; rw [flt, if_pos hP, if_pos hF, wflt, if_neg hn]
        have tn : wth c.ws.length 1 8 = false := by simpa using hn
        clear hn
        go_enter Tryd.func49, Tryd.ntmps49
        go_wp2_with (go_at_call 54; refine (in_any _ _ _ _).mono ?_; rintro e w' ⟨rfl, rfl⟩)
        refine bodyPost_ret (v := .tuple #[.agg #[.int .i64 3, .int .i64 (-1)], .int .i64 4]) (by simp [results, Tryd.results49, go_sem, *]) rfl ⟨?_, ?_⟩
        · rw [HA.out]; rfl
        · exact two_fin _ _ _
    · have HA : Hid (flt c = some (2, 0)) := by show flt c = _; rw [flt, if_pos hP, if_neg hF]
      have tF : wth c.F 1 64 = false := by simpa using hF
      clear hF
      go_enter Tryd.func49, Tryd.ntmps49
      go_wp2_with (go_at_call 54; refine (in_any _ _ _ _).mono ?_; rintro e w' ⟨rfl, rfl⟩)
      refine bodyPost_ret (v := .tuple #[.agg #[.int .i64 2, .int .i64 0], .int .i64 4]) (by simp [results, Tryd.results49, go_sem, *]) rfl ⟨?_, ?_⟩
      · rw [HA.out]; rfl
      · exact two_fin _ _ _
  · have HA : Hid (flt c = some (1, 0)) := by show flt c = _; rw [flt, if_neg hP]
    have tP : wth c.P 1 4 = false := by simpa using hP
    clear hP
    go_enter Tryd.func49, Tryd.ntmps49
    go_wp2_with (go_at_call 54; refine (in_any _ _ _ _).mono ?_; rintro e w' ⟨rfl, rfl⟩)
    refine bodyPost_ret (v := .tuple #[.agg #[.int .i64 1, .int .i64 0], .int .i64 4]) (by simp [results, Tryd.results49, go_sem, *]) rfl ⟨?_, ?_⟩
    · rw [HA.out]; rfl
    · exact two_fin _ _ _
end Go.Proofs.YtmfkapbllmfegaaDoor.C04
