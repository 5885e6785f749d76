/- config.Path, and the document's own Path. -/
import Derived.Test.YtcaalecfideldaaDoorInto
import Derived.Test.YtcaalecfideldaaDoorLiv
namespace Go.Proofs.YtcaalecfideldaaDoor.C04
open Go.RowKit Go.Proofs.YtcaalecfideldaaDoor.G

theorem memV_into (c : Cfg) (a b : Int) : memV a (intoV c b) = pathV c a b := Bool.eq_iff_iff.2 (by rw [memV, decide_eq_true_iff, mem_into])
set_option maxHeartbeats 1000000 in
theorem path_any {w : World} {v : Value} {c : Cfg} (a b : Int) (h : CfgAt w v c) : Calls Tryd.prog 17 #[v, .int .i64 a, .int .i64 b] w (BoolPost (pathV c a b) w) := by
  have h0 := h
  obtain ⟨A1, A2, A3, c1, c2, c3, rfl, _⟩ := h
  have HC := Lib.hid (h0.alloc (.cells #[.int .i64 c.P, .int .i64 c.F, .slice A1 c.ws.length c1, .slice A2 c.cs.length c2, .slice A3 c.ac.length c3] 26))
  have HB := b01 w (.cells #[.int .i64 c.P, .int .i64 c.F, .slice A1 c.ws.length c1, .slice A2 c.cs.length c2, .slice A3 c.ac.length c3] 26)
  clear h0
  have HV := Lib.hid (memV_into c a b)
  go_enter Tryd.func17, Tryd.ntmps17
  go_wp2_with (first
    | (go_at_call 20; refine (into_any b HC.out).mono ?_; rintro e w1 ⟨v1, rfl, hO, hb⟩; obtain ⟨A, cc, rfl, hrow, hle, hmax, _⟩ := hO.row; have HB := bt HB hb; have HRow := Lib.hid hrow; clear hrow hO)
    | (go_at_call 37; refine (contains_any a HRow.out hle hmax).mono ?_; rintro e w' ⟨rfl, rfl⟩))
  go_ret
  exact BoolPost.mk' HB HV.out.symm

/-! ### The document's own -/
theorem rpath_no {c : Cfg} {a b : Int} (h : ¬ (flt c = none ∧ isp c.P a = true ∧ isp c.P b = true)) : pathV c a b = false := by
  rw [Bool.eq_false_iff]
  intro hp
  obtain ⟨h1, h2, h3, _⟩ := pathV_iff.1 hp
  exact h ⟨h1, h2, h3⟩
theorem rpath_yes {c : Cfg} {a b : Int} (hf : flt c = none) (ha : isp c.P a = true) (hb : isp c.P b = true) {P : Nat} (hP : c.P = P) (hP4 : P ≤ 4) (hr : ∀ k ∈ c.cs, rgt c.P k = true) : mrn (bak c.cs) 4 (one1 a) b = pathV c a b := by
  have ha' : 0 ≤ a ∧ a < c.P := of_decide_eq_true ha
  have hl : ∀ p ∈ bak c.cs, 0 ≤ p.1 ∧ p.1 < (P : Int) := by
    intro p hp
    obtain ⟨k, hk, rfl⟩ := List.mem_map.1 hp
    have := (rgt_ends (hr k hk)).2.1
    rw [hP] at this; exact this
  refine Bool.eq_iff_iff.2 ?_
  rw [mrn_iff hl ha'.1 (by omega) (by omega) b, rch_bak, pathV_iff]
  exact ⟨fun h => ⟨hf, ha, hb, h⟩, fun h => h.2.2.2⟩
theorem brd_step (x : Chn) (l : List Chn) (s : Int → Bool) : mrd (bak (x :: l)) s = mrd (bak l) (upd s x.t (s x.t || s x.f)) := rfl
structure RS (w : World) (cs : Array Value) (g P : Nat) (s : Int → Bool) (W : World) : Prop where
  bl : Below w.heap.size w W
  bx : Blk W w.heap.size 26 cs
  ar : Blk W g 4 (arr s P)
theorem RS.set_ {w : World} {cs : Array Value} {g P : Nat} {s : Int → Bool} {W : World} (h : RS w cs g P s W) (hg : w.heap.size < g) (i : Nat) (v : Bool) : RS w cs g P (upd s i v) (W.setCell ⟨g, i, none⟩ (.bool v)) := by
  refine ⟨h.bl.setCell (Nat.le_of_lt hg) _, h.bx.far (p := ⟨g, i, none⟩) (by simp; omega) _, ?_⟩
  have := h.ar.set_ i (.bool v)
  rw [arr_set] at this
  exact this
def RO1 (w : World) (cs : Array Value) (g P : Nat) (l : List (Int × Int)) (r : Int → Bool) (i : Value) (W : World) : Prop := ∃ (k : Nat) (s : Int → Bool), i = .int .i64 k ∧ k ≤ 4 ∧ mrn l (4 - k) s = r ∧ RS w cs g P s W
def RO2 (w : World) (cs : Array Value) (g P : Nat) (ch : List Chn) (r : Int → Bool) (i : Value) (W : World) : Prop := ∃ (k : Nat) (s : Int → Bool), i = .int .i64 k ∧ k ≤ ch.length ∧ mrd (bak (ch.drop k)) s = r ∧ RS w cs g P s W
theorem infoB : (Tryd.prog.info? 4).map (fun i => (i.zero, i.size, i.bytes)) = some (some (.bool false), 1, 1) := by kernel_rfl
theorem made_bools (k : Nat) : madeCells #[Value.bool false] k = arr (fun _ => false) k := by
  apply Array.toList_inj.1
  rw [toList_madeCells_one, arr_no]
theorem make_bools (k : Nat) (hk : k ≤ 4) (w : World) : (Instr.makeSlice 61 (.int .i64 k) (.int .i64 k)).run Tryd.prog w = .ok (.slice (some ⟨w.heap.size, 0, none⟩) k k) (w.alloc (.cells (arr (fun _ => false) k) 4)) := by
  have h := run_make_row' (P := Tryd.prog) 61 4 (.bool false) 1 Tryd.underlying61 infoB rfl .i64 .i64 k (by omega) (by omega) w
  rw [made_bools] at h
  exact h
set_option maxHeartbeats 4000000 in
set_option maxRecDepth 100000 in
theorem rpath_any {w : World} {v : Value} {c : Cfg} (a b : Int) (h : CfgAt w v c) : Calls Tryd.prog 18 #[v, .int .i64 a, .int .i64 b] w (BoolPost (pathV c a b) w) := by
  have h0 := h
  obtain ⟨A1, A2, A3, c1, c2, c3, rfl, h1, h2, h3, r1, r2, r3, r4, r5, r6, r7⟩ := h
  have B0 := Blk.new w 26 #[.int .i64 c.P, .int .i64 c.F, .slice A1 c.ws.length c1, .slice A2 c.cs.length c2, .slice A3 c.ac.length c3]
  have HC := Lib.hid (h0.alloc (.cells #[.int .i64 c.P, .int .i64 c.F, .slice A1 c.ws.length c1, .slice A2 c.cs.length c2, .slice A3 c.ac.length c3] 26))
  have H2 := Lib.hid h2
  have HB := b01 w (.cells #[.int .i64 c.P, .int .i64 c.F, .slice A1 c.ws.length c1, .slice A2 c.cs.length c2, .slice A3 c.ac.length c3] 26)
  clear h0 h1 h2 h3 r7
  obtain ⟨f, hff⟩ : ∃ f, flt c = f := ⟨_, rfl⟩
  have HF := Lib.hid hff
  cases f with
  | some x =>
    have HN := Lib.hid (rpath_no (c := c) (a := a) (b := b) (fun hh => by rw [hff] at hh; exact absurd hh.1 (by simp)))
    clear hff
    go_enter Tryd.func18, Tryd.ntmps18
    go_wp2_with (go_at_call 38; refine (rmay_any HC.out).mono ?_; rintro e w1 ⟨rfl, hb⟩; rw [HF.out]; unfold Option.isNone; have HB := bt HB hb; have B0 := B0.bel hb; have q0 := B0.cell)
    go_ret
    exact BoolPost.mk' HB HN.out
  | none =>
    obtain ⟨⟨n1, n2⟩, _, _, _, hc6, hcb, _⟩ := flt_none hff
    have hr := cbad_none _ _ hcb
    by_cases ha : wth a 0 (c.P - 1) = true
    · by_cases hb : wth b 0 (c.P - 1) = true
      · have ha' := wth_yes ha
        have hb' := wth_yes hb
        obtain ⟨P, hP⟩ := Int.eq_ofNat_of_zero_le (show 0 ≤ c.P by omega)
        obtain ⟨x0, rfl⟩ := Int.eq_ofNat_of_zero_le ha'.1
        obtain ⟨y0, rfl⟩ := Int.eq_ofNat_of_zero_le hb'.1
        have HV := Lib.hid (rpath_yes hff (decide_eq_true (by omega)) (decide_eq_true (by omega)) hP (by omega) hr (a := (x0 : Int)) (b := (y0 : Int)))
        have HR : Hid (∀ k ∈ c.cs, (0 ≤ k.f ∧ k.f < c.P) ∧ (0 ≤ k.t ∧ k.t < c.P)) := fun k hk => ⟨(rgt_ends (hr k hk)).1, (rgt_ends (hr k hk)).2.1⟩
        clear hff hcb hr
        obtain ⟨cP, cF, ws, cs, ac⟩ := c
        simp only at *
        subst hP
        have hx1 : (x0 : Int) < (P : Int) := by omega
        have hy1 : (y0 : Int) < (P : Int) := by omega
        have hx0 : (0 : Int) ≤ (x0 : Int) := by omega
        have hy0 : (0 : Int) ≤ (y0 : Int) := by omega
        have hmk := make_bools P (by omega)
        go_enter Tryd.func18, Tryd.ntmps18
        go_upto_region 5 with (first
          | (go_at_call 38; refine (rmay_any HC.out).mono ?_; rintro e w1 ⟨rfl, hb1⟩; rw [HF.out]; unfold Option.isNone; have HB := bt HB hb1; have B0 := B0.bel hb1; have q0 := B0.cell)
          | (go_at_call 39; refine (in_any _ _ _ _).mono ?_; rintro e w' ⟨rfl, rfl⟩))
        have hgl : w.heap.size < w1.heap.size := B0.lt
        have G0 : RS w #[.int .i64 P, .int .i64 cF, .slice A1 ws.length c1, .slice A2 cs.length c2, .slice A3 ac.length c3] w1.heap.size P (fun _ => false) (w1.alloc (.cells (arr (fun _ => false) P) 4)) := ⟨ba1 HB _, B0.alloc _, Blk.new w1 4 _⟩
        obtain ⟨g, hg⟩ : ∃ g, w1.heap.size = g := ⟨_, rfl⟩
        rw [hg] at hgl G0
        generalize w1.alloc (.cells (arr (fun _ => false) P) 4) = W0 at *
        rw [hg]
        clear hg hb1 HB B0 q0 hmk
        have zl := G0.ar.lt
        have zf := G0.ar.frozen x0
        have z4 := Blk.arr_cell G0.ar (k := x0) (by omega)
        have G : RS w #[.int .i64 P, .int .i64 cF, .slice A1 ws.length c1, .slice A2 cs.length c2, .slice A3 ac.length c3] g P (one1 x0) (W0.setCell ⟨g, x0, none⟩ (.bool true)) := G0.set_ hgl x0 true
        clear G0
        go_upto_region 6 with fail
        clear z4 zf zl
        generalize W0.setCell ⟨g, x0, none⟩ (.bool true) = W1 at *
        obtain ⟨T, hT⟩ : ∃ T, mrn (bak cs) 4 (one1 (x0 : Int)) = T := ⟨_, rfl⟩
        have HT := Lib.hid hT
        clear hT
        have q0 := G.bx.cell
        go_wp2_with fail
        go_loopw [9] (fun i W => RO1 w #[.int .i64 P, .int .i64 cF, .slice A1 ws.length c1, .slice A2 cs.length c2, .slice A3 ac.length c3] g P (bak cs) T i W) (fun i _ => 4 - (intOf i).toNat)
        case atStart => exact ⟨0, one1 x0, rfl, by omega, HT.out, G⟩
        case round =>
          clear G q0
          obtain ⟨k, s, rfl, hk, hs, G⟩ := hrel
          have HK := Lib.hid hs
          clear hs
          have q0 := G.bx.cell
          by_cases hlt : k < 4
          · have hlt' : (k : Int) < 4 := by omega
            obtain ⟨T2, hT2⟩ : ∃ T2, mrd (bak cs) s = T2 := ⟨_, rfl⟩
            have HT2 := Lib.hid hT2
            clear hT2
            go_wp2_with fail
            go_loopw [10] (fun i W => RO2 w #[.int .i64 P, .int .i64 cF, .slice A1 ws.length c1, .slice A2 cs.length c2, .slice A3 ac.length c3] g P cs T2 i W) (fun i _ => cs.length - (intOf i).toNat)
            case atStart => exact ⟨0, s, rfl, by omega, HT2.out, G⟩
            case round =>
              clear G q0
              obtain ⟨j, s2, rfl, hj, hs2, G⟩ := hrel
              have HJ := Lib.hid hs2
              clear hs2
              have q0 := G.bx.cell
              by_cases hlt2 : j < cs.length
              · obtain ⟨x, hx, hd⟩ := drop_cons hlt2
                have HX := Lib.hid hd
                have hxm := HR.out x (List.mem_of_getElem? hx)
                obtain ⟨⟨hf0, hf1⟩, ht0, ht1⟩ := hxm
                obtain ⟨nf, hnf⟩ := Int.eq_ofNat_of_zero_le hf0
                obtain ⟨nt, hnt⟩ := Int.eq_ofNat_of_zero_le ht0
                obtain ⟨b0, o, rfl, hbl, g0, g1, g2, g3, g4, g5, g6, g7, g8, g9, g10⟩ := row_chn (H2.out.below G.bl) hx
                rw [hnf] at g1 hf1
                rw [hnt] at g2 ht1
                have HNF := Lib.hid hnf
                have HNT := Lib.hid hnt
                clear hd hf0 ht0 hnf hnt g0 g3 g4 g5 g6 g7 g8 g9 g10
                have zl := G.ar.lt
                have zf := G.ar.frozen nt
                have z1 := Blk.arr_cell G.ar (k := nf) (by omega)
                have z2 := Blk.arr_cell G.ar (k := nt) (by omega)
                have GH := Lib.hid G
                clear G
                obtain ⟨bf, hbf⟩ : ∃ bf, s2 (nf : Int) = bf := ⟨_, rfl⟩
                rw [hbf] at z1
                have HBF := Lib.hid hbf
                clear hbf
                cases bf with
                | true =>
                  go_wp2_with fail
                  go_roundw
                  case rel => exact ⟨j + 1, upd s2 nt true, by go_num, by omega, by rw [← HJ.out, HX.out, brd_step, HNT.out, HNF.out, HBF.out, Bool.or_true], GH.out.set_ hgl nt true⟩
                  case measure => simp [intOf]; omega
                | false =>
                  go_wp2_with fail
                  go_roundw
                  case rel => exact ⟨j + 1, s2, by go_num, by omega, by rw [← HJ.out, HX.out, brd_step, HNT.out, HNF.out, HBF.out, Bool.or_false, upd_id], GH.out⟩
                  case measure => simp [intOf]; omega
              · go_wp2_with fail
                go_roundw
                case rel =>
                  refine ⟨k + 1, s2, by go_num, by omega, ?_, G⟩
                  have e1 : 4 - k = (4 - (k + 1)) + 1 := by omega
                  have e2 := HJ.out
                  rw [List.drop_of_length_le (by omega)] at e2
                  have e3 := HK.out
                  rw [e1, mrn, HT2.out, ← e2] at e3
                  exact e3
                case measure => simp [intOf]; omega
          · have hlt' : ¬ (k : Int) < 4 := by omega
            have eT : s = T := by
              have e3 := HK.out
              have e1 : 4 - k = 0 := by omega
              rw [e1, mrn] at e3
              exact e3
            subst eT
            have z1 := Blk.arr_cell G.ar (k := y0) (by omega)
            have zl := G.ar.lt
            go_wp2_with fail
            go_ret
            refine BoolPost.mk' G.bl ?_
            rw [← HV.out, HT.out]
      · have HN := Lib.hid (rpath_no (c := c) (a := a) (b := b) (fun hh => hb (by have := of_decide_eq_true hh.2.2; simp only [wth, decide_eq_true_eq]; omega)))
        have tb : wth b 0 (c.P - 1) = false := by simpa using hb
        clear hff hb hcb hr
        go_enter Tryd.func18, Tryd.ntmps18
        go_wp2_with (first
          | (go_at_call 38; refine (rmay_any HC.out).mono ?_; rintro e w1 ⟨rfl, hb⟩; rw [HF.out]; unfold Option.isNone; have HB := bt HB hb; have B0 := B0.bel hb; have q0 := B0.cell)
          | (go_at_call 39; refine (in_any _ _ _ _).mono ?_; rintro e w' ⟨rfl, rfl⟩))
        go_ret
        exact BoolPost.mk' HB HN.out
    · have HN := Lib.hid (rpath_no (c := c) (a := a) (b := b) (fun hh => ha (by have := of_decide_eq_true hh.2.1; simp only [wth, decide_eq_true_eq]; omega)))
      have ta : wth a 0 (c.P - 1) = false := by simpa using ha
      clear hff ha hcb hr
      go_enter Tryd.func18, Tryd.ntmps18
      go_wp2_with (first
        | (go_at_call 38; refine (rmay_any HC.out).mono ?_; rintro e w1 ⟨rfl, hb⟩; rw [HF.out]; unfold Option.isNone; have HB := bt HB hb; have B0 := B0.bel hb; have q0 := B0.cell)
        | (go_at_call 39; refine (in_any _ _ _ _).mono ?_; rintro e w' ⟨rfl, rfl⟩))
      go_ret
      exact BoolPost.mk' HB HN.out
end Go.Proofs.YtcaalecfideldaaDoor.C04
