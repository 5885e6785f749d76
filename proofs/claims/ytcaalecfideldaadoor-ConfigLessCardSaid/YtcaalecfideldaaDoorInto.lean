/- config.Into: those from which a path leads. -/
import Derived.Test.YtcaalecfideldaaDoorIdx
import Derived.Test.YtcaalecfideldaaDoorOne0
import Derived.StillTailTactics
import Derived.Deep.DeepCutAuto
import Derived.Deep.CutRange
import Derived.Deep.CutBlock
namespace Go.Proofs.YtcaalecfideldaaDoor.C04
open Go.RowKit Go.Proofs.YtcaalecfideldaaDoor.G

def IntoPost (l : List Int) (w : World) (e : Ending) (w' : World) : Prop := ∃ v, e = .returned v ∧ Own w' w.heap.size 3 1 v l.length (ivs l) ∧ Below w.heap.size w w'
theorem into_no {c : Cfg} {b : Int} (h : ¬ (flt c = none ∧ isp c.P b = true)) : intoV c b = [] := by
  unfold intoV
  refine sel_none 4 0 fun k _ _ => ?_
  rw [Bool.eq_false_iff]
  intro hp
  obtain ⟨h1, _, h2, _⟩ := pathV_iff.1 hp
  exact h ⟨h1, h2⟩
/-- What the code marks, and the list of it. -/
theorem into_yes {c : Cfg} {b : Int} (hf : flt c = none) (hb : isp c.P b = true) {P : Nat} (hP : c.P = P) (hP1 : 1 ≤ P) (hP4 : P ≤ 4) (hr : ∀ k ∈ c.cs, rgt c.P k = true) : sel (mrn (fro c.cs) (P - 1) (one1 b)) 0 P = intoV c b := by
  have hb' : 0 ≤ b ∧ b < c.P := of_decide_eq_true hb
  have hl : ∀ p ∈ fro c.cs, 0 ≤ p.1 ∧ p.1 < (P : Int) := by
    intro p hp
    obtain ⟨k, hk, rfl⟩ := List.mem_map.1 hp
    have := (rgt_ends (hr k hk)).1
    rw [hP] at this; exact this
  have e4 : 4 = P + (4 - P) := by omega
  unfold intoV
  rw [e4, sel_more P 0 (4 - P) (fun k hk => by
    rw [Bool.eq_false_iff]
    intro hp
    have : 0 ≤ (k : Int) ∧ (k : Int) < c.P := of_decide_eq_true (pathV_iff.1 hp).2.1
    omega)]
  refine sel_congr P 0 fun k _ hk => Bool.eq_iff_iff.2 ?_
  rw [mrn_iff hl hb'.1 (by omega) (by omega) (k : Int), rch_fro, pathV_iff]
  constructor
  · intro h
    exact ⟨hf, decide_eq_true (by omega), hb, h⟩
  · exact fun h => h.2.2.2
theorem mrd_step (x : Chn) (l : List Chn) (s : Int → Bool) : mrd (fro (x :: l)) s = mrd (fro l) (upd s x.f (s x.f || s x.t)) := rfl
structure IS (w : World) (cs : Array Value) (g : Nat) (s : Int → Bool) (W : World) : Prop where
  bl : Below w.heap.size w W
  bx : Blk W w.heap.size 26 cs
  ar : Blk W g 65 (arr s 4)
theorem IS.alloc {w : World} {cs : Array Value} {g : Nat} {s : Int → Bool} {W : World} (h : IS w cs g s W) (o : Obj) : IS w cs g s (W.alloc o) := ⟨ba1 h.bl o, h.bx.alloc o, h.ar.alloc o⟩
theorem IS.drewN {w : World} {cs : Array Value} {g : Nat} {s : Int → Bool} {W : World} (h : IS w cs g s W) (n : Nat) : IS w cs g s (W.drewN n) := ⟨bn h.bl n, h.bx, h.ar⟩
theorem IS.drew {w : World} {cs : Array Value} {g : Nat} {s : Int → Bool} {W : World} (h : IS w cs g s W) : IS w cs g s W.drew := ⟨h.bl.drew, h.bx, h.ar⟩
theorem IS.set_ {w : World} {cs : Array Value} {g : Nat} {s : Int → Bool} {W : World} (h : IS w cs g s W) (hg : w.heap.size < g) (i : Nat) (v : Bool) : IS w cs g (upd s i v) (W.setCell ⟨g, i, none⟩ (.bool v)) := by
  refine ⟨h.bl.setCell (Nat.le_of_lt hg) _, h.bx.far (p := ⟨g, i, none⟩) (by simp; omega) _, ?_⟩
  have := h.ar.set_ i (.bool v)
  rw [arr_set] at this
  exact this
def IO1 (w : World) (cs : Array Value) (g : Nat) (l : List (Int × Int)) (n : Nat) (r : Int → Bool) (i : Value) (W : World) : Prop := ∃ (k : Nat) (s : Int → Bool), i = .int .i64 k ∧ k ≤ n ∧ mrn l (n - k) s = r ∧ IS w cs g s W
def IO2 (w : World) (cs : Array Value) (g : Nat) (ch : List Chn) (r : Int → Bool) (i : Value) (W : World) : Prop := ∃ (k : Nat) (s : Int → Bool), i = .int .i64 k ∧ k ≤ ch.length ∧ mrd (fro (ch.drop k)) s = r ∧ IS w cs g s W
def IO3 (w : World) (cs : Array Value) (g : Nat) (s : Int → Bool) (P : Nat) (r : List Int) (i v : Value) (W : World) : Prop := ∃ (k : Nat) (l : List Int), i = .int .i64 k ∧ k ≤ P ∧ l.length ≤ k ∧ l ++ sel s k (P - k) = r ∧ IS w cs g s W ∧ Own W w.heap.size 3 1 v l.length (ivs l)
set_option maxHeartbeats 4000000 in
set_option maxRecDepth 100000 in
theorem into_any {w : World} {v : Value} {c : Cfg} (b : Int) (h : CfgAt w v c) : Calls Tryd.prog 20 #[v, .int .i64 b] w (IntoPost (intoV c b) w) := by
  have h0 := h
  obtain ⟨A1, A2, A3, c1, c2, c3, rfl, h1, h2, h3, r1, r2, r3, r4, r5, r6, r7⟩ := h
  have B0 := Blk.new w 26 #[.int .i64 c.P, .int .i64 c.F, .slice A1 c.ws.length c1, .slice A2 c.cs.length c2, .slice A3 c.ac.length c3]
  have HC := Lib.hid (h0.alloc (.cells #[.int .i64 c.P, .int .i64 c.F, .slice A1 c.ws.length c1, .slice A2 c.cs.length c2, .slice A3 c.ac.length c3] 26))
  have H2 := Lib.hid h2
  have HB := b01 w (.cells #[.int .i64 c.P, .int .i64 c.F, .slice A1 c.ws.length c1, .slice A2 c.cs.length c2, .slice A3 c.ac.length c3] 26)
  clear h0 h1 h2 h3 r7
  obtain ⟨f, hff⟩ : ∃ f, flt c = f := ⟨_, rfl⟩
  have HF := Lib.hid hff
  cases f with
  | some x =>
    obtain ⟨p, n⟩ := x
    have HN := Lib.hid (into_no (c := c) (b := b) (fun hh => by rw [hff] at hh; exact absurd hh.1 (by simp)))
    clear hff
    go_enter Tryd.func20, Tryd.ntmps20
    go_wp2_with (go_at_call 40; refine (first_any HC.out).mono ?_; rintro e w1 ⟨rfl, hb⟩; rw [HF.out]; unfold errV; have HB := bt HB hb)
    go_ret
    rw [HN.out]
    exact ⟨_, rfl, Own.nil_ _ _ _ _, HB⟩
  | none =>
    by_cases hp : isp c.P b = true
    · obtain ⟨⟨n1, n2⟩, _, _, _, hc6, hcb, _⟩ := flt_none hff
      have hr := cbad_none _ _ hcb
      have hb' : 0 ≤ b ∧ b < c.P := of_decide_eq_true hp
      obtain ⟨P, hP⟩ := Int.eq_ofNat_of_zero_le (show 0 ≤ c.P by omega)
      obtain ⟨r, rfl⟩ := Int.eq_ofNat_of_zero_le hb'.1
      have HV := Lib.hid (into_yes hff hp hP (by omega) (by omega) hr)
      have HR : Hid (∀ k ∈ c.cs, (0 ≤ k.f ∧ k.f < c.P) ∧ (0 ≤ k.t ∧ k.t < c.P)) := fun k hk => ⟨(rgt_ends (hr k hk)).1, (rgt_ends (hr k hk)).2.1⟩
      clear hff hcb hr
      obtain ⟨cP, cF, ws, cs, ac⟩ := c
      simp only at *
      subst hP
      have hr4 : (r : Int) < 4 := by omega
      have hr0 : (0 : Int) ≤ (r : Int) := by omega
      have ht : isp (P : Int) (r : Int) = true := hp
      clear hp
      go_enter Tryd.func20, Tryd.ntmps20
      go_upto_region 4 with (first
        | (go_at_call 40; refine (first_any HC.out).mono ?_; rintro e w1 ⟨rfl, hb⟩; rw [HF.out]; unfold errV; have HB := bt HB hb; have B0 := B0.bel hb; have q0 := B0.cell)
        | (go_at_call 41; refine (ispart_any _ _ _ _ _ _ _).mono ?_; rintro e w2 ⟨rfl, hb2⟩; have HB := bt HB hb2; have B0 := B0.bel hb2))
      have hgl : w.heap.size < w2.heap.size := B0.lt
      have G0 : IS w #[.int .i64 P, .int .i64 cF, .slice A1 ws.length c1, .slice A2 cs.length c2, .slice A3 ac.length c3] w2.heap.size (fun _ => false) (w2.alloc (.cells #[.bool false, .bool false, .bool false, .bool false] 65)) := ⟨ba1 HB _, B0.alloc _, Blk.new w2 65 _⟩
      obtain ⟨g, hg⟩ : ∃ g, w2.heap.size = g := ⟨_, rfl⟩
      rw [hg] at hgl G0
      generalize w2.alloc (.cells #[.bool false, .bool false, .bool false, .bool false] 65) = W0 at *
      rw [hg]
      clear hg hb hb2 HB B0 q0
      have zl := G0.ar.lt
      have zf := G0.ar.frozen r
      have z4 := Blk.arr_cell G0.ar (k := r) (by omega)
      have G : IS w #[.int .i64 P, .int .i64 cF, .slice A1 ws.length c1, .slice A2 cs.length c2, .slice A3 ac.length c3] g (one1 r) (W0.setCell ⟨g, r, none⟩ (.bool true)) := G0.set_ hgl r true
      clear G0
      go_upto_region 5 with fail
      clear z4 zf zl
      generalize W0.setCell ⟨g, r, none⟩ (.bool true) = W1 at *
      have HS : Hid (∃ T, mrn (fro cs) (P - 1) (one1 (r : Int)) = T) := ⟨_, rfl⟩
      obtain ⟨T, hT⟩ := HS.out
      have HT := Lib.hid hT
      clear hT HS
      have q0 := G.bx.cell
      go_wp2_with fail
      go_loopw [24] (fun i W => IO1 w #[.int .i64 P, .int .i64 cF, .slice A1 ws.length c1, .slice A2 cs.length c2, .slice A3 ac.length c3] g (fro cs) (P - 1) T i W) (fun i _ => P - 1 - (intOf i).toNat)
      case atStart => exact ⟨0, one1 r, rfl, by omega, HT.out, G⟩
      case round =>
        clear G q0
        obtain ⟨k, s, rfl, hk, hs, G⟩ := hrel
        have HK := Lib.hid hs
        clear hs
        have q0 := G.bx.cell
        by_cases hlt : k < P - 1
        · have hlt' : (k : Int) < (P : Int) - 1 := by omega
          obtain ⟨T2, hT2⟩ : ∃ T2, mrd (fro cs) s = T2 := ⟨_, rfl⟩
          have HT2 := Lib.hid hT2
          clear hT2
          go_wp2_with fail
          go_loopw [29] (fun i W => IO2 w #[.int .i64 P, .int .i64 cF, .slice A1 ws.length c1, .slice A2 cs.length c2, .slice A3 ac.length c3] g cs T2 i W) (fun i _ => cs.length - (intOf i).toNat)
          case atStart => exact ⟨0, s, rfl, by omega, HT2.out, G⟩
          case round =>
            clear G q0
            obtain ⟨j, s2, rfl, hj, hs2, G⟩ := hrel
            have HJ := Lib.hid hs2
            clear hs2
            have q0 := G.bx.cell
            by_cases hlt2 : j < cs.length
            · obtain ⟨x, hx, hd⟩ := drop_cons hlt2
              have HX := Lib.hid hd
              have hxm := HR.out x (List.mem_of_getElem? hx)
              obtain ⟨⟨hf0, hf1⟩, ht0, ht1⟩ := hxm
              obtain ⟨nf, hnf⟩ := Int.eq_ofNat_of_zero_le hf0
              obtain ⟨nt, hnt⟩ := Int.eq_ofNat_of_zero_le ht0
              obtain ⟨b0, o, rfl, hbl, g0, g1, g2, g3, g4, g5, g6, g7, g8, g9, g10⟩ := row_chn (H2.out.below G.bl) hx
              rw [hnf] at g1 hf1
              rw [hnt] at g2 ht1
              have hf4 : (nf : Int) < 4 := by omega
              have ht4 : (nt : Int) < 4 := by omega
              have HNF := Lib.hid hnf
              have HNT := Lib.hid hnt
              clear hd hf0 ht0 hnf hnt
              go_upto_region 10 with fail
              clear g0 g1 g2 g3 g4 g5 g6 g7 g8 g9 g10
              have GA := G.alloc (.cells #[.int .i64 x.k, .int .i64 nf, .int .i64 nt, .int .i64 x.w, .int .i64 x.r, .int .i64 x.la, .int .i64 x.d, .int .i64 x.h, .int .i64 x.li, .int .i64 x.ra, .int .i64 x.c] 38)
              have gx := (Blk.new wr 38 #[.int .i64 x.k, .int .i64 nf, .int .i64 nt, .int .i64 x.w, .int .i64 x.r, .int .i64 x.la, .int .i64 x.d, .int .i64 x.h, .int .i64 x.li, .int .i64 x.ra, .int .i64 x.c]).cell
              obtain ⟨gn, hgn⟩ : ∃ gn, wr.heap.size = gn := ⟨_, rfl⟩
              rw [hgn] at gx
              rw [hgn]
              generalize wr.alloc (.cells #[.int .i64 x.k, .int .i64 nf, .int .i64 nt, .int .i64 x.w, .int .i64 x.r, .int .i64 x.la, .int .i64 x.d, .int .i64 x.h, .int .i64 x.li, .int .i64 x.ra, .int .i64 x.c] 38) = WA at *
              clear hgn G q0 hbl
              have zl := GA.ar.lt
              have zf := GA.ar.frozen nf
              have z1 := Blk.arr_cell GA.ar (k := nf) (by omega)
              have z2 := Blk.arr_cell GA.ar (k := nt) (by omega)
              have GAH := Lib.hid GA
              clear GA
              obtain ⟨bf, hbf⟩ : ∃ bf, s2 (nf : Int) = bf := ⟨_, rfl⟩
              obtain ⟨bt', hbt⟩ : ∃ bt', s2 (nt : Int) = bt' := ⟨_, rfl⟩
              rw [hbf] at z1
              rw [hbt] at z2
              have HBF := Lib.hid hbf
              have HBT := Lib.hid hbt
              clear hbf hbt
              cases bf with
              | true =>
                go_still_tail 13, (by kernel_rfl)
                go_wp2_with fail
                go_roundw
                case rel => exact ⟨j + 1, upd s2 nf true, by go_num, by omega, by rw [← HJ.out, HX.out, mrd_step, HNF.out, HBF.out, Bool.true_or], (GAH.out.drew).set_ hgl nf true⟩
                case measure => simp [intOf]; omega
              | false =>
                go_still_tail 13, (by kernel_rfl)
                go_wp2_with fail
                go_roundw
                case rel => exact ⟨j + 1, upd s2 nf bt', by go_num, by omega, by rw [← HJ.out, HX.out, mrd_step, HNF.out, HBF.out, HNT.out, HBT.out, Bool.false_or], (GAH.out.drew).set_ hgl nf bt'⟩
                case measure => simp [intOf]; omega
            · go_wp2_with fail
              go_roundw
              case rel =>
                refine ⟨k + 1, s2, by go_num, by omega, ?_, G⟩
                have e1 : P - 1 - k = (P - 1 - (k + 1)) + 1 := by omega
                have e2 := HJ.out
                rw [List.drop_of_length_le (by omega)] at e2
                have e3 := HK.out
                rw [e1, mrn, HT2.out, ← e2] at e3
                exact e3
              case measure => simp [intOf]; omega
        · have hlt' : ¬ (k : Int) < (P : Int) - 1 := by omega
          have eT : s = T := by
            have e3 := HK.out
            have e1 : P - 1 - k = 0 := by omega
            rw [e1, mrn] at e3
            exact e3
          subst eT
          have HVV : Hid (intoV ⟨(P : Int), cF, ws, cs, ac⟩ (r : Int) = sel s 0 P) := by
            show intoV ⟨(P : Int), cF, ws, cs, ac⟩ (r : Int) = sel s 0 P
            rw [← HV.out, HT.out]
          clear HK HT HV
          obtain ⟨i0, hi, hz0, hz1, hz2⟩ := info_parts infoI
          go_wp2_with fail
          go_loopw [8, 50] (fun v i W => IO3 w #[.int .i64 P, .int .i64 cF, .slice A1 ws.length c1, .slice A2 cs.length c2, .slice A3 ac.length c3] g s P (sel s 0 P) i v W) (fun v i _ => P - (intOf i).toNat)
          case atStart => exact ⟨0, [], rfl, by omega, by simp, rfl, G, Own.nil_ _ _ _ _⟩
          case round =>
            clear G q0
            obtain ⟨j, l, rfl, hj, hll, hl, G, hO⟩ := hrel
            have HL := Lib.hid hl
            clear hl
            obtain ⟨P3, p3, hv3⟩ := own_slice hO
            subst hv3
            by_cases hlt2 : j < P
            · have hlt3 : (j : Int) < (P : Int) := by omega
              have hj4 : (j : Int) < 4 := by omega
              have z1 := Blk.arr_cell G.ar (k := j) (by omega)
              obtain ⟨bj, hbj⟩ : ∃ bj, s (j : Int) = bj := ⟨_, rfl⟩
              rw [hbj] at z1
              have HBJ := Lib.hid hbj
              clear hbj
              have e1 : P - j = (P - (j + 1)) + 1 := by omega
              have HE1 := Lib.hid e1
              clear e1
              cases bj with
              | true =>
                have GA := G.alloc (.cells #[.int .i64 j] 3)
                have OA := hO.alloc (.cells #[.int .i64 j] 3)
                have hsz := GA.bl.size
                go_wp2_with (at_builtin; refine wpList_app Tryd.underlying24 hi hz0 hz1 hz2 rfl (by omega) rfl _ _ rfl w.heap.size (.slice P3 l.length p3) l.length (ivs l) rfl OA (some ⟨wr.heap.size, 0, none⟩) 1 1 [.int .i64 j] rfl (Row.of_blk (Blk.new wr 3 _) (fun j u hj => by simpa using hj)) rfl (ivs_one [(j : Int)]) (by omega) (by omega) hsz ?_; intro v' w' hown hbl' hgrow hob; clear hob; obtain ⟨P4, p4, hv4⟩ := own_slice hown; subst hv4; have N : IS w #[.int .i64 P, .int .i64 cF, .slice A1 ws.length c1, .slice A2 cs.length c2, .slice A3 ac.length c3] g s w' := ⟨GA.bl.trans hbl', grown_blk GA.bx hgrow (own_off OA GA.bx (by decide)), grown_blk GA.ar hgrow (own_off OA GA.ar (by decide))⟩)
                go_roundw
                case rel => exact ⟨j + 1, l ++ [(j : Int)], by go_num, by omega, by simp; omega, by rw [← HL.out, HE1.out, sel, if_pos HBJ.out, List.append_assoc]; rfl, N, by rw [ivs_app, List.length_append]; exact hown⟩
                case measure => simp [intOf]; omega
              | false =>
                go_wp2_with fail
                go_roundw
                case rel => exact ⟨j + 1, l, by go_num, by omega, by omega, by rw [← HL.out, HE1.out, sel, if_neg (by rw [HBJ.out]; decide)], G, hO⟩
                case measure => simp [intOf]; omega
            · have hlt3 : ¬ (j : Int) < (P : Int) := by omega
              have el : l = sel s 0 P := by
                have e := HL.out
                have e1 : P - j = 0 := by omega
                rw [e1, sel, List.append_nil] at e
                exact e
              go_wp2_with fail
              go_ret
              rw [HVV.out, ← el]
              exact ⟨_, rfl, hO, G.bl⟩
    · have HN := Lib.hid (into_no (c := c) (b := b) (fun hh => hp hh.2))
      have tp : isp c.P b = false := by simpa using hp
      clear hp hff
      go_enter Tryd.func20, Tryd.ntmps20
      go_wp2_with (first
        | (go_at_call 40; refine (first_any HC.out).mono ?_; rintro e w1 ⟨rfl, hb⟩; rw [HF.out]; unfold errV; have HB := bt HB hb; have B0 := B0.bel hb; have q0 := B0.cell)
        | (go_at_call 41; refine (ispart_any _ _ _ _ _ _ _).mono ?_; rintro e w2 ⟨rfl, hb2⟩; have HB := bt HB hb2; have B0 := B0.bel hb2))
      go_ret
      rw [HN.out]
      exact ⟨_, rfl, Own.nil_ _ _ _ _, HB⟩
end Go.Proofs.YtcaalecfideldaaDoor.C04
