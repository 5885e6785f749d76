/- The document's own 'Good': a config that may be, small, made of any, its channels' kinds and number told: a contract. -/
import Derived.Test.YtmfkapbllmfegaaGood0
import Derived.Test.YtmfkapbllmfegaaNear1
import Derived.Deep.CutBlock
import Derived.StillTailTactics
import Derived.Deep.RegionLaw
namespace Go.Proofs.Ytmfkapbllmfegaa.C04.One
open Go.RowKit Go.Proofs.Ytmfkapbllmfegaa.G Go.Proofs.Ytmfkapbllmfegaa.C04
attribute [local go_sem ↓] Go.wp_at_zero Go.wp_at_succ

def GoodC (c : Cfg) : Prop := flt c = none ∧ c.ws.length ≤ 6 ∧ c.cs.length ≤ 5 ∧ (∀ (k : Nat) (x : Chn), c.cs[k]? = some x → smallC x) ∧ c.F ≤ 50
/-- The channels' kinds, as those they are made of. -/
def KK (l0 cs : List Chn) : Prop := ∀ (j : Nat) (x y : Chn), l0[j]? = some x → cs[j]? = some y → y.k = nearV x.k 0 2
theorem KK.snoc {l0 cs : List Chn} {x y : Chn} (h : KK l0 cs) (hx : l0[cs.length]? = some x) (hy : y.k = nearV x.k 0 2) : KK l0 (cs ++ [y]) := by
  intro j a b ha hb
  rw [List.getElem?_append] at hb
  split at hb
  · exact h j a b ha hb
  · rcases hk : j - cs.length with _ | i
    · rw [hk] at hb
      simp at hb
      subst hb
      have e : j = cs.length := by omega
      rw [e, hx] at ha
      injection ha with ha
      rw [← ha]; exact hy
    · rw [hk] at hb; simp at hb
def GoodPost (c : Cfg) (w : World) (e : Ending) (w' : World) : Prop := ∃ v g, e = .returned v ∧ CfgOwn w' w.heap.size v g ∧ GoodC g ∧ g.P = nearV c.P 1 4 ∧ KK c.cs g.cs ∧ (1 < g.P → g.cs.length = min c.cs.length 5) ∧ Below w.heap.size w w'
def WSs (l : List Win) : Prop := ∀ (k : Nat) (x : Win), l[k]? = some x → x.s ≤ 9223372036854775807
theorem snoc_all {α : Type} {p : α → Prop} {l : List α} {x : α} (h : ∀ (k : Nat) (y : α), l[k]? = some y → p y) (hx : p x) : ∀ (k : Nat) (y : α), (l ++ [x])[k]? = some y → p y := by
  intro k y hy
  rw [List.getElem?_append] at hy
  split at hy
  · exact h k y hy
  · rcases hk : k - l.length with _ | j
    · rw [hk] at hy; simp at hy; subst hy; exact hx
    · rw [hk] at hy; simp at hy
def InvG1 (w : World) (ci : Array Value) (P : Int) (n : Nat) (j i : Value) (W : World) : Prop := ∃ (k : Nat) (e : Int) (ws : List Win) (v1 : Value), i = .int .i64 k ∧ j = .int .i64 e ∧ (k : Int) ≤ e ∧ e ≤ 8 * k ∧ k ≤ n ∧ k ≤ 6 ∧ ws.length = k ∧ wend 0 ws = e ∧ (∀ F, e ≤ F → wbad P F 0 0 ws = none) ∧ WSs ws ∧ GS w ci P 0 v1 (.slice none 0 0) (.slice none 0 0) ws [] [] W
theorem own_blk {W : World} {B g : Nat} {t : TypeId} {m n : Nat} {cur : Array Value} {xs : List Value} (h : Blk W g t cur) (hB : B ≤ g) (hn : n ≤ maxLen) (hs : cur.size = n * m) (hx : cur.toList = xs) : Own W B t m (.slice (some ⟨g, 0, none⟩) n n) n xs := by
  have hl : xs.length = n * m := by rw [← hx]; simpa using hs
  exact ⟨hl, .inr ⟨g, n, cur, rfl, hB, h, Nat.le_refl _, hn, hs, by rw [hx]; exact List.take_of_length_le (by omega)⟩⟩
theorem _root_.Go.Proofs.Ytmfkapbllmfegaa.C04.GS.set1' {w W : World} {ci : Array Value} {P F : Int} {v1 v2 v3 v' : Value} {ws ws' : List Win} {cs : List Chn} {ac : List Int} (h : GS w ci P F v1 v2 v3 ws cs ac W) (p1 : Own W w.heap.size 91 3 v' ws'.length (wvs ws')) : GS w ci P F v' v2 v3 ws' cs ac (W.setCell ⟨w.heap.size + 1 + 1, 2, none⟩ v') :=
  ⟨h.b0.far (p := ⟨w.heap.size + 1 + 1, 2, none⟩) (by simp; omega) _, h.b1.far (p := ⟨w.heap.size + 1 + 1, 2, none⟩) (by simp) _, by simpa using h.b2.set_ 2 v', own_st p1 (own_off p1 h.b2 (by decide)) _ _, own_st h.o2 (own_off h.o2 h.b2 (by decide)) _ _, own_st h.o3 (own_off h.o3 h.b2 (by decide)) _ _, h.bl.setCell (by simp; omega) _⟩
/-- Behind the loop over the windows. -/
def CutL (w : World) (ci : Array Value) (P : Int) (j : Value) (W : World) : Prop := ∃ (e : Int) (ws : List Win) (v1 : Value), j = .int .i64 e ∧ (ws.length : Int) ≤ e ∧ e ≤ 48 ∧ ws.length ≤ 6 ∧ wend 0 ws = e ∧ (∀ F, e ≤ F → wbad P F 0 0 ws = none) ∧ WSs ws ∧ GS w ci P 0 v1 (.slice none 0 0) (.slice none 0 0) ws [] [] W
/-- Behind the windows: one at least. -/
def CutM (w : World) (ci : Array Value) (P : Int) (j : Value) (W : World) : Prop := ∃ (e : Int) (ws : List Win) (v1 : Value), j = .int .i64 e ∧ 1 ≤ e ∧ e ≤ 48 ∧ 1 ≤ ws.length ∧ ws.length ≤ 6 ∧ (∀ F, e ≤ F → wbad P F 0 0 ws = none) ∧ WSs ws ∧ GS w ci P 0 v1 (.slice none 0 0) (.slice none 0 0) ws [] [] W
/-- Behind the region that makes one window: its block. -/
def CutW (w : World) (ci : Array Value) (P : Int) (v1 : Value) (ws : List Win) (x : Win) (B0 : Nat) (s6 : Value) (W : World) : Prop := ∃ g, s6 = .pointer (some ⟨g, 0, none⟩) ∧ B0 ≤ g ∧ Blk W g 91 #[.int .i64 x.o, .int .i64 x.s, .int .i64 x.l] ∧ GS w ci P 0 v1 (.slice none 0 0) (.slice none 0 0) ws [] [] W
theorem _root_.Go.Proofs.Ytmfkapbllmfegaa.C04.ChnAt.bel1 {w W : World} {b o : Nat} {x : Chn} (h : ChnAt w b o x) (hb : b < w.heap.size) (hB : Below w.heap.size w W) : ChnAt W b o x := by
  have q := fun n => hB.cell (p := ⟨b, n, none⟩) hb
  obtain ⟨h0, h1, h2, h3, h4, h5, h6, h7, h8, h9, h10⟩ := h
  exact ⟨(q _).trans h0, (q _).trans h1, (q _).trans h2, (q _).trans h3, (q _).trans h4, (q _).trans h5, (q _).trans h6, (q _).trans h7, (q _).trans h8, (q _).trans h9, (q _).trans h10⟩
def CSm (cs : List Chn) : Prop := ∀ (k : Nat) (x : Chn), cs[k]? = some x → smallC x
def InvG2 (w : World) (ci : Array Value) (P F : Int) (v1 : Value) (ws : List Win) (l0 : List Chn) (i : Value) (W : World) : Prop := ∃ (k : Nat) (cs : List Chn) (v2 : Value), i = .int .i64 k ∧ k ≤ l0.length ∧ k ≤ 5 ∧ cs.length = k ∧ cbad P 0 cs = none ∧ (CSm cs ∧ KK l0 cs) ∧ GS w ci P F v1 v2 (.slice none 0 0) ws cs [] W
def CutN (w : World) (ci : Array Value) (P F : Int) (v1 : Value) (ws : List Win) (l0 : List Chn) (W : World) : Prop := ∃ (cs : List Chn) (v2 : Value), cs.length ≤ 5 ∧ cbad P 0 cs = none ∧ (CSm cs ∧ KK l0 cs ∧ (1 < P → cs.length = min l0.length 5)) ∧ GS w ci P F v1 v2 (.slice none 0 0) ws cs [] W
/-- Behind 'out.Channels = append(..)'. -/
def CutC (w : World) (ci : Array Value) (P F : Int) (v1 : Value) (ws : List Win) (cs : List Chn) (kd : Int) (W : World) : Prop := ∃ (x : Chn) (v2 : Value), rgt P x = true ∧ (smallC x ∧ x.k = nearV kd 0 2) ∧ GS w ci P F v1 v2 (.slice none 0 0) ws (cs ++ [x]) [] W
def InvG3 (w : World) (ci : Array Value) (P F : Int) (v1 v2 : Value) (ws : List Win) (cs : List Chn) (i : Value) (W : World) : Prop := ∃ (k : Nat) (ac : List Int) (v3 : Value), i = .int .i64 k ∧ (k : Int) ≤ P ∧ ac.length = k ∧ abad 0 ac = none ∧ GS w ci P F v1 v2 v3 ws cs ac W
theorem flt_good {P F : Int} {ws : List Win} {cs : List Chn} {ac : List Int} (hP : 1 ≤ P) (hP4 : P ≤ 4) (hF : 1 ≤ F) (hF2 : F ≤ 50) (h1 : 1 ≤ ws.length) (h6 : ws.length ≤ 6) (hw : wbad P F 0 0 ws = none) (h5 : cs.length ≤ 5) (hc : cbad P 0 cs = none) (hs : CSm cs) (ha : (ac.length : Int) = P) (hb : abad 0 ac = none) : GoodC ⟨P, F, ws, cs, ac⟩ := by
  refine ⟨?_, h6, h5, hs, hF2⟩
  have e1 : wth P 1 4 = true := by simp only [wth, decide_eq_true_eq]; omega
  have e2 : wth F 1 64 = true := by simp only [wth, decide_eq_true_eq]; omega
  have e3 : wth (ws.length : Int) 1 8 = true := by simp only [wth, decide_eq_true_eq]; omega
  have e4 : wflt ⟨P, F, ws, cs, ac⟩ = none := by simp only [wflt, e3, if_true, hw]; rfl
  have e5 : cflt ⟨P, F, ws, cs, ac⟩ = none := by simp only [cflt, hc]; rw [if_pos (by omega)]; rfl
  have e6 : aflt ⟨P, F, ws, cs, ac⟩ = none := by simp only [aflt, ha, hb, if_true]; rfl
  simp only [flt, e1, e2, if_true, e4, e5, e6]
set_option maxHeartbeats 8000000 in
set_option maxRecDepth 100000 in
theorem good_any {w : World} {v : Value} {c : Cfg} (h : CfgAt w v c) : Calls Try.prog 25 #[v] w (GoodPost c w) := by
  obtain ⟨A1, A2, A3, c1, c2, c3, rfl, h1, h2, h3, l1, m1, l2, m2, l3, m3, _⟩ := h
  have H1 := Lib.hid h1
  have H2 := Lib.hid h2
  have H3 := Lib.hid h3
  clear h1 h2 h3
  obtain ⟨P, hP⟩ : ∃ P, nearV c.P 1 4 = P := ⟨_, rfl⟩
  have HPP := Lib.hid hP
  have hPb := nearV_bd c.P 1 4 (by omega)
  rw [hP] at hPb
  have X0 := ((Blk.new w 66 #[.int .i64 c.P, .int .i64 c.F, .slice A1 c.ws.length c1, .slice A2 c.cs.length c2, .slice A3 c.ac.length c3]).alloc (.cells zcfg 66)).alloc (.cells #[.int .i64 P, .int .i64 0, .slice none 0 0, .slice none 0 0, .slice none 0 0] 66)
  have X1 := (Blk.new_at (w := w.alloc (.cells #[.int .i64 c.P, .int .i64 c.F, .slice A1 c.ws.length c1, .slice A2 c.cs.length c2, .slice A3 c.ac.length c3] 66)) (n := w.heap.size + 1) (by simp) 66 zcfg).alloc (.cells #[.int .i64 P, .int .i64 0, .slice none 0 0, .slice none 0 0, .slice none 0 0] 66)
  have X2 := Blk.new_at (w := (w.alloc (.cells #[.int .i64 c.P, .int .i64 c.F, .slice A1 c.ws.length c1, .slice A2 c.cs.length c2, .slice A3 c.ac.length c3] 66)).alloc (.cells zcfg 66)) (n := w.heap.size + 1 + 1) (by simp) 66 #[.int .i64 P, .int .i64 0, .slice none 0 0, .slice none 0 0, .slice none 0 0]
  have G0 : GS w #[.int .i64 c.P, .int .i64 c.F, .slice A1 c.ws.length c1, .slice A2 c.cs.length c2, .slice A3 c.ac.length c3] P 0 (.slice none 0 0) (.slice none 0 0) (.slice none 0 0) [] [] [] _ := ⟨X0, X1, X2, Own.nil_ _ _ _ _, Own.nil_ _ _ _ _, Own.nil_ _ _ _ _, ba1 (ba1 (b01 _ _) _) _⟩
  clear X0 X1 X2
  unfold zcfg at G0
  go_enter Try.func25, Try.ntmps25
  go_upto_block 0 with (go_at_call 49; (with_reducible refine (near_any _ _ _ (by omega) (by omega) (by omega) (by omega) _).mono ?_); rintro e w' ⟨rfl, rfl⟩)
  clear hP
  go_cut [4] (fun j W => CutL w #[.int .i64 c.P, .int .i64 c.F, .slice A1 c.ws.length c1, .slice A2 c.cs.length c2, .slice A3 c.ac.length c3] P j W)
  case first =>
    go_wp2_with fail
    go_loopw [4, 5] (fun j i W => InvG1 w #[.int .i64 c.P, .int .i64 c.F, .slice A1 c.ws.length c1, .slice A2 c.cs.length c2, .slice A3 c.ac.length c3] P c.ws.length j i W) (fun _ i _ => c.ws.length - (intOf i).toNat)
    case atStart => exact ⟨0, 0, [], .slice none 0 0, rfl, rfl, by omega, by omega, by omega, by omega, rfl, rfl, fun _ _ => rfl, fun k x hx => by simp at hx, G0⟩
    case round =>
      clear G0
      obtain ⟨k, e, ws, v1, rfl, rfl, he0, he1, hk, hk6, hwl, hwe, hwb, hws, G⟩ := hrel
      have hw6 : ws.length ≤ 6 := by omega
      have HWL := Lib.hid hwl
      have HWE := Lib.hid hwe
      have HWB := Lib.hid hwb
      have HWS := Lib.hid hws
      clear hwl hwe hwb hws
      have q0 := G.b0.cell
      have q2 := G.b2.cell
      have z2 := G.b2.lt
      obtain ⟨P1, p1, hv1⟩ := own_slice G.o1
      subst hv1
      by_cases hgo : k < c.ws.length ∧ k < 6
      · obtain ⟨hlt, hlt6⟩ := hgo
        obtain ⟨x, hx, _⟩ := drop_cons hlt
        obtain ⟨b, o, rfl, hbl, g0, g1, g2⟩ := row_win (H1.out.below G.bl) hx
        clear hx
        have n1 := nearV_bd x.o (-1) (P + 1) (by omega)
        have n2 := nearV_bd x.s 0 3 (by omega)
        have n3 := nearV_bd x.l 1 6 (by omega)
        have f1 : (0 : Int) ≤ (k : Int) := by omega
        have f2 : (k : Int) < (c.ws.length : Int) := by omega
        have hw1 : IntKind.i64.wrap (P + 1) = P + 1 := IntWalk.i64_in _ (by omega)
        have hw2 : IntKind.i64.wrap (e + nearV x.s 0 3) = e + nearV x.s 0 3 := IntWalk.i64_in _ (by omega)
        have K0 : ∀ i, wr.drew.cell? ⟨w.heap.size, i, none⟩ = (#[.int .i64 c.P, .int .i64 c.F, .slice (some ⟨b, o, none⟩) c.ws.length c1, .slice A2 c.cs.length c2, .slice A3 c.ac.length c3] : Array Value)[i]? := G.b0.cell
        have K2 : ∀ i, wr.drew.cell? ⟨w.heap.size + 1 + 1, i, none⟩ = (#[.int .i64 P, .int .i64 0, .slice P1 ws.length p1, .slice none 0 0, .slice none 0 0] : Array Value)[i]? := G.b2.cell
        have j0 : wr.drew.cell? ⟨b, o + k * 3, none⟩ = some (.int .i64 x.o) := g0
        have j1 : wr.drew.cell? ⟨b, o + k * 3 + 1, none⟩ = some (.int .i64 x.s) := g1
        have j2 : wr.drew.cell? ⟨b, o + k * 3 + 2, none⟩ = some (.int .i64 x.l) := g2
        go_upto_region 6 with fail
        go_cut [6] (fun s6 W => CutW w #[.int .i64 c.P, .int .i64 c.F, .slice (some ⟨b, o, none⟩) c.ws.length c1, .slice A2 c.cs.length c2, .slice A3 c.ac.length c3] P (.slice P1 ws.length p1) ws ⟨nearV x.o (-1) (P + 1), e + nearV x.s 0 3, nearV x.l 1 6⟩ wr.heap.size s6 W)
        case first =>
          go_region_held3 (fun W => (∀ i, W.cell? ⟨w.heap.size, i, none⟩ = (#[.int .i64 c.P, .int .i64 c.F, .slice (some ⟨b, o, none⟩) c.ws.length c1, .slice A2 c.cs.length c2, .slice A3 c.ac.length c3] : Array Value)[i]?) ∧ (∀ i, W.cell? ⟨w.heap.size + 1 + 1, i, none⟩ = (#[.int .i64 P, .int .i64 0, .slice P1 ws.length p1, .slice none 0 0, .slice none 0 0] : Array Value)[i]?) ∧ W.cell? ⟨b, o + k * 3, none⟩ = some (.int .i64 x.o) ∧ W.cell? ⟨b, o + k * 3 + 1, none⟩ = some (.int .i64 x.s) ∧ W.cell? ⟨b, o + k * 3 + 2, none⟩ = some (.int .i64 x.l))
            (first | exact ⟨K0, K2, j0, j1, j2⟩ | exact ⟨(G.drew.alloc _).b0.cell, (G.drew.alloc _).b2.cell, (World.cell?_alloc_lt _ _ _ hbl).trans j0, (World.cell?_alloc_lt _ _ _ hbl).trans j1, (World.cell?_alloc_lt _ _ _ hbl).trans j2⟩)
            (first | (go_at_call 49; (with_reducible refine (near_any _ _ _ (by omega) (by omega) (by omega) (by omega) _).mono ?_); rintro e' w' ⟨rfl, rfl⟩))
          all_goals
            go_wp2_with fail
            go_meet
            exact ⟨wr.heap.size, rfl, Nat.le_refl _, Blk.new _ _ _, G.drew.alloc _⟩
        case rest =>
          clear K0 K2 j0 j1 j2 hw1 hw2 g0 g1 g2 q0 q2 z2 G
          obtain ⟨g, rfl, hg, BW, G⟩ := hcut
          have q0 := G.b0.cell
          have q2 := G.b2.cell
          have f2' := G.b2.frozen
          have qw := BW.cell
          have z2 := G.b2.lt
          have zw := BW.lt
          obtain ⟨i0, hi, hz0, hz1, hz2⟩ := info_parts infoW
          have GA := G.alloc (.cells #[.int .i64 (nearV x.o (-1) (P + 1)), .int .i64 (e + nearV x.s 0 3), .int .i64 (nearV x.l 1 6)] 91)
          go_wp2_with (at_builtin; refine wpList_app Try.underlying63 hi hz0 hz1 hz2 rfl (by omega) rfl _ _ rfl w.heap.size (.slice P1 ws.length p1) ws.length (wvs ws) rfl GA.o1 (some ⟨wc.heap.size, 0, none⟩) 1 1 (Win.cells ⟨nearV x.o (-1) (P + 1), e + nearV x.s 0 3, nearV x.l 1 6⟩) rfl (Row.of_blk (Blk.new wc 91 _) (fun j u hj => by simpa [Win.cells] using hj)) rfl (wvs_one [⟨nearV x.o (-1) (P + 1), e + nearV x.s 0 3, nearV x.l 1 6⟩]) (by omega) (by omega) GA.bl.size ?_; intro v' w' hown hbl' hgrow hob; clear hob; obtain ⟨P2, p2, hv2⟩ := own_slice hown; subst hv2; have N := GA.app1 hown hbl' hgrow; have k2 := grown_blk GA.b2 hgrow (own_off GA.o1 GA.b2 (by decide)); have q3 := k2.cell; have f3 := k2.frozen)
          go_roundw
          case rel => exact ⟨k + 1, e + nearV x.s 0 3 + nearV x.l 1 6, ws ++ [⟨nearV x.o (-1) (P + 1), e + nearV x.s 0 3, nearV x.l 1 6⟩], .slice P2 (ws.length + 1) p2, by go_num, rfl, by omega, by omega, by omega, by omega, by simp [HWL.out], wend_snoc _ _ _, fun F hF => wbad_snoc ws 0 0 (HWB.out F (by omega)) (by rw [HWE.out]; simp only [wok, decide_eq_true_eq]; omega), snoc_all HWS.out (by show e + nearV x.s 0 3 ≤ _; omega), N⟩
          case measure => simp [intOf]; omega
      · have hend : k < c.ws.length ∧ ¬ k < 6 ∨ ¬ k < c.ws.length := by omega
        rcases hend with ⟨ha, hb⟩ | ha
        all_goals
          go_wp2_with fail
          go_meet
          exact ⟨e, ws, .slice P1 ws.length p1, rfl, by rw [HWL.out]; exact he0, by omega, hw6, HWE.out, HWB.out, HWS.out, G⟩
  case rest =>
    clear G0
    obtain ⟨e, ws, v1, rfl, he0, he1, hw6, hwe, hwb, hws, G⟩ := hcut
    have HWE := Lib.hid hwe
    have HWB := Lib.hid hwb
    have HWS := Lib.hid hws
    clear hwe hwb hws
    have q0 := G.b0.cell
    have q2 := G.b2.cell
    have f2 := G.b2.frozen
    have z2 := G.b2.lt
    obtain ⟨P1, p1, hv1⟩ := own_slice G.o1
    subst hv1
    go_upto_if 66 with fail
    go_cut [4] (fun j W => CutM w #[.int .i64 c.P, .int .i64 c.F, .slice A1 c.ws.length c1, .slice A2 c.cs.length c2, .slice A3 c.ac.length c3] P j W)
    case first =>
      by_cases hz : ws.length = 0
      · have t0 : ((ws.length : Int) == 0) = true := by rw [beq_iff_eq]; omega
        have hw0 : ws = [] := List.eq_nil_of_length_eq_zero hz
        clear hz
        have GA := G.alloc (.cells #[.int .i64 0, .int .i64 0, .int .i64 2] 91)
        have N := GA.set1' (ws' := [⟨0, 0, 2⟩]) (own_blk (Blk.new wc 91 #[.int .i64 0, .int .i64 0, .int .i64 2]) G.bl.size (n := 1) (by decide) rfl rfl)
        rw [World.setCell_alloc_past _ _ _ _ z2] at N
        go_wp2_with fail
        go_meet
        exact ⟨2, [⟨0, 0, 2⟩], _, rfl, by omega, by omega, by simp, by simp, fun F hF => by simp only [wbad]; rw [if_pos (by simp only [wok, decide_eq_true_eq]; omega)], fun k x hx => by
          rcases k with _ | k
          · simp at hx; subst hx; decide
          · simp at hx, N⟩
      · have t0 : ((ws.length : Int) == 0) = false := by rw [beq_eq_false_iff_ne]; omega
        go_wp2_with fail
        go_meet
        exact ⟨e, ws, .slice P1 ws.length p1, rfl, by omega, he1, by omega, hw6, HWB.out, HWS.out, G⟩
    case rest =>
      clear q0 q2 f2 z2 G
      obtain ⟨e, ws, v1, rfl, he0, he1, hw1, hw6, hwb, hws, G⟩ := hcut
      have HWB := Lib.hid hwb
      have HWS := Lib.hid hws
      clear hwb hws
      have q0 := G.b0.cell
      have q2 := G.b2.cell
      have f2 := G.b2.frozen
      have z2 := G.b2.lt
      obtain ⟨P1, p1, hv1⟩ := own_slice G.o1
      subst hv1
      have b5 := nearV_bd c.F 0 3 (by omega)
      go_upto_block 2 with (go_at_call 49; (with_reducible refine (near_any _ _ _ (by omega) (by omega) (by omega) (by omega) _).mono ?_); rintro e' w' ⟨rfl, rfl⟩)
      have G := G.setF (e + nearV c.F 0 3)
      have HWF := Lib.hid (HWB.out (e + nearV c.F 0 3) (by omega))
      obtain ⟨F, hF⟩ : ∃ F, e + nearV c.F 0 3 = F := ⟨_, rfl⟩
      rw [hF] at HWF G
      have hF1 : 1 ≤ F := by omega
      have hF2 : F ≤ 50 := by omega
      clear q0 q2 f2 z2
      generalize hWX : wc.setCell ⟨w.heap.size + 1 + 1, 1, none⟩ (.int .i64 F) = WF at *
      first
        | rw [hF, hWX]
        | skip
      clear hF hWX
      go_cut [] (fun W => CutN w #[.int .i64 c.P, .int .i64 c.F, .slice A1 c.ws.length c1, .slice A2 c.cs.length c2, .slice A3 c.ac.length c3] P F (.slice P1 ws.length p1) ws c.cs W)
      case first =>
        go_wp2_with fail
        go_loopw [7] (fun i W => InvG2 w #[.int .i64 c.P, .int .i64 c.F, .slice A1 c.ws.length c1, .slice A2 c.cs.length c2, .slice A3 c.ac.length c3] P F (.slice P1 ws.length p1) ws c.cs i W) (fun i _ => c.cs.length - (intOf i).toNat)
        case atStart => exact ⟨0, [], .slice none 0 0, rfl, by omega, by omega, rfl, rfl, ⟨fun k x hx => by simp at hx, fun j x y hx hy => by simp at hy⟩, G⟩
        case round =>
          clear G
          obtain ⟨k, cs, v2, rfl, hk, hk5, hcl, hcb, hcs, G⟩ := hrel
          have hc5 : cs.length ≤ 5 := by omega
          have HCL := Lib.hid hcl
          have HCB := Lib.hid hcb
          have HCS := Lib.hid hcs
          clear hcl hcb hcs
          have q0 := G.b0.cell
          have q2 := G.b2.cell
          have f2 := G.b2.frozen
          have z2 := G.b2.lt
          obtain ⟨P2, p2, hv2⟩ := own_slice G.o2
          subst hv2
          by_cases hgo : k < c.cs.length ∧ k < 5 ∧ 1 < P
          · obtain ⟨hlt, hlt5, hP2⟩ := hgo
            obtain ⟨x, hx, _⟩ := drop_cons hlt
            obtain ⟨b, o, rfl, hbl, hch⟩ := row_chn H2.out hx
            have HKK : Hid (∀ y : Chn, y.k = nearV x.k 0 2 → KK c.cs (cs ++ [y])) := fun y hy => HCS.out.2.snoc (by rw [HCL.out]; exact hx) hy
            clear hx
            have HCH : Hid (∀ W : World, Calls Try.prog 50 #[.agg #[.int .i64 x.k, .int .i64 x.f, .int .i64 x.t, .int .i64 x.w, .int .i64 x.r, .int .i64 x.la, .int .i64 x.d, .int .i64 x.h, .int .i64 x.li, .int .i64 x.ra, .int .i64 x.c], .int .i64 P] W (ChnPost x.k P W)) := fun W => channel_any x P (by omega) (by omega) W
            have f1 : (0 : Int) ≤ (k : Int) := by omega
            have f3 : (k : Int) < (c.cs.length : Int) := by omega
            obtain ⟨g0, g1, g2, g3, g4, g5, g6, g7, g8, g9, g10⟩ := ChnAt.bel1 hch hbl G.drew.bl
            have z0 := G.b0.lt
            have HChA := Lib.hid hch
            clear hch
            have K0 : ∀ i, wr.drew.cell? ⟨w.heap.size, i, none⟩ = (#[.int .i64 c.P, .int .i64 c.F, .slice A1 c.ws.length c1, .slice (some ⟨b, o, none⟩) c.cs.length c2, .slice A3 c.ac.length c3] : Array Value)[i]? := G.b0.cell
            have K2 : ∀ i, wr.drew.cell? ⟨w.heap.size + 1 + 1, i, none⟩ = (#[.int .i64 P, .int .i64 F, .slice P1 ws.length p1, .slice P2 cs.length p2, .slice none 0 0] : Array Value)[i]? := G.b2.cell
            obtain ⟨i0, hi, hz0, hz1, hz2⟩ := info_parts infoC
            go_upto_block 3 with fail
            go_cut [] (fun W => CutC w #[.int .i64 c.P, .int .i64 c.F, .slice A1 c.ws.length c1, .slice (some ⟨b, o, none⟩) c.cs.length c2, .slice A3 c.ac.length c3] P F (.slice P1 ws.length p1) ws cs x.k W)
            case first =>
              go_upto_region 16 with fail
              go_region_law
                (first
                 | ((refine GS.step2 G y rfl (by rfl) _ _ (by rfl) (by rfl) (by rfl) (by omega) ?_; intro P3 p3 w'' L0 L2 hB2 N; have K0 := L0.cell; have K2 := L2.cell; have f2 := L2.frozen))
                 | ((rw [if_pos (by simp [Region.wanted])]; go_simp; go_at_call 50; (with_reducible refine (HCH.out _).mono ?_); rintro e' w' ⟨y, rfl, hy, hsm, hky, hb⟩; have HKY := Lib.hid hky; clear hky; unfold Chn.val; have G := G.drew.bel hb; have K0 := G.b0.cell; have K2 := G.b2.cell; have f2 := G.b2.frozen; have z2 := G.b2.lt; have z0 := G.b0.lt)))
              all_goals
                go_wp2_with fail
                go_meet
                exact ⟨y, _, hy, ⟨hsm, HKY.out⟩, N⟩
            case rest =>
              obtain ⟨y, v2', hy, hsm, GN⟩ := hcut
              clear K0 K2 g0 g1 g2 g3 g4 g5 g6 g7 g8 g9 g10 q0 q2 f2 z2 z0 G HChA HCH
              go_wp2_with fail
              go_roundw
              case rel => exact ⟨k + 1, cs ++ [y], v2', by go_num, by omega, by omega, by simp [HCL.out], cbad_snoc cs 0 HCB.out hy, ⟨snoc_all HCS.out.1 hsm.1, HKK.out y hsm.2⟩, GN⟩
              case measure => simp [intOf]; omega
          · have hend : k < c.cs.length ∧ k < 5 ∧ ¬ 1 < P ∨ k < c.cs.length ∧ ¬ k < 5 ∨ ¬ k < c.cs.length := by omega
            clear hgo
            have HLE : Hid (1 < P → cs.length = min c.cs.length 5) := by
              intro hq
              rw [HCL.out]
              omega
            rcases hend with ⟨ha, hb, hd⟩ | ⟨ha, hb⟩ | ha
            all_goals
              go_wp2_with fail
              go_meet
              exact ⟨cs, .slice P2 cs.length p2, hc5, HCB.out, ⟨HCS.out.1, HCS.out.2, HLE.out⟩, G⟩
      case rest =>
        clear G
        obtain ⟨cs, v2, hc5, hcb, hcs, G⟩ := hcut
        have HCB := Lib.hid hcb
        have HCS := Lib.hid hcs
        clear hcb hcs
        obtain ⟨P2, p2, hv2⟩ := own_slice G.o2
        subst hv2
        go_wp2_with fail
        go_loopw [8] (fun i W => InvG3 w #[.int .i64 c.P, .int .i64 c.F, .slice A1 c.ws.length c1, .slice A2 c.cs.length c2, .slice A3 c.ac.length c3] P F (.slice P1 ws.length p1) (.slice P2 cs.length p2) ws cs i W) (fun i _ => (P - intOf i).toNat)
        case atStart => exact ⟨0, [], .slice none 0 0, rfl, by omega, rfl, rfl, G⟩
        case round =>
          clear G
          obtain ⟨k, ac, v3, rfl, hk, hal, hab, G⟩ := hrel
          have ha4 : ac.length ≤ 4 := by omega
          have HAL := Lib.hid hal
          have HAB := Lib.hid hab
          clear hal hab
          have q0 := G.b0.cell
          have q2 := G.b2.cell
          have f2 := G.b2.frozen
          have z2 := G.b2.lt
          obtain ⟨P3, p3, hv3⟩ := own_slice G.o3
          subst hv3
          by_cases hgo : (k : Int) < P
          · obtain ⟨i0, hi, hz0, hz1, hz2⟩ := info_parts infoI
            by_cases hlt : k < c.ac.length
            · obtain ⟨x, hx, _⟩ := drop_cons hlt
              obtain ⟨b, o, rfl, hbl, g0⟩ := row_int (H3.out.below G.bl) hx
              clear hx
              have nb := nearV_bd x 0 3 (by omega)
              have GA := G.alloc (.cells #[.int .i64 (nearV x 0 3)] 3)
              go_wp2_with (first
                | (go_at_call 49; (with_reducible refine (near_any _ _ _ (by omega) (by omega) (by omega) (by omega) _).mono ?_); rintro e' w' ⟨rfl, rfl⟩)
                | (at_builtin; refine wpList_app Try.underlying38 hi hz0 hz1 hz2 rfl (by omega) rfl _ _ rfl w.heap.size (.slice P3 ac.length p3) ac.length (ivs ac) rfl GA.o3 (some ⟨wr.heap.size, 0, none⟩) 1 1 [.int .i64 (nearV x 0 3)] rfl (Row.of_blk (Blk.new wr 3 _) (fun j u hj => by simpa using hj)) rfl (ivs_one [nearV x 0 3]) (by omega) (by omega) GA.bl.size ?_; intro v' w' hown hbl' hgrow hob; clear hob; obtain ⟨P4, p4, hv4⟩ := own_slice hown; subst hv4; have N := GA.app3 hown hbl' hgrow; have k2 := grown_blk GA.b2 hgrow (own_off GA.o3 GA.b2 (by decide)); have q3 := k2.cell; have f3 := k2.frozen))
              go_roundw
              case rel => exact ⟨k + 1, ac ++ [nearV x 0 3], .slice P4 (ac.length + 1) p4, by go_num, by omega, by simp [HAL.out], abad_snoc ac 0 HAB.out (by simp only [wth, decide_eq_true_eq]; omega), N⟩
              case measure => simp [intOf]; omega
            · have GA := G.alloc (.cells #[.int .i64 0] 3)
              go_wp2_with (at_builtin; refine wpList_app Try.underlying38 hi hz0 hz1 hz2 rfl (by omega) rfl _ _ rfl w.heap.size (.slice P3 ac.length p3) ac.length (ivs ac) rfl GA.o3 (some ⟨wr.heap.size, 0, none⟩) 1 1 [.int .i64 0] rfl (Row.of_blk (Blk.new wr 3 _) (fun j u hj => by simpa using hj)) rfl (ivs_one [0]) (by omega) (by omega) GA.bl.size ?_; intro v' w' hown hbl' hgrow hob; clear hob; obtain ⟨P4, p4, hv4⟩ := own_slice hown; subst hv4; have N := GA.app3 hown hbl' hgrow; have k2 := grown_blk GA.b2 hgrow (own_off GA.o3 GA.b2 (by decide)); have q3 := k2.cell; have f3 := k2.frozen)
              go_roundw
              case rel => exact ⟨k + 1, ac ++ [0], .slice P4 (ac.length + 1) p4, by go_num, by omega, by simp [HAL.out], abad_snoc ac 0 HAB.out rfl, N⟩
              case measure => simp [intOf]; omega
          · have hkP : (k : Int) = P := by omega
            have HKP := Lib.hid hkP
            clear hkP
            have q1 := G.b1.cell
            have f1 := G.b1.frozen
            unfold zcfg at q1
            have z1 := G.b1.lt
            go_wp2_with fail
            refine bodyPost_ret (v := .agg #[.int .i64 P, .int .i64 F, .slice P1 ws.length p1, .slice P2 cs.length p2, .slice P3 ac.length p3]) (by simp [results, Try.results25, go_sem, *]) rfl ⟨_, ⟨P, F, ws, cs, ac⟩, rfl, ⟨_, _, _, rfl, ?_, ?_, ?_, HWS.out⟩, flt_good (by omega) (by omega) hF1 hF2 hw1 hw6 HWF.out hc5 HCB.out HCS.out.1 (by rw [HAL.out]; exact HKP.out) HAB.out, HPP.out.symm, HCS.out.2.1, HCS.out.2.2, ?_⟩
            · have n := own_off G.o1 G.b1 (by decide)
              exact own_st (own_st (own_st (own_st (own_st G.o1 n 0 _) n 1 _) n 2 _) n 3 _) n 4 _
            · have n := own_off G.o2 G.b1 (by decide)
              exact own_st (own_st (own_st (own_st (own_st G.o2 n 0 _) n 1 _) n 2 _) n 3 _) n 4 _
            · have n := own_off G.o3 G.b1 (by decide)
              exact own_st (own_st (own_st (own_st (own_st G.o3 n 0 _) n 1 _) n 2 _) n 3 _) n 4 _
            · exact ((((G.bl.setCell (Nat.le_succ _) _).setCell (Nat.le_succ _) _).setCell (Nat.le_succ _) _).setCell (Nat.le_succ _) _).setCell (Nat.le_succ _) _
end Go.Proofs.Ytmfkapbllmfegaa.C04.One
