/- Ahead of GatePlays' walk: what lies between its regions. -/
import Derived.Test.YtmfkapbllmfegaaARb
import Derived.Test.YtmfkapbllmfegaaARa
import Derived.Test.YtmfkapbllmfegaaAPut
import Derived.Test.YtmfkapbllmfegaaAOf2
import Derived.Deep.CutBlock
import Derived.Deep.MidRow
namespace Go.Proofs.Ytmfkapbllmfegaa.gatePlays
open Go.RowKit Go.Proofs.Ytmfkapbllmfegaa.G Go.Proofs.Ytmfkapbllmfegaa.L10 Go.Proofs.Ytmfkapbllmfegaa.C04 Go.Proofs.Ytmfkapbllmfegaa.A12 Go.Sort
set_option maxRecDepth 100000
variable {w w' V V' : World} {g k ks : Nat} {a : Ga} {s s' : Gs} {x x' : Rg} {sc : Array Value}
/-- Both gates, and that they tell the same. -/
structure Bg (w V : World) (g : Nat) (a : Ga) (s : Gs) (k : Nat) (x : Rg) : Prop where
  gt : Gt w V g a s
  ng : Ng V g a s.r x
  bx : Blk V k 35 (rgc x)
  ge : w.heap.size ≤ k
  sg : Sg a s x
theorem Bg.below (h : Bg w V g a s k x) (hb : Below V.heap.size V V') : Bg w V' g a s k x := ⟨h.gt.below hb, h.ng.below hb, h.bx.bel hb, h.ge, h.sg⟩
theorem Bg.pg (h : Bg w V g a s k x) (hs : Blk V ks 40 sc) : Pg w V g a s k x ks sc := ⟨h.gt, h.ng, h.bx, h.ge, hs⟩
theorem bg_of (h : Pg w V g a s k x ks sc) (hs : Sg a s x) : Bg w V g a s k x := ⟨h.gt, h.ng, h.bx, h.ge, hs⟩
theorem nw_fin {W5 V2 W2 : World} {kr : Nat} {y : Chn} (hB : Below w.heap.size w W5) (hg : Gt w V2 g a (s0 a)) (hf : Fit y a) (kn : W5.heap.size ≤ kr) (nb : Blk V2 kr 35 zG) (x1 : x.k = y) (x2 : (x.L : Int) = near y.la 3) (x3 : (x.P : Int) = near y.d 8) (x4 : x.R = K11.rof y.ra) (x5 : x.C = K11.cof y.c) (x6 : x.T = x.C) (x7 : x.N = 0) (x8 : x.q = 0) (x9 : x.A = none) (x10 : x.c = 0) (x11 : x.e = []) (D : Blk W2 kr 35 (rgc x)) (O : Only (fun q => q = kr) V2 W2) : Bg w W2 g a (s0 a) kr x :=
  ⟨hg.oth nb (by decide) (by decide) (by decide) (by decide) (by decide) (Nat.le_trans hB.size kn) O, Ng.nil_ _ _ _ _ x11 x9 x10, D, Nat.le_trans hB.size kn, sg_new hf x1 x2 x3 x4 x5 x6 x7 x8 x11⟩
/-- Between the rounds; behind a step. -/
def InvB (w V : World) (g : Nat) (a : Ga) (k : Nat) (i : Nat) : Prop := ∃ s x, Bg w V g a s k x ∧ 0 ≤ s.q ∧ s.q ≤ i
def InvS (w V : World) (g : Nat) (a : Ga) (k : Nat) (i ks : Nat) (sc : Array Value) : Prop := ∃ s x, Pg w V g a s k x ks sc ∧ Sg a s x ∧ 0 ≤ s.q ∧ s.q ≤ i
theorem sg_of2 (hs : Sg a s x) {V0 V1 w2 w3 : World} {km : Nat} {M : Pm} {code : Int} {ask : Bool} {T1 N1 : Int} {m1 m2 : MV} (h1 : Of2 w w2 g a s M code ask T1 N1 m1 s' km w3) (h2 : RofW V0 x M code ask T1 N1 m2 x' V1) : Sg a s' x' ∧ m1.pl = m2.pl := by
  refine ⟨⟨by rw [h2.k, hs.k], by rw [h2.L, hs.L], by rw [h2.P, hs.P], by rw [h2.R, hs.R], by rw [h2.C, hs.C], by rw [h1.T, h2.T, hs.T], by rw [h1.N, h2.N, hs.N], by rw [h1.q, h2.q, hs.q], ?_⟩, by rw [h1.mp, h2.mp]⟩
  rw [h1.dp, h2.e]
  by_cases h0 : code = 0
  · rw [if_pos h0, if_pos h0, insL_pl, h2.mp, if_pos h0, hs.pl]
  · rw [if_neg h0, if_neg h0, hs.pl]
theorem one_yes {p q : MV} (hx : Wr V p) (hy : Wr V q) (hp : p.pl = q.pl) : Calls Try.prog 13 #[p.val, q.val] V fun e w' => e = .returned (.bool true) ∧ Below V.heap.size V w' :=
  (L10.one_any hx hy).mono fun e w' ⟨he, hg⟩ => ⟨by rw [he]; exact congrArg (fun b => Ending.returned (Value.bool b)) (decide_eq_true hp), hg.below⟩
theorem filt_pl {d e : List MV} (h : d.map MV.pl = e.map MV.pl) (p : Int → Bool) : (d.filter fun m => p m.lt).map MV.pl = (e.filter fun m => p m.lt).map MV.pl := by
  have q : ∀ x : List MV, (x.filter fun m => p m.lt).map MV.pl = (x.map MV.pl).filter (fun m => p m.lt) := fun x => by rw [List.filter_map]; rfl
  rw [q, q, h]
theorem head_pl {d e : List MV} (h : d.map MV.pl = e.map MV.pl) : (d.headD z0).pl = (e.headD z0).pl ∧ d.isEmpty = e.isEmpty ∧ (d.drop 1).map MV.pl = (e.drop 1).map MV.pl := by
  cases d with
  | nil =>
    cases e with
    | nil => exact ⟨rfl, rfl, rfl⟩
    | cons y t => simp at h
  | cons x s =>
    cases e with
    | nil => simp at h
    | cons y t =>
      simp only [List.map_cons, List.cons.injEq] at h
      exact ⟨h.1, rfl, h.2⟩
/-! ### The document's Offer in its region: two boxes are made -/
theorem ng_far {r : Value} {b : Nat} {t : TypeId} {cs : Array Value} (h : Ng V g a r x) (hb : Blk V b t cs) (ht : t ≠ 3) (hn : 0 < x.e.length → ∀ q o, x.A = some ⟨q, o, none⟩ → q ≠ b) (ho : Only (fun q => q = b) V V') : Ng V' g a r x :=
  ⟨only_row h.row ho (fun h0 q o ea e => hn (by rw [mvs_len] at h0; omega) q o ea e), h.ok, h.le, fun m hm => ⟨(h.ws m hm).1.only ho fun q cs' hq e => hq.ne_ hb ht.symm e, (h.ws m hm).2⟩, h.ap, fun h0 q o ea => (h.ty h0 q o ea).imp fun _ hq => ho.blk hq (hn h0 q o ea)⟩
theorem d17_new {r : Value} (h : Ng V g a r x) : 0 < x.e.length → ∀ q o, x.A = some ⟨q, o, none⟩ → q ≠ V.heap.size := fun h0 q o ea e => by
  obtain ⟨_, hq⟩ := h.ty h0 q o ea
  have := hq.lt
  omega
theorem d17_old {w6 V0 : World} {M : Pm} {code T1 N1 : Int} {ask : Bool} {m' : MV} {km : Nat} (h : Pg w w6 g a s k x ks sc) (hw : RofW V0 x M code ask T1 N1 m' x' V') (hk : w6.heap.size ≤ km) (hl : km < V0.heap.size) : 0 < x'.e.length → ∀ q o, x'.A = some ⟨q, o, none⟩ → q ≠ km := fun h0 q o ea e => by
  rcases hw.ap with ⟨h1, h2⟩ | h1
  · rw [h2] at h0; rw [h1] at ea
    obtain ⟨_, hq⟩ := h.ng.ty h0 q o ea
    have := hq.lt
    omega
  · have := (h1 q o ea).1
    omega
def zM : Array Value := #[.slice none 0 0, .int .i64 0, .int .i64 0, .int .i64 0, .int .i64 0]
def mc (m : MV) : Array Value := #[.slice m.a m.ws.length m.c, .int .i64 m.ln, .int .i64 m.st, .int .i64 m.lt, .int .i64 m.sq]
structure R18 (w6 W3 : World) (g : Nat) (a : Ga) (s : Gs) (x : Rg) (M : Pm) (code : Int) (ask : Bool) (T1 N1 : Int) (m' : MV) (x' : Rg) (kn km : Nat) : Prop where
  bl : Below w6.heap.size w6 W3
  ng : Ng W3 g a s.r x'
  bn : Blk W3 kn 35 (rgc x')
  bm : Blk W3 km 43 (mc m')
  gm : w6.heap.size ≤ km
  wo : Wo W3 0 m'
  rw : ∃ V0 V', RofW V0 x M code ask T1 N1 m' x' V'
theorem ro_fin {w6 W1 W2 W3 : World} {M : Pm} {code T1 N1 : Int} {ask : Bool} {m' : MV} {kn km : Nat} {V0 V1 : World} (S1 : Below w6.heap.size w6 W1) (hn : w6.heap.size ≤ kn) (hm : w6.heap.size ≤ km) (bn : Blk W1 kn 35 zG) (bm : Blk W1 km 43 zM) (ng : Ng W1 g a s.r x') (wo : Wo W1 0 m') (hd : 0 < x'.e.length → ∀ q o, x'.A = some ⟨q, o, none⟩ → q ≠ km)
    (hw : RofW V0 x M code ask T1 N1 m' x' V1) (D : Blk W2 kn 35 (rgc x')) (O : Only (fun q => q = kn) W1 W2) (D2 : Blk W3 km 43 (mc m')) (O2 : Only (fun q => q = km) W2 W3) : R18 w6 W3 g a s x M code ask T1 N1 m' x' kn km := by
  have bm2 : Blk W2 km 43 zM := O.blk bm fun e => bm.ne_ bn (by decide) e
  have ng2 : Ng W2 g a s.r x' := ng_far ng bn (by decide) (fun h0 q o ea e => by
    obtain ⟨_, hq⟩ := ng.ty h0 q o ea
    exact hq.ne_ bn (by decide) e) O
  exact ⟨below_only (((Only.of S1).trans_ (F := fun q => q = kn ∨ q = km) (O.mono fun q hq => .inl hq)).trans_ (O2.mono fun q hq => .inr hq)) (fun q hq => by rcases hq with rfl | rfl <;> omega), ng_far ng2 bm2 (by decide) hd O2, O2.blk D fun e => D.ne_ bm2 (by decide) e, D2, hm, (wo.only O fun q cs hq e => hq.ne_ bn (by decide) e).only O2 fun q cs hq e => hq.ne_ bm2 (by decide) e, _, _, hw⟩
/-! ### The document's Sweep: both its lists lie apart -/
def RsG2 (V : World) (g : Nat) (a : Ga) (r : Value) (x : Rg) (now : Int) (y : Ending) (V' : World) : Prop := ∃ A' c' A2 c2, y = .returned (.tuple #[rLv x.L x.P (.slice A' (x.e.filter fun m => !late now m.lt).length c'), .slice A2 (x.e.filter fun m => late now m.lt).length c2]) ∧ Ng V' g a r { x with A := A', c := c', e := x.e.filter fun m => !late now m.lt } ∧ Ng V' g a r { x with A := A2, c := c2, e := x.e.filter fun m => late now m.lt } ∧ Below V.heap.size V V'
theorem rsweep_g2 (h : Pg w V g a s k x ks sc) (hl : x.e.length ≤ 24) (now : Int) : Calls Try.prog 16 #[.agg #[.int .i64 x.L, .int .i64 x.P, .slice x.A x.e.length x.c], .int .i64 now] V (RsG2 V g a s.r x now) := by
  refine (rsweep_any (c := x.c) (x.L : Int) (x.P : Int) h.ng.row (by omega) now).mono fun y V' ⟨A', c', A2, c2, hx, ho, ho2, hb⟩ => ?_
  obtain ⟨A4, c4, e4, z0, z1, _, z2⟩ := ho.row
  injection e4 with e4 _ e5
  subst e4 e5
  obtain ⟨A6, c6, e6, y0, y1, _, y2⟩ := ho2.row
  injection e6 with e6 _ e7
  subst e6 e7
  have hw := fun y (hy : y ∈ x.e) => And.intro ((h.ng.ws y hy).1.below hb) (h.ng.ws y hy).2
  exact ⟨A', c', A2, c2, hx, ⟨z0, own_aok ho, z1, fun y hy => hw y (List.mem_filter.1 hy).1, fun _ q o ea hf => by have := h.gt.fg_lt hf; have := (z2 q o ea).2.1; omega, fun _ q o ea => (z2 q o ea).2.2⟩, ⟨y0, own_aok ho2, y1, fun y hy => hw y (List.mem_filter.1 hy).1, fun _ q o ea hf => by have := h.gt.fg_lt hf; have := (y2 q o ea).2.1; omega, fun _ q o ea => (y2 q o ea).2.2⟩, hb⟩
theorem ng_box {r : Value} {y : Rg} (hn : Ng V g a r y) (hb : Blk V k 35 sc) (ho : Only (fun q => q = k) V V') : Ng V' g a r y := ng_far hn hb (by decide) (fun h0 q o ea e => by
    obtain ⟨_, hq⟩ := hn.ty h0 q o ea
    exact hq.ne_ hb (by decide) e) ho
theorem ng_step {y : Rg} (hn : Ng V g a s.r y) (hg : Gt w V g a s) (ho : Only (FG g a s.r) V V') : Row V' y.A (mvs y.e) ∧ WsR V' y.e :=
  ⟨only_row hn.row ho fun h0 => hn.ap (by rw [mvs_len] at h0; omega), fun m hm => ((hn.ws m hm).1.only ho fun q cs hq => hg.off2 hq (by decide) (by decide) (by decide) (by decide)).wr⟩
theorem same_pl {A A2 : Option Addr} {c c2 : Nat} {l l2 : List MV} (hr : Row V A (mvs l)) (hw : WsR V l) (hr2 : Row V A2 (mvs l2)) (hw2 : WsR V l2) (hp : l.map MV.pl = l2.map MV.pl) (hl : l.length ≤ 1000) : Calls Try.prog 17 #[.slice A l.length c, .slice A2 l2.length c2] V fun y V' => y = .returned (.bool true) ∧ Below V.heap.size V V' := by
  have h1 := congrArg List.length hp
  rw [List.length_map, List.length_map] at h1
  have hs : sames l l2 = true := decide_eq_true hp
  have := rsame_any (c := c) (d := c2) hr hr2 hw hw2 hl (by omega)
  rw [hs] at this
  exact this
end Go.Proofs.Ytmfkapbllmfegaa.gatePlays
