/- The document's own reader of a config: a contract against the same plain functions as the program's. -/
import Derived.Test.YtfbbgoahipejlabDoorTR0
import Derived.Test.YtfbbgoahipejlabDoorPR8
import Derived.BigRegion
import Derived.StillTailTactics
import Derived.Deep.CutBlock
import Derived.Deep.CutRange
import Derived.Deep.RegionLaw
import Derived.Test.YtfbbgoahipejlabDoorRFA
namespace Go.Proofs.YtfbbgoahipejlabDoor.T
open Go.RowKit Go.Proofs.YtfbbgoahipejlabDoor.G Go.Proofs.YtfbbgoahipejlabDoor.C04
set_option maxRecDepth 100000
/-- append, as a step of a region that draws. -/
theorem step_appg {t e : TypeId} {i0 : TypeInfo} {z : Value} {m by_ : Nat} (ht : Tryd.prog.underlying t = some (.slice e)) (hi : Tryd.prog.info? e = some i0) (hz0 : i0.zero = some z) (hz1 : i0.size = m) (hz2 : i0.bytes = by_) (hzm : z.cells.size = m) (hm : 0 < m)
    {ops : Array Oper} {o : Oper} {a : Act} {K : Act → World → Prop} {Q : Exit → Act → World → Prop} {E : Prop} {w : World} (hgd : o.guard = none) (s x : Operand)
    (ho : o.op = .call { callee := .builtin .append, args := #[s, x], argTypes := #[t, t] })
    (B : Nat) (v : Value) (n : Nat) (xs : List Value) (hs : a.eval s = v) (hv : Own w B e m v n xs)
    (A : Option Addr) (k c : Nat) (news : List Value) (hx : a.eval x = .slice A k c) (hr : Row w A news) (hk : news.length = k * m) (h1 : ∀ u ∈ news, u.oneCell' = true)
    (hlen : n + k ≤ 1000000) (hby : by_ ≤ 100000000) (hB : B ≤ w.heap.size)
    (h : ∀ v' w', Own w' B e m v' (n + k) (xs ++ news) → Below B w w' → w.grownBy w' v.ownBlock → (v'.ownBlock = v.ownBlock ∨ v'.ownBlock = some w.heap.size) → K (a.put o.dst v') w') :
    if Region.wanted o (yielded ops a.tmps) = true then Oper.wp Tryd.prog o a w K Q else E := by
  obtain ⟨v', w', hrun, h2, h3, h5⟩ := run_app ht hi hz0 hz1 hz2 hzm hm w o.type B v n xs hv A k c news hr hk h1 hlen hby hB
  rw [if_pos (by simp [Region.wanted, hgd])]
  unfold Oper.wp execOp
  simp only [ho, resolve, invoke, builtin, Sem.run_bind, Sem.run_pure, Result.andThen_ok, List.map_toArray, List.map_cons, List.map_nil, hs, hx, hrun]
  exact h v' w' h2 ((Below.refl B w).grown h3 hB fun k hk => (World.ownsRow.lt hv k hk).1) h3 h5
/-- append, as an operation. -/
theorem wp_appg {t e : TypeId} {i0 : TypeInfo} {z : Value} {m by_ : Nat} (ht : Tryd.prog.underlying t = some (.slice e)) (hi : Tryd.prog.info? e = some i0) (hz0 : i0.zero = some z) (hz1 : i0.size = m) (hz2 : i0.bytes = by_) (hzm : z.cells.size = m) (hm : 0 < m)
    {o : Oper} {a : Act} {K : Act → World → Prop} {Q : Exit → Act → World → Prop} {w : World} (s x : Operand)
    (ho : o.op = .call { callee := .builtin .append, args := #[s, x], argTypes := #[t, t] })
    (B : Nat) (v : Value) (n : Nat) (xs : List Value) (hs : a.eval s = v) (hv : Own w B e m v n xs)
    (A : Option Addr) (k c : Nat) (news : List Value) (hx : a.eval x = .slice A k c) (hr : Row w A news) (hk : news.length = k * m) (h1 : ∀ u ∈ news, u.oneCell' = true)
    (hlen : n + k ≤ 1000000) (hby : by_ ≤ 100000000) (hB : B ≤ w.heap.size)
    (h : ∀ v' w', Own w' B e m v' (n + k) (xs ++ news) → Below B w w' → w.grownBy w' v.ownBlock → (v'.ownBlock = v.ownBlock ∨ v'.ownBlock = some w.heap.size) → K (a.put o.dst v') w') :
    Oper.wp Tryd.prog o a w K Q := by
  obtain ⟨v', w', hrun, h2, h3, h5⟩ := run_app ht hi hz0 hz1 hz2 hzm hm w o.type B v n xs hv A k c news hr hk h1 hlen hby hB
  unfold Oper.wp execOp
  simp only [ho, resolve, invoke, builtin, Sem.run_bind, Sem.run_pure, Result.andThen_ok, List.map_toArray, List.map_cons, List.map_nil, hs, hx, hrun]
  exact h v' w' h2 ((Below.refl B w).grown h3 hB fun k hk => (World.ownsRow.lt hv k hk).1) h3 h5
/-! BEGIN -/
def RcPost (w : World) (l : List UInt8) (e : Int) (r : Ending) (w' : World) : Prop := ∃ v A c, r = .returned (.tuple #[v, .agg #[.slice A (rCfgL l e).length c, .int .i64 (rCfgE l e)]]) ∧ CfgOwn w' w.heap.size v (rCfg l e) ∧ W.Rd w' A (rCfgL l e) ∧ (rCfgL l e).length ≤ c ∧ c ≤ 9223372036854775807 ∧ Below w.heap.size w w'
theorem own_at {V : World} {B n : Nat} {v : Value} {ys : List Int} (h : Own V B 3 1 v n (ivs ys)) (h0 : 0 < n) (hn : n = ys.length) :
    ∃ bb c, v = .slice (some ⟨bb, 0, none⟩) n c ∧ B ≤ bb ∧ bb < V.heap.size ∧ ∀ j y, ys[j]? = some y → V.cell? ⟨bb, j, none⟩ = some (.int .i64 y) := by
  obtain ⟨A, c, rfl, hr, _, _, hb⟩ := Own.row h
  obtain ⟨y0, hy0⟩ : ∃ y, ys[0]? = some y := ⟨_, List.getElem?_eq_getElem (by omega)⟩
  obtain ⟨bb, o, rfl, hlt, _⟩ := row_int hr hy0
  obtain ⟨rfl, hB, _⟩ := hb bb o rfl
  refine ⟨bb, c, rfl, hB, hlt, fun j y hj => ?_⟩
  obtain ⟨b', o', e', _, hc⟩ := row_int hr hj
  injection e' with e'
  injection e' with e1 e2
  subst e1 e2
  simpa using hc
/-- Within the document's read: the box of the reader, the config that is made, the results' boxes. -/
structure RB (w : World) (gx : Nat) (A : Option Addr) (c : Nat) (l : List UInt8) (e : Int) (xv lv : Value) (ys : List Int) (p f : Int) (v1 v2 v3 : Value) (ws : List Win) (cs : List Chn) (ac : List Int) (V : World) : Prop where
  box : Blk V gx 111 #[.slice A l.length c, .int .i64 e, xv]
  cfg : Blk V (w.heap.size + 3) 30 #[.int .i64 p, .int .i64 f, v1, v2, v3]
  ol : Own V w.heap.size 3 1 lv ys.length (ivs ys)
  o1 : Own V w.heap.size 89 3 v1 ws.length (wvs ws)
  o2 : Own V w.heap.size 118 11 v2 cs.length (cvs cs)
  o3 : Own V w.heap.size 3 1 v3 ac.length (ivs ac)
  r1 : Blk V (w.heap.size + 1) 30 #[.int .i64 0, .int .i64 0, .slice none 0 0, .slice none 0 0, .slice none 0 0]
  r2 : Blk V (w.heap.size + 2) 109 #[.slice none 0 0, .int .i64 0]
  rd : W.Rd w A l
  hc : l.length ≤ c
  hm : c ≤ 9223372036854775807
  bl : Below w.heap.size w V
section
variable {w V V' : World} {gx : Nat} {A : Option Addr} {c : Nat} {l : List UInt8} {e : Int} {xv lv : Value} {ys : List Int} {p f : Int} {v1 v2 v3 : Value} {ws : List Win} {cs : List Chn} {ac : List Int}
theorem RB.bel (h : RB w gx A c l e xv lv ys p f v1 v2 v3 ws cs ac V) (hb : Below V.heap.size V V') : RB w gx A c l e xv lv ys p f v1 v2 v3 ws cs ac V' :=
  ⟨h.box.bel hb, h.cfg.bel hb, h.ol.below hb, h.o1.below hb, h.o2.below hb, h.o3.below hb, h.r1.bel hb, h.r2.bel hb, h.rd, h.hc, h.hm, bt h.bl hb⟩
theorem RB.drew (h : RB w gx A c l e xv lv ys p f v1 v2 v3 ws cs ac V) : RB w gx A c l e xv lv ys p f v1 v2 v3 ws cs ac V.drew := ⟨h.box, h.cfg, h.ol, h.o1, h.o2, h.o3, h.r1, h.r2, h.rd, h.hc, h.hm, h.bl.drew⟩
theorem own_cl {V : World} {B n bb d : Nat} {ys : List Int} (h : Own V B 3 1 (.slice (some ⟨bb, 0, none⟩) n d) n (ivs ys)) {j : Nat} {y : Int} (hj : ys[j]? = some y) : V.cell? ⟨bb, j, none⟩ = some (.int .i64 y) := by
  obtain ⟨A, c, e, hr, _⟩ := Own.row h
  injection e with e1 _ _
  subst e1
  obtain ⟨b', o', e', _, hc⟩ := row_int hr hj
  injection e' with e'
  injection e' with e1 e2
  subst e1 e2
  simpa using hc
/-- The reader is set. -/
theorem RB.setR (h : RB w gx A c l e xv lv ys p f v1 v2 v3 ws cs ac V) (hg : w.heap.size ≤ gx) {A' : Option Addr} {c' : Nat} {l' : List UInt8} {e' : Int} (hr : W.Rd w A' l') (hc : l'.length ≤ c') (hm : c' ≤ 9223372036854775807) :
    RB w gx A' c' l' e' xv lv ys p f v1 v2 v3 ws cs ac ((V.setCell ⟨gx, 0, none⟩ (.slice A' l'.length c')).setCell ⟨gx, 1, none⟩ (.int .i64 e')) := by
  have n1 : w.heap.size + 3 ≠ gx := h.cfg.ne_ h.box (by decide)
  have n2 : w.heap.size + 1 ≠ gx := h.r1.ne_ h.box (by decide)
  have n3 : w.heap.size + 2 ≠ gx := h.r2.ne_ h.box (by decide)
  exact ⟨set2_blk h.box, (h.cfg.far (p := ⟨gx, 0, none⟩) n1 _).far (p := ⟨gx, 1, none⟩) n1 _, set2_own h.ol h.box (by decide), set2_own h.o1 h.box (by decide), set2_own h.o2 h.box (by decide), set2_own h.o3 h.box (by decide), (h.r1.far (p := ⟨gx, 0, none⟩) n2 _).far (p := ⟨gx, 1, none⟩) n2 _, (h.r2.far (p := ⟨gx, 0, none⟩) n3 _).far (p := ⟨gx, 1, none⟩) n3 _, hr, hc, hm, (h.bl.setCell (p := ⟨gx, 0, none⟩) hg _).setCell (p := ⟨gx, 1, none⟩) hg _⟩
/-- A window more. -/
theorem RB.addW (h : RB w gx A c l e xv lv ys p f v1 v2 v3 ws cs ac V) {v' : Value} {x : Win} (ho : Own V' w.heap.size 89 3 v' (ws.length + 1) (wvs ws ++ wvs [x])) (hb : Below w.heap.size V V') (hg : V.grownBy V' v1.ownBlock) :
    RB w gx A c l e xv lv ys p f v' v2 v3 (ws ++ [x]) cs ac (V'.setCell ⟨w.heap.size + 3, 2, none⟩ v') := by
  have ob : ∀ {g : Nat} {t : TypeId} {xs : Array Value}, Blk V g t xs → 89 ≠ t → Blk V' g t xs := fun hB hne => blk_grown hB hg (own_ne h.o1 hB hne)
  have cf := ob h.cfg (by decide)
  have oo : ∀ {t : TypeId} {m n : Nat} {v : Value} {xs : List Value}, Own V w.heap.size t m v n xs → 89 ≠ t → Own V' w.heap.size t m v n xs := fun hO hne => hO.grown hg fun g hv hgv => by
    obtain ⟨_, cur, hc⟩ := Own.block_lt hO hv
    exact (own_ne h.o1 hc hne) hgv
  refine ⟨(ob h.box (by decide)).far (p := ⟨w.heap.size + 3, 2, none⟩) (h.cfg.ne_ h.box (by decide)).symm _, by simpa using cf.set_ 2 v', (oo h.ol (by decide)).far cf (by decide) 2 v', ?_, (oo h.o2 (by decide)).far cf (by decide) 2 v', (oo h.o3 (by decide)).far cf (by decide) 2 v', (ob h.r1 (by decide)).far (p := ⟨w.heap.size + 3, 2, none⟩) (by show w.heap.size + 1 ≠ w.heap.size + 3; omega) _, (ob h.r2 (by decide)).far (p := ⟨w.heap.size + 3, 2, none⟩) (by show w.heap.size + 2 ≠ w.heap.size + 3; omega) _, h.rd, h.hc, h.hm, (h.bl.trans hb).setCell (p := ⟨w.heap.size + 3, 2, none⟩) (by show w.heap.size ≤ w.heap.size + 3; omega) _⟩
  rw [wvs_app, List.length_append]; exact ho.far cf (by decide) 2 v'
/-- A channel more. -/
theorem RB.addC (h : RB w gx A c l e xv lv ys p f v1 v2 v3 ws cs ac V) {v' : Value} {x : Chn} (ho : Own V' w.heap.size 118 11 v' (cs.length + 1) (cvs cs ++ cvs [x])) (hb : Below w.heap.size V V') (hg : V.grownBy V' v2.ownBlock) :
    RB w gx A c l e xv lv ys p f v1 v' v3 ws (cs ++ [x]) ac (V'.setCell ⟨w.heap.size + 3, 3, none⟩ v') := by
  have ob : ∀ {g : Nat} {t : TypeId} {xs : Array Value}, Blk V g t xs → 118 ≠ t → Blk V' g t xs := fun hB hne => blk_grown hB hg (own_ne h.o2 hB hne)
  have cf := ob h.cfg (by decide)
  have oo : ∀ {t : TypeId} {m n : Nat} {v : Value} {xs : List Value}, Own V w.heap.size t m v n xs → 118 ≠ t → Own V' w.heap.size t m v n xs := fun hO hne => hO.grown hg fun g hv hgv => by
    obtain ⟨_, cur, hc⟩ := Own.block_lt hO hv
    exact (own_ne h.o2 hc hne) hgv
  refine ⟨(ob h.box (by decide)).far (p := ⟨w.heap.size + 3, 3, none⟩) (h.cfg.ne_ h.box (by decide)).symm _, by simpa using cf.set_ 3 v', (oo h.ol (by decide)).far cf (by decide) 3 v', (oo h.o1 (by decide)).far cf (by decide) 3 v', ?_, (oo h.o3 (by decide)).far cf (by decide) 3 v', (ob h.r1 (by decide)).far (p := ⟨w.heap.size + 3, 3, none⟩) (by show w.heap.size + 1 ≠ w.heap.size + 3; omega) _, (ob h.r2 (by decide)).far (p := ⟨w.heap.size + 3, 3, none⟩) (by show w.heap.size + 2 ≠ w.heap.size + 3; omega) _, h.rd, h.hc, h.hm, (h.bl.trans hb).setCell (p := ⟨w.heap.size + 3, 3, none⟩) (by show w.heap.size ≤ w.heap.size + 3; omega) _⟩
  rw [cvs_app, List.length_append]; exact ho.far cf (by decide) 3 v'
/-- An Action more: its list's own block lies above the list that is kept. -/
theorem RB.addA {B3 : Nat} (h : RB w gx A c l e xv lv ys p f v1 v2 v3 ws cs ac V) (hB3 : w.heap.size ≤ B3) (hq : ∀ k, lv.ownBlock = some k → k < B3) (h3 : Own V B3 3 1 v3 ac.length (ivs ac)) {v' : Value} {x : Int} (ho : Own V' B3 3 1 v' (ac.length + 1) (ivs ac ++ ivs [x])) (hb : Below w.heap.size V V') (hg : V.grownBy V' v3.ownBlock) :
    RB w gx A c l e xv lv ys p f v1 v2 v' ws cs (ac ++ [x]) (V'.setCell ⟨w.heap.size + 3, 4, none⟩ v') := by
  have ob : ∀ {g : Nat} {t : TypeId} {xs : Array Value}, Blk V g t xs → 3 ≠ t → Blk V' g t xs := fun hB hne => blk_grown hB hg (own_ne h.o3 hB hne)
  have cf := ob h.cfg (by decide)
  have oo : ∀ {t : TypeId} {m n : Nat} {v : Value} {xs : List Value}, Own V w.heap.size t m v n xs → 3 ≠ t → Own V' w.heap.size t m v n xs := fun hO hne => hO.grown hg fun g hv hgv => by
    obtain ⟨_, cur, hc⟩ := Own.block_lt hO hv
    exact (own_ne h.o3 hc hne) hgv
  have ol : Own V' w.heap.size 3 1 lv ys.length (ivs ys) := h.ol.grown hg fun g hv hgv => by
    have h1 := hq g hv
    have h2 := (Own.block_lt h3 hgv.symm).1
    omega
  refine ⟨(ob h.box (by decide)).far (p := ⟨w.heap.size + 3, 4, none⟩) (h.cfg.ne_ h.box (by decide)).symm _, by simpa using cf.set_ 4 v', ol.far cf (by decide) 4 v', (oo h.o1 (by decide)).far cf (by decide) 4 v', (oo h.o2 (by decide)).far cf (by decide) 4 v', ?_, (ob h.r1 (by decide)).far (p := ⟨w.heap.size + 3, 4, none⟩) (by show w.heap.size + 1 ≠ w.heap.size + 3; omega) _, (ob h.r2 (by decide)).far (p := ⟨w.heap.size + 3, 4, none⟩) (by show w.heap.size + 2 ≠ w.heap.size + 3; omega) _, h.rd, h.hc, h.hm, (h.bl.trans hb).setCell (p := ⟨w.heap.size + 3, 4, none⟩) (by show w.heap.size ≤ w.heap.size + 3; omega) _⟩
  rw [ivs_app, List.length_append]; exact (ho.less hB3).far cf (by decide) 4 v'
/-- The results' boxes are filled. -/
def endW (V : World) (g : Nat) (x0 x1 x2 x3 x4 y0 y1 : Value) : World := (((((((V.setCell ⟨g + 1, 0, none⟩ x0).setCell ⟨g + 1, 1, none⟩ x1).setCell ⟨g + 1, 2, none⟩ x2).setCell ⟨g + 1, 3, none⟩ x3).setCell ⟨g + 1, 4, none⟩ x4).setCell ⟨g + 1 + 1, 0, none⟩ y0).setCell ⟨g + 1 + 1, 1, none⟩ y1).drew
theorem RB.fin (h : RB w gx A c l e xv lv ys p f v1 v2 v3 ws cs ac V) (x0 x1 x2 x3 x4 y0 y1 : Value) :
    Blk (endW V w.heap.size x0 x1 x2 x3 x4 y0 y1) (w.heap.size + 1) 30 #[x0, x1, x2, x3, x4] ∧ Blk (endW V w.heap.size x0 x1 x2 x3 x4 y0 y1) (w.heap.size + 1 + 1) 109 #[y0, y1] ∧ Own (endW V w.heap.size x0 x1 x2 x3 x4 y0 y1) w.heap.size 89 3 v1 ws.length (wvs ws) ∧ Own (endW V w.heap.size x0 x1 x2 x3 x4 y0 y1) w.heap.size 118 11 v2 cs.length (cvs cs) ∧ Own (endW V w.heap.size x0 x1 x2 x3 x4 y0 y1) w.heap.size 3 1 v3 ac.length (ivs ac) ∧ Below w.heap.size w (endW V w.heap.size x0 x1 x2 x3 x4 y0 y1) := by
  have a5 := ((((h.r1.set_ 0 x0).set_ 1 x1).set_ 2 x2).set_ 3 x3).set_ 4 x4
  have n12 : w.heap.size + 1 + 1 ≠ w.heap.size + 1 := by omega
  have n21 : w.heap.size + 1 ≠ w.heap.size + 1 + 1 := by omega
  have b5 := ((((h.r2.far (p := ⟨w.heap.size + 1, 0, none⟩) n12 x0).far (p := ⟨w.heap.size + 1, 1, none⟩) n12 x1).far (p := ⟨w.heap.size + 1, 2, none⟩) n12 x2).far (p := ⟨w.heap.size + 1, 3, none⟩) n12 x3).far (p := ⟨w.heap.size + 1, 4, none⟩) n12 x4
  have oo : ∀ {t : TypeId} {m n : Nat} {v : Value} {xs : List Value}, Own V w.heap.size t m v n xs → t ≠ 30 → t ≠ 109 → Own (endW V w.heap.size x0 x1 x2 x3 x4 y0 y1) w.heap.size t m v n xs := fun hO d1 d2 => by
    have o1 := hO.far h.r1 d1 0 x0
    have o2 := o1.far (h.r1.set_ 0 x0) d1 1 x1
    have o3 := o2.far ((h.r1.set_ 0 x0).set_ 1 x1) d1 2 x2
    have o4 := o3.far (((h.r1.set_ 0 x0).set_ 1 x1).set_ 2 x2) d1 3 x3
    have o5 := o4.far ((((h.r1.set_ 0 x0).set_ 1 x1).set_ 2 x2).set_ 3 x3) d1 4 x4
    have o6 := o5.far b5 d2 0 y0
    have o7 := o6.far (b5.set_ 0 y0) d2 1 y1
    exact o7.drewN 1
  have s1 : w.heap.size ≤ w.heap.size + 1 := by omega
  have s2 : w.heap.size ≤ w.heap.size + 1 + 1 := by omega
  exact ⟨((a5.far (p := ⟨w.heap.size + 1 + 1, 0, none⟩) n21 y0).far (p := ⟨w.heap.size + 1 + 1, 1, none⟩) n21 y1).drewN 1, ((b5.set_ 0 y0).set_ 1 y1).drewN 1, oo h.o1 (by decide) (by decide), oo h.o2 (by decide) (by decide), oo h.o3 (by decide) (by decide),
    (((((((h.bl.setCell (p := ⟨w.heap.size + 1, 0, none⟩) s1 x0).setCell (p := ⟨w.heap.size + 1, 1, none⟩) s1 x1).setCell (p := ⟨w.heap.size + 1, 2, none⟩) s1 x2).setCell (p := ⟨w.heap.size + 1, 3, none⟩) s1 x3).setCell (p := ⟨w.heap.size + 1, 4, none⟩) s1 x4).setCell (p := ⟨w.heap.size + 1 + 1, 0, none⟩) s2 y0).setCell (p := ⟨w.heap.size + 1 + 1, 1, none⟩) s2 y1).drew⟩
/-- Another list is kept. -/
theorem RB.swap (h : RB w gx A c l e xv lv ys p f v1 v2 v3 ws cs ac V) {lv' : Value} {ys' : List Int} (hO : Own V w.heap.size 3 1 lv' ys'.length (ivs ys')) : RB w gx A c l e xv lv' ys' p f v1 v2 v3 ws cs ac V :=
  ⟨h.box, h.cfg, hO, h.o1, h.o2, h.o3, h.r1, h.r2, h.rd, h.hc, h.hm, h.bl⟩
end
def InvRA (w : World) (gx gm : Nat) (mb : Array Value) (xv lv : Value) (ys : List Int) (p f : Int) (v1 v2 : Value) (ws : List Win) (cs : List Chn) (m : Nat) (l : List UInt8) (e : Int) (i : Value) (V : World) : Prop :=
  ∃ (j : Nat) (A : Option Addr) (c : Nat) (v3 : Value), i = .int .i64 j ∧ j ≤ m ∧ RB w gx A c (rAl j l e) (rAe j l e) xv lv ys p f v1 v2 v3 ws cs (rAs j l e) V ∧ Blk V gm 111 mb ∧ Own V gm 3 1 v3 (rAs j l e).length (ivs (rAs j l e))
def InvRC (w : World) (gx gm : Nat) (mb : Array Value) (xv lv : Value) (ys : List Int) (p f : Int) (v1 : Value) (ws : List Win) (m : Nat) (l : List UInt8) (e : Int) (i : Value) (V : World) : Prop :=
  ∃ (j : Nat) (A : Option Addr) (c : Nat) (v2 : Value), i = .int .i64 j ∧ j ≤ m ∧ RB w gx A c (rCl j l e) (rCe j l e) xv lv ys p f v1 v2 (.slice none 0 0) ws (rCs j l e) [] V ∧ Blk V gm 111 mb
def InvRW (w : World) (gx : Nat) (lv : Value) (ys : List Int) (p f : Int) (n : Nat) (l : List UInt8) (e : Int) (i : Value) (V : World) : Prop :=
  ∃ (j : Nat) (A : Option Addr) (c : Nat) (v1 : Value), i = .int .i64 j ∧ j ≤ n ∧ RB w gx A c (rWl j l e) (rWe j l e) lv lv ys p f v1 (.slice none 0 0) (.slice none 0 0) (rWs j l e) [] [] V
theorem rWs_wb' : ∀ (k : Nat) (l : List UInt8) (e : Int) (i : Nat) (x : Win), (rWs k l e)[i]? = some x → x.s ≤ 9223372036854775807
  | 0, _, _, i, x, h => by simp [rWs] at h
  | k + 1, l, e, 0, x, h => by
    obtain rfl : rWin l e = x := by simpa [rWs] using h
    have := nx1_bd (rl [1] l e) (re [1] l e)
    simp only [rWin]; omega
  | k + 1, l, e, i + 1, x, h => rWs_wb' k _ _ i x (by simpa [rWs] using h)
theorem rd1_eq {l l3 : List UInt8} {e e3 : Int} {n : Nat} (h3 : W.nxV (W.nxL (W.nxL l e 1) (W.nxE l e 1) 1) (W.nxE (W.nxL l e 1) (W.nxE l e 1) 1) 1 = (n : Int)) (h4 : rl [1, 1, 1] l e = l3) (h5 : re [1, 1, 1] l e = e3) : rd1 l e = (rWs n l3 e3, rWl n l3 e3, rWe n l3 e3) := by
  show (rWs (W.nxV (W.nxL (W.nxL l e 1) (W.nxE l e 1) 1) (W.nxE (W.nxL l e 1) (W.nxE l e 1) 1) 1).toNat (rl [1, 1, 1] l e) (re [1, 1, 1] l e), rWl (W.nxV (W.nxL (W.nxL l e 1) (W.nxE l e 1) 1) (W.nxE (W.nxL l e 1) (W.nxE l e 1) 1) 1).toNat (rl [1, 1, 1] l e) (re [1, 1, 1] l e), rWe (W.nxV (W.nxL (W.nxL l e 1) (W.nxE l e 1) 1) (W.nxE (W.nxL l e 1) (W.nxE l e 1) 1) 1).toNat (rl [1, 1, 1] l e) (re [1, 1, 1] l e)) = _
  rw [h3, h4, h5]; rfl
theorem rdC_eq {l l3 : List UInt8} {e e3 : Int} {n : Nat} (h3 : W.nxV l e 1 = (n : Int)) (h4 : rl [1] l e = l3) (h5 : re [1] l e = e3) : rdC l e = (rCs n l3 e3, rCl n l3 e3, rCe n l3 e3) := by
  rw [rdC, h3, h4, h5]; rfl
theorem rdA_eq {l l3 : List UInt8} {e e3 : Int} {n : Nat} (h3 : W.nxV l e 1 = (n : Int)) (h4 : rl [1] l e = l3) (h5 : re [1] l e = e3) : rdA l e = (rAs n l3 e3, rAl n l3 e3, rAe n l3 e3) := by
  rw [rdA, h3, h4, h5]; rfl
set_option maxHeartbeats 4000000 in
theorem rread_any {w : World} {A : Option Addr} {c : Nat} {l : List UInt8} {e : Int} (hr : W.Rd w A l) (hc : l.length ≤ c) (hc1 : c ≤ 9223372036854775807) :
    Calls Tryd.prog 66 #[.agg #[.slice A l.length c, .int .i64 e]] w (RcPost w l e) := by
  have W0 := b01 w (.cells #[.slice A l.length c, .int .i64 e] 109)
  have W1 := ba1 W0 (.cells #[.int .i64 0, .int .i64 0, .slice none 0 0, .slice none 0 0, .slice none 0 0] 30)
  have X1 := Blk.new_at (w := w.alloc (.cells #[.slice A l.length c, .int .i64 e] 109)) (n := w.heap.size + 1) (by simp) 30 #[.int .i64 0, .int .i64 0, .slice none 0 0, .slice none 0 0, .slice none 0 0]
  obtain ⟨V1, hV1⟩ : ∃ V, (w.alloc (.cells #[.slice A l.length c, .int .i64 e] 109)).alloc (.cells #[.int .i64 0, .int .i64 0, .slice none 0 0, .slice none 0 0, .slice none 0 0] 30) = V := ⟨_, rfl⟩
  have s1 : V1.heap.size = w.heap.size + 2 := by rw [← hV1]; simp
  rw [hV1] at W1 X1
  have W2 := ba1 W1 (.cells #[.slice none 0 0, .int .i64 0] 109)
  have X2 := Blk.new_at s1 109 #[.slice none 0 0, .int .i64 0]
  have Y2 := X1.alloc (.cells #[.slice none 0 0, .int .i64 0] 109)
  obtain ⟨V2, hV2⟩ : ∃ V, V1.alloc (.cells #[.slice none 0 0, .int .i64 0] 109) = V := ⟨_, rfl⟩
  have s2 : V2.heap.size = w.heap.size + 3 := by rw [← hV2]; simp [s1]
  rw [hV2] at W2 X2 Y2
  have W3 := ba1 W2 (.cells #[.int .i64 0, .int .i64 0, .slice none 0 0, .slice none 0 0, .slice none 0 0] 30)
  have X3 := Blk.new_at s2 30 #[.int .i64 0, .int .i64 0, .slice none 0 0, .slice none 0 0, .slice none 0 0]
  have Y3 := X2.alloc (.cells #[.int .i64 0, .int .i64 0, .slice none 0 0, .slice none 0 0, .slice none 0 0] 30)
  have Z3 := Y2.alloc (.cells #[.int .i64 0, .int .i64 0, .slice none 0 0, .slice none 0 0, .slice none 0 0] 30)
  obtain ⟨V3, hV3⟩ : ∃ V, V2.alloc (.cells #[.int .i64 0, .int .i64 0, .slice none 0 0, .slice none 0 0, .slice none 0 0] 30) = V := ⟨_, rfl⟩
  have s3 : V3.heap.size = w.heap.size + 4 := by rw [← hV3]; simp [s2]
  rw [hV3] at W3 X3 Y3 Z3
  have W4 := ba1 W3 (.cells #[.int .i64 1, .int .i64 1, .int .i64 1] 3)
  have L4 := Blk.new_at s3 3 #[.int .i64 1, .int .i64 1, .int .i64 1]
  have R4 : Row (V3.alloc (.cells #[.int .i64 1, .int .i64 1, .int .i64 1] 3)) (some ⟨w.heap.size + 4, 0, none⟩) (ivs [1, 1, 1]) := Row.of_blk L4 fun j u hj => by simpa [ivs, iv] using hj
  have X4 := X3.alloc (.cells #[.int .i64 1, .int .i64 1, .int .i64 1] 3)
  have Y4 := Y3.alloc (.cells #[.int .i64 1, .int .i64 1, .int .i64 1] 3)
  have Z4 := Z3.alloc (.cells #[.int .i64 1, .int .i64 1, .int .i64 1] 3)
  obtain ⟨V4, hV4⟩ : ∃ V, V3.alloc (.cells #[.int .i64 1, .int .i64 1, .int .i64 1] 3) = V := ⟨_, rfl⟩
  have HV : Hid ((((((w.alloc (.cells #[.slice A l.length c, .int .i64 e] 109)).alloc (.cells #[.int .i64 0, .int .i64 0, .slice none 0 0, .slice none 0 0, .slice none 0 0] 30)).alloc (.cells #[.slice none 0 0, .int .i64 0] 109)).alloc (.cells #[.int .i64 0, .int .i64 0, .slice none 0 0, .slice none 0 0, .slice none 0 0] 30)).alloc (.cells #[.int .i64 1, .int .i64 1, .int .i64 1] 3)) = V4) := by
    show _ = V4
    rw [hV1, hV2, hV3, hV4]
  rw [hV4] at W4 R4 X4 Y4 Z4
  have HM := Lib.hid (rtake_any (e := e) W4 hr hc hc1 R4 (cw := 3) (by simp))
  have HX := Lib.hid X4
  have HY := Lib.hid Y4
  have HZ := Lib.hid Z4
  have HW := Lib.hid W4
  clear W0 W1 W2 W3 W4 X1 X2 X3 X4 Y2 Y3 Y4 Z3 Z4 L4 R4 hV1 hV2 hV3 hV4 s1 s2 s3 hr hc hc1
  go_enter Tryd.func66, Tryd.ntmps66
  go_wp2_with fail
  rw [HV.out]
  refine HM.out.mono ?_
  rintro r w1 ⟨A2, c2, v2, rfl, hr2, hc2, hm2, ho2, hb1⟩
  obtain ⟨bb, d2, rfl, hbb, hbl, hcel⟩ := own_at ho2 (by simp) (by rw [rv_len])
  have q0 := hcel 0 _ rfl
  have q1 := hcel 1 _ rfl
  have q2 := hcel 2 _ rfl
  have HN : Hid (rv [1, 1, 1] l e = [W.nxV l e 1, W.nxV (rl [1] l e) (re [1] l e) 1, W.nxV (rl [1, 1] l e) (re [1, 1] l e) 1]) := rfl
  obtain ⟨p, hp⟩ : ∃ x, W.nxV l e 1 = x := ⟨_, rfl⟩
  obtain ⟨f, hf⟩ : ∃ x, W.nxV (W.nxL l e 1) (W.nxE l e 1) 1 = x := ⟨_, rfl⟩
  obtain ⟨y, hy⟩ : ∃ x, W.nxV (W.nxL (W.nxL l e 1) (W.nxE l e 1) 1) (W.nxE (W.nxL l e 1) (W.nxE l e 1) 1) 1 = x := ⟨_, rfl⟩
  obtain ⟨l3, hl3⟩ : ∃ x, rl [1, 1, 1] l e = x := ⟨_, rfl⟩
  obtain ⟨e3, he3⟩ : ∃ x, re [1, 1, 1] l e = x := ⟨_, rfl⟩
  rw [hp] at q0
  rw [hf] at q1
  have hbd := nx1_bd (W.nxL (W.nxL l e 1) (W.nxE l e 1) 1) (W.nxE (W.nxL l e 1) (W.nxE l e 1) 1)
  rw [hy] at hbd
  have hy0 : ∃ n : Nat, y = n ∧ n ≤ 255 := ⟨y.toNat, by omega, by omega⟩
  clear hbd
  obtain ⟨n, rfl, hn255⟩ := hy0
  have HNn := Lib.hid hn255
  clear hn255
  rw [hy] at q2
  rw [hl3] at hr2 hc2 ⊢
  rw [he3]
  have HQ := Lib.hid (And.intro hp (And.intro hf (And.intro hy (And.intro hl3 he3))))
  have HO2 : Hid (Own w1 w.heap.size 3 1 (.slice (some ⟨bb, 0, none⟩) 3 d2) 3 (ivs [p, f, (n : Int)])) := by
    have h0 : Own w1 w.heap.size 3 1 (.slice (some ⟨bb, 0, none⟩) 3 d2) 3 (ivs [W.nxV l e 1, W.nxV (W.nxL l e 1) (W.nxE l e 1) 1, W.nxV (W.nxL (W.nxL l e 1) (W.nxE l e 1) 1) (W.nxE (W.nxL l e 1) (W.nxE l e 1) 1) 1]) := ho2.less (bs HW.out (Nat.le_refl _))
    rw [hp, hf, hy] at h0
    exact h0
  clear hp hf hy HN hcel ho2 HV HM
  have HC2 := Lib.hid (And.intro hr2 (And.intro hc2 hm2))
  have N5 := ba1 hb1 (.cells #[.slice A2 l3.length c2, .int .i64 e3, .slice (some ⟨bb, 0, none⟩) 3 d2] 111)
  have B5 := Blk.new w1 111 #[.slice A2 l3.length c2, .int .i64 e3, .slice (some ⟨bb, 0, none⟩) 3 d2]
  have HX5 := Lib.hid (HX.out.bel N5)
  have HY5 := Lib.hid (HY.out.bel N5)
  have HZ5 := Lib.hid (HZ.out.bel N5)
  have HW5 := Lib.hid (bt HW.out N5)
  have hbb5 : w.heap.size ≤ bb := bs HW.out hbb
  have kx := HX5.out.cell
  have fx := HX5.out.frozen
  have zx := HX5.out.lt
  have kb := B5.cell
  have HW0 := Lib.hid (bt HW.out hb1)
  clear hr2 hc2 hm2 hl3 he3 HX HY HZ HW hbb hb1 N5
  go_wp2_with fail
  have hgx : w.heap.size ≤ w1.heap.size := bs HW0.out (Nat.le_refl _)
  have HR5 : Hid (InvRW w w1.heap.size (.slice (some ⟨bb, 0, none⟩) 3 d2) [p, f, (n : Int)] p f n l3 e3 (.int .i64 0) (((w1.alloc (.cells #[.slice A2 l3.length c2, .int .i64 e3, .slice (some ⟨bb, 0, none⟩) 3 d2] 111)).setCell ⟨w.heap.size + 3, 0, none⟩ (.int .i64 p)).setCell ⟨w.heap.size + 3, 1, none⟩ (.int .i64 f))) := by
    have B5' := Blk.new w1 111 #[.slice A2 l3.length c2, .int .i64 e3, .slice (some ⟨bb, 0, none⟩) 3 d2]
    have n3 : w1.heap.size ≠ w.heap.size + 3 := B5'.ne_ HX5.out (by decide)
    exact ⟨0, A2, c2, .slice none 0 0, rfl, Nat.zero_le _, (B5'.far (p := ⟨w.heap.size + 3, 0, none⟩) n3 _).far (p := ⟨w.heap.size + 3, 1, none⟩) n3 _, (HX5.out.set_ 0 (.int .i64 p)).set_ 1 (.int .i64 f), set2_own (HO2.out.below (b01 w1 _)) HX5.out (by decide), Own.nil_ _ _ _ _, Own.nil_ _ _ _ _, Own.nil_ _ _ _ _, (HZ5.out.far (p := ⟨w.heap.size + 3, 0, none⟩) (by show w.heap.size + 1 ≠ w.heap.size + 3; omega) _).far (p := ⟨w.heap.size + 3, 1, none⟩) (by show w.heap.size + 1 ≠ w.heap.size + 3; omega) _, (HY5.out.far (p := ⟨w.heap.size + 3, 0, none⟩) (by show w.heap.size + 2 ≠ w.heap.size + 3; omega) _).far (p := ⟨w.heap.size + 3, 1, none⟩) (by show w.heap.size + 2 ≠ w.heap.size + 3; omega) _, HC2.out.1, HC2.out.2.1, HC2.out.2.2, (HW5.out.setCell (p := ⟨w.heap.size + 3, 0, none⟩) (by show w.heap.size ≤ w.heap.size + 3; omega) _).setCell (p := ⟨w.heap.size + 3, 1, none⟩) (by show w.heap.size ≤ w.heap.size + 3; omega) _⟩
  clear HO2
  clear HX5 HY5 HZ5 HW5 kx fx zx kb B5 q0 q1 q2 HW0
  generalize w1.heap.size = gx at *
  go_loopw [6] (fun i V => InvRW w gx (.slice (some ⟨bb, 0, none⟩) 3 d2) [p, f, (n : Int)] p f n l3 e3 i V) (fun i _ => n - (intOf i).toNat)
  case atStart => exact HR5.out
  case round =>
    obtain ⟨j, A3, c3, v1, rfl, hj, hR⟩ := hrel
    have HR := Lib.hid hR
    have HLJ : Hid ((rWs j l3 e3).length = j) := rWs_len j l3 e3
    obtain ⟨P1, p1, hv1, hz7⟩ := Own.row hR.o1
    subst hv1
    clear hz7
    have kx := hR.box.cell
    have fx := hR.box.frozen
    have zx := hR.box.lt
    have q2 := own_cl (d := d2) hR.ol (j := 2) (y := (n : Int)) rfl
    by_cases hlt : j < n
    · have f1 : (j : Int) < n := by omega
      have N8 := b01 wr (.cells #[.int .i64 1, .int .i64 1, .int .i64 1] 3)
      have R8 : Row (wr.alloc (.cells #[.int .i64 1, .int .i64 1, .int .i64 1] 3)) (some ⟨wr.heap.size, 0, none⟩) (ivs [1, 1, 1]) := Row.of_blk (Blk.new wr 3 _) fun j u hj => by simpa [ivs, iv] using hj
      have HM : Hid (Calls Tryd.prog 65 #[.agg #[.slice A3 (rWl j l3 e3).length c3, .int .i64 (rWe j l3 e3), .slice none 0 0], .slice (some ⟨wr.heap.size, 0, none⟩) 3 3] (wr.alloc (.cells #[.int .i64 1, .int .i64 1, .int .i64 1] 3)) (TakePost w (wr.alloc (.cells #[.int .i64 1, .int .i64 1, .int .i64 1] 3)) (rWl j l3 e3) (rWe j l3 e3) [1, 1, 1])) := rtake_any (e := rWe j l3 e3) (bt hR.bl N8) hR.rd hR.hc hR.hm R8 (cw := 3) (by simp)
      have HN8 := Lib.hid N8
      clear hR R8 N8 HR5
      go_upto_region 9 with (go_at_call 65; go_loud ((with_reducible refine HM.out.mono ?_); rintro r w10 ⟨A5, c5, v5, rfl, hr5, hc5, hm5, ho5, hb10⟩; obtain ⟨b5, d5, rfl, hB5, hz5, hz6⟩ := own_at (n := 3) ho5 (by omega) (by rw [rv_len]; rfl)))
      clear hz5 hz6
      obtain ⟨a0, a1, a2, hrv, hwin⟩ : ∃ a0 a1 a2, rv [1, 1, 1] (rWl j l3 e3) (rWe j l3 e3) = [a0, a1, a2] ∧ rWin (rWl j l3 e3) (rWe j l3 e3) = ⟨uo a0, a1, a2⟩ := ⟨_, _, _, rfl, rfl⟩
      rw [hrv] at ho5
      have hws : rWs (j + 1) l3 e3 = rWs j l3 e3 ++ [⟨uo a0, a1, a2⟩] := by rw [rWs_snoc, hwin]
      rw [← rWl_snoc] at hr5 hc5 ⊢
      rw [← rWe_snoc]
      have HRel : Hid (∀ (i : Value) (V : World) (A : Option Addr) (c : Nat) (v1 : Value), i = .int .i64 ((j + 1 : Nat) : Int) → RB w gx A c (rWl (j + 1) l3 e3) (rWe (j + 1) l3 e3) (.slice (some ⟨bb, 0, none⟩) 3 d2) (.slice (some ⟨bb, 0, none⟩) 3 d2) [p, f, (n : Int)] p f v1 (.slice none 0 0) (.slice none 0 0) (rWs j l3 e3 ++ [⟨uo a0, a1, a2⟩]) [] [] V → InvRW w gx (.slice (some ⟨bb, 0, none⟩) 3 d2) [p, f, (n : Int)] p f n l3 e3 i V) := fun i V A c v1 hi h => ⟨j + 1, A, c, v1, hi, by omega, by rw [hws]; exact h⟩
      generalize rWl (j + 1) l3 e3 = l5 at *
      generalize rWe (j + 1) l3 e3 = e5 at *
      have hne : w10.heap.size ≠ gx := by have := (bt HN8.out hb10).size; omega
      have B7 := Blk.new w10 111 #[.slice A5 l5.length c5, .int .i64 e5, .slice (some ⟨b5, 0, none⟩) 3 d5]
      have HR9 := Lib.hid (HR.out.bel (ba1 (bt HN8.out hb10) (.cells #[.slice A5 l5.length c5, .int .i64 e5, .slice (some ⟨b5, 0, none⟩) 3 d5] 111)))
      have HO9 := Lib.hid (ho5.alloc (.cells #[.slice A5 l5.length c5, .int .i64 e5, .slice (some ⟨b5, 0, none⟩) 3 d5] 111))
      have HC5 := Lib.hid (And.intro hr5 (And.intro hc5 hm5))
      have hB5' : w.heap.size ≤ b5 := by have h1 := HR.out.bl.size; have h2 := HN8.out.size; omega
      generalize rWs j l3 e3 = ws at *
      clear kx fx zx q2 hrv hws hwin HR HM HN8 ho5 hr5 hc5 hm5 hb10 hB5
      generalize w10.heap.size = g7 at *
      generalize w10.alloc (.cells #[.slice A5 l5.length c5, .int .i64 e5, .slice (some ⟨b5, 0, none⟩) 3 d5] 111) = V9 at *
      have kx := HR9.out.box.cell
      have fx := HR9.out.box.frozen
      have zx := HR9.out.box.lt
      have ky := B7.cell
      go_upto_region 10 with fail
      have HR10 := Lib.hid (HR9.out.setR hgx HC5.out.1 HC5.out.2.1 HC5.out.2.2 (e' := e5))
      have HB7 := Lib.hid ((B7.far (p := ⟨gx, 0, none⟩) hne (.slice A5 l5.length c5)).far (p := ⟨gx, 1, none⟩) hne (.int .i64 e5))
      have HO10 := Lib.hid (set2_own (v1 := .slice A5 l5.length c5) (v2 := .int .i64 e5) HO9.out HR9.out.box (by decide))
      clear kx fx zx ky B7 HR9 HO9
      generalize (V9.setCell ⟨gx, 0, none⟩ (.slice A5 l5.length c5)).setCell ⟨gx, 1, none⟩ (.int .i64 e5) = V10 at *
      have ky := HB7.out.cell
      have q0 := own_cl HO10.out (j := 0) (y := a0) rfl
      have q1 := own_cl HO10.out (j := 1) (y := a1) rfl
      have q2 := own_cl HO10.out (j := 2) (y := a2) rfl
      obtain ⟨i0, hi, hz0, hz1, hz2⟩ := info_parts infoW
      have HN : Hid (ws.length ≤ 255) := by show ws.length ≤ 255; have := HLJ.out; have := HNn.out; omega
      clear HLJ hne hB5'
      go_upto_if 51 with fail
      go_cut [8] from 30 to 66 (fun ov V => ov = .int .i64 (uo a0) ∧ V = V10)
      case first =>
        by_cases h255 : a0 = 255
        · have t0 : (a0 == 255) = true := by rw [beq_iff_eq]; exact h255
          have hu : Hid (uo a0 = -1) := by show uo a0 = -1; rw [uo, if_pos h255]
          clear h255
          go_wp2_with fail
          go_meet
          exact ⟨by rw [hu.out], rfl⟩
        · have t0 : (a0 == 255) = false := by rw [beq_eq_false_iff_ne]; exact h255
          have hu : Hid (uo a0 = a0) := by show uo a0 = a0; rw [uo, if_neg h255]
          clear h255
          go_wp2_with fail
          go_meet
          exact ⟨by rw [hu.out], rfl⟩
      case rest =>
        obtain ⟨rfl, rfl⟩ := hcut
        generalize uo a0 = o0 at *
        obtain ⟨gc, hgc⟩ : ∃ gc, w.heap.size + 1 + 1 + 1 = gc := ⟨_, rfl⟩
        have hgc3 : w.heap.size + 3 = gc := hgc
        have N13 := b01 wc.drew (.cells #[.int .i64 o0, .int .i64 a1, .int .i64 a2] 89)
        have HR13 := Lib.hid (HR10.out.drew.bel N13)
        have cfg0 := HR10.out.drew.cfg
        have cfg1 := HR13.out.cfg
        rw [hgc3] at cfg0 cfg1
        have K0 : wc.drew.cell? ⟨gc, 2, none⟩ = some (.slice P1 ws.length p1) := by rw [cfg0.cell]; rfl
        have K1 : wc.drew.cell? ⟨g7, 2, none⟩ = some (.slice (some ⟨b5, 0, none⟩) 3 d5) := ky 2
        have K3 : wc.drew.cell? ⟨b5, 1, none⟩ = some (.int .i64 a1) := q1
        have K4 : wc.drew.cell? ⟨b5, 2, none⟩ = some (.int .i64 a2) := q2
        have M0 : (wc.drew.alloc (.cells #[.int .i64 o0, .int .i64 a1, .int .i64 a2] 89)).cell? ⟨gc, 2, none⟩ = some (.slice P1 ws.length p1) := by rw [cfg1.cell]; rfl
        have M1 : (wc.drew.alloc (.cells #[.int .i64 o0, .int .i64 a1, .int .i64 a2] 89)).cell? ⟨g7, 2, none⟩ = some (.slice (some ⟨b5, 0, none⟩) 3 d5) := by rw [((HB7.out.drewN 1).bel N13).cell]; rfl
        have M3 : (wc.drew.alloc (.cells #[.int .i64 o0, .int .i64 a1, .int .i64 a2] 89)).cell? ⟨b5, 1, none⟩ = some (.int .i64 a1) := own_cl (HO10.out.below (w := wc.drew) N13) (j := 1) (y := a1) rfl
        have M4 : (wc.drew.alloc (.cells #[.int .i64 o0, .int .i64 a1, .int .i64 a2] 89)).cell? ⟨b5, 2, none⟩ = some (.int .i64 a2) := own_cl (HO10.out.below (w := wc.drew) N13) (j := 2) (y := a2) rfl
        have HRow : Hid (Row (wc.drew.alloc (.cells #[.int .i64 o0, .int .i64 a1, .int .i64 a2] 89)) (some ⟨wc.heap.size, 0, none⟩) (wvs [⟨o0, a1, a2⟩])) := Row.of_blk (Blk.new wc.drew 89 _) fun j u hj => by simpa [wvs, Win.cells] using hj
        have hs3 : Hid (w.heap.size ≤ (wc.drew.alloc (.cells #[.int .i64 o0, .int .i64 a1, .int .i64 a2] 89)).heap.size) := HR13.out.bl.size
        have HGC := Lib.hid hgc3
        have HG0 := Lib.hid hgc
        rw [hgc]
        clear ky q0 q1 q2 N13 cfg0 cfg1 hgc hgc3
        have hn9 := HNn.out
        go_upto_region 13 with fail
        refine wp_region_fill 13 12 (fun i => 52 + i) (fun i => ([.pointer (some ⟨gc, 2, none⟩), .slice P1 ws.length p1, .int .i64 o0, .pointer (some ⟨g7, 2, none⟩), .slice (some ⟨b5, 0, none⟩) 3 d5, .pointer (some ⟨b5, 1, none⟩), .int .i64 a1, .pointer (some ⟨g7, 2, none⟩), .slice (some ⟨b5, 0, none⟩) 3 d5, .pointer (some ⟨b5, 2, none⟩), .int .i64 a2, .agg #[.int .i64 o0, .int .i64 a1, .int .i64 a2], .slice (some ⟨wc.heap.size, 0, none⟩) 1 1] : List Value).getD i undef) (wc.drew.alloc (.cells #[.int .i64 o0, .int .i64 a1, .int .i64 a2] 89)) (by kernel_rfl) (by kernel_rfl) (by rfl) (by kernel_rfl) (by kernel_rfl) (by kernel_rfl) (by omega) (fun i j _ _ h => by omega) (fun i hi => by show 52 + i < 168; omega) ?h0 ?h1 ?hk ?hend
        case h0 =>
          have c0 : (wc.drew).cell? ⟨gc, 2, none⟩ = some (.slice P1 ws.length p1) := K0
          have c1 : (wc.drew).cell? ⟨g7, 2, none⟩ = some (.slice (some ⟨b5, 0, none⟩) 3 d5) := K1
          have c3 : (wc.drew).cell? ⟨b5, 1, none⟩ = some (.int .i64 a1) := K3
          have c4 : (wc.drew).cell? ⟨b5, 2, none⟩ = some (.int .i64 a2) := K4
          clear K0 K1 K3 K4 M0 M1 M3 M4
          intro i hi hik o ho x hdep hoff
          rcases i with _ | _ | _ | _ | _ | _ | _ | _ | _ | _ | _ | _ | _ | i
          · change some _ = some o at ho
            obtain rfl := Option.some.inj ho
            clear ho
            have f4 : x.tmps[4]? = some (.pointer (some ⟨gc, 0, none⟩)) := (hoff 4 (fun j _ => by show 52 + j ≠ 4; omega)).trans rfl
            clear hdep hoff
            refine ⟨rfl, rfl, ?_⟩
            go_simp
          · change some _ = some o at ho
            obtain rfl := Option.some.inj ho
            clear ho
            have e0 : x.tmps[52]? = some (.pointer (some ⟨gc, 2, none⟩)) := hdep { on := 0, ground := .data } (Array.mem_of_getElem? (i := 0) rfl) rfl
            clear hdep hoff
            refine ⟨rfl, rfl, ?_⟩
            go_simp
          · change some _ = some o at ho
            obtain rfl := Option.some.inj ho
            clear ho
            have f8 : x.tmps[8]? = some (.int .i64 o0) := (hoff 8 (fun j _ => by show 52 + j ≠ 8; omega)).trans rfl
            clear hdep hoff
            refine ⟨rfl, rfl, ?_⟩
            go_simp
          · change some _ = some o at ho
            obtain rfl := Option.some.inj ho
            clear ho
            have f7 : x.tmps[7]? = some (.pointer (some ⟨g7, 0, none⟩)) := (hoff 7 (fun j _ => by show 52 + j ≠ 7; omega)).trans rfl
            clear hdep hoff
            refine ⟨rfl, rfl, ?_⟩
            go_simp
          · change some _ = some o at ho
            obtain rfl := Option.some.inj ho
            clear ho
            have e3 : x.tmps[55]? = some (.pointer (some ⟨g7, 2, none⟩)) := hdep { on := 3, ground := .data } (Array.mem_of_getElem? (i := 0) rfl) rfl
            clear hdep hoff
            refine ⟨rfl, rfl, ?_⟩
            go_simp
          · change some _ = some o at ho
            obtain rfl := Option.some.inj ho
            clear ho
            have e4 : x.tmps[56]? = some (.slice (some ⟨b5, 0, none⟩) 3 d5) := hdep { on := 4, ground := .data } (Array.mem_of_getElem? (i := 0) rfl) rfl
            clear hdep hoff
            refine ⟨rfl, rfl, ?_⟩
            go_simp
          · change some _ = some o at ho
            obtain rfl := Option.some.inj ho
            clear ho
            have e5 : x.tmps[57]? = some (.pointer (some ⟨b5, 1, none⟩)) := hdep { on := 5, ground := .data } (Array.mem_of_getElem? (i := 0) rfl) rfl
            clear hdep hoff
            refine ⟨rfl, rfl, ?_⟩
            go_simp
          · change some _ = some o at ho
            obtain rfl := Option.some.inj ho
            clear ho
            have f7 : x.tmps[7]? = some (.pointer (some ⟨g7, 0, none⟩)) := (hoff 7 (fun j _ => by show 52 + j ≠ 7; omega)).trans rfl
            clear hdep hoff
            refine ⟨rfl, rfl, ?_⟩
            go_simp
          · change some _ = some o at ho
            obtain rfl := Option.some.inj ho
            clear ho
            have e7 : x.tmps[59]? = some (.pointer (some ⟨g7, 2, none⟩)) := hdep { on := 7, ground := .data } (Array.mem_of_getElem? (i := 0) rfl) rfl
            clear hdep hoff
            refine ⟨rfl, rfl, ?_⟩
            go_simp
          · change some _ = some o at ho
            obtain rfl := Option.some.inj ho
            clear ho
            have e8 : x.tmps[60]? = some (.slice (some ⟨b5, 0, none⟩) 3 d5) := hdep { on := 8, ground := .data } (Array.mem_of_getElem? (i := 0) rfl) rfl
            clear hdep hoff
            refine ⟨rfl, rfl, ?_⟩
            go_simp
          · change some _ = some o at ho
            obtain rfl := Option.some.inj ho
            clear ho
            have e9 : x.tmps[61]? = some (.pointer (some ⟨b5, 2, none⟩)) := hdep { on := 9, ground := .data } (Array.mem_of_getElem? (i := 0) rfl) rfl
            clear hdep hoff
            refine ⟨rfl, rfl, ?_⟩
            go_simp
          · change some _ = some o at ho
            obtain rfl := Option.some.inj ho
            clear ho
            have e2 : x.tmps[54]? = some (.int .i64 o0) := hdep { on := 2, ground := .data } (Array.mem_of_getElem? (i := 0) rfl) rfl
            have e6 : x.tmps[58]? = some (.int .i64 a1) := hdep { on := 6, ground := .data } (Array.mem_of_getElem? (i := 1) rfl) rfl
            have e10 : x.tmps[62]? = some (.int .i64 a2) := hdep { on := 10, ground := .data } (Array.mem_of_getElem? (i := 2) rfl) rfl
            clear hdep hoff
            refine ⟨rfl, rfl, ?_⟩
            go_simp
          · exact absurd rfl hik
          · omega
        case h1 =>
          have c0 : (wc.alloc (.cells #[.int .i64 o0, .int .i64 a1, .int .i64 a2] 89)).cell? ⟨gc, 2, none⟩ = some (.slice P1 ws.length p1) := M0
          have c1 : (wc.alloc (.cells #[.int .i64 o0, .int .i64 a1, .int .i64 a2] 89)).cell? ⟨g7, 2, none⟩ = some (.slice (some ⟨b5, 0, none⟩) 3 d5) := M1
          have c3 : (wc.alloc (.cells #[.int .i64 o0, .int .i64 a1, .int .i64 a2] 89)).cell? ⟨b5, 1, none⟩ = some (.int .i64 a1) := M3
          have c4 : (wc.alloc (.cells #[.int .i64 o0, .int .i64 a1, .int .i64 a2] 89)).cell? ⟨b5, 2, none⟩ = some (.int .i64 a2) := M4
          clear K0 K1 K3 K4 M0 M1 M3 M4
          intro i hi hik o ho x hdep hoff
          rcases i with _ | _ | _ | _ | _ | _ | _ | _ | _ | _ | _ | _ | _ | i
          · change some _ = some o at ho
            obtain rfl := Option.some.inj ho
            clear ho
            have f4 : x.tmps[4]? = some (.pointer (some ⟨gc, 0, none⟩)) := (hoff 4 (fun j _ => by show 52 + j ≠ 4; omega)).trans rfl
            clear hdep hoff
            refine ⟨rfl, rfl, ?_⟩
            go_simp
          · change some _ = some o at ho
            obtain rfl := Option.some.inj ho
            clear ho
            have e0 : x.tmps[52]? = some (.pointer (some ⟨gc, 2, none⟩)) := hdep { on := 0, ground := .data } (Array.mem_of_getElem? (i := 0) rfl) rfl
            clear hdep hoff
            refine ⟨rfl, rfl, ?_⟩
            go_simp
          · change some _ = some o at ho
            obtain rfl := Option.some.inj ho
            clear ho
            have f8 : x.tmps[8]? = some (.int .i64 o0) := (hoff 8 (fun j _ => by show 52 + j ≠ 8; omega)).trans rfl
            clear hdep hoff
            refine ⟨rfl, rfl, ?_⟩
            go_simp
          · change some _ = some o at ho
            obtain rfl := Option.some.inj ho
            clear ho
            have f7 : x.tmps[7]? = some (.pointer (some ⟨g7, 0, none⟩)) := (hoff 7 (fun j _ => by show 52 + j ≠ 7; omega)).trans rfl
            clear hdep hoff
            refine ⟨rfl, rfl, ?_⟩
            go_simp
          · change some _ = some o at ho
            obtain rfl := Option.some.inj ho
            clear ho
            have e3 : x.tmps[55]? = some (.pointer (some ⟨g7, 2, none⟩)) := hdep { on := 3, ground := .data } (Array.mem_of_getElem? (i := 0) rfl) rfl
            clear hdep hoff
            refine ⟨rfl, rfl, ?_⟩
            go_simp
          · change some _ = some o at ho
            obtain rfl := Option.some.inj ho
            clear ho
            have e4 : x.tmps[56]? = some (.slice (some ⟨b5, 0, none⟩) 3 d5) := hdep { on := 4, ground := .data } (Array.mem_of_getElem? (i := 0) rfl) rfl
            clear hdep hoff
            refine ⟨rfl, rfl, ?_⟩
            go_simp
          · change some _ = some o at ho
            obtain rfl := Option.some.inj ho
            clear ho
            have e5 : x.tmps[57]? = some (.pointer (some ⟨b5, 1, none⟩)) := hdep { on := 5, ground := .data } (Array.mem_of_getElem? (i := 0) rfl) rfl
            clear hdep hoff
            refine ⟨rfl, rfl, ?_⟩
            go_simp
          · change some _ = some o at ho
            obtain rfl := Option.some.inj ho
            clear ho
            have f7 : x.tmps[7]? = some (.pointer (some ⟨g7, 0, none⟩)) := (hoff 7 (fun j _ => by show 52 + j ≠ 7; omega)).trans rfl
            clear hdep hoff
            refine ⟨rfl, rfl, ?_⟩
            go_simp
          · change some _ = some o at ho
            obtain rfl := Option.some.inj ho
            clear ho
            have e7 : x.tmps[59]? = some (.pointer (some ⟨g7, 2, none⟩)) := hdep { on := 7, ground := .data } (Array.mem_of_getElem? (i := 0) rfl) rfl
            clear hdep hoff
            refine ⟨rfl, rfl, ?_⟩
            go_simp
          · change some _ = some o at ho
            obtain rfl := Option.some.inj ho
            clear ho
            have e8 : x.tmps[60]? = some (.slice (some ⟨b5, 0, none⟩) 3 d5) := hdep { on := 8, ground := .data } (Array.mem_of_getElem? (i := 0) rfl) rfl
            clear hdep hoff
            refine ⟨rfl, rfl, ?_⟩
            go_simp
          · change some _ = some o at ho
            obtain rfl := Option.some.inj ho
            clear ho
            have e9 : x.tmps[61]? = some (.pointer (some ⟨b5, 2, none⟩)) := hdep { on := 9, ground := .data } (Array.mem_of_getElem? (i := 0) rfl) rfl
            clear hdep hoff
            refine ⟨rfl, rfl, ?_⟩
            go_simp
          · change some _ = some o at ho
            obtain rfl := Option.some.inj ho
            clear ho
            have e2 : x.tmps[54]? = some (.int .i64 o0) := hdep { on := 2, ground := .data } (Array.mem_of_getElem? (i := 0) rfl) rfl
            have e6 : x.tmps[58]? = some (.int .i64 a1) := hdep { on := 6, ground := .data } (Array.mem_of_getElem? (i := 1) rfl) rfl
            have e10 : x.tmps[62]? = some (.int .i64 a2) := hdep { on := 10, ground := .data } (Array.mem_of_getElem? (i := 2) rfl) rfl
            clear hdep hoff
            refine ⟨rfl, rfl, ?_⟩
            go_simp
          · exact absurd rfl hik
          · omega
        case hk =>
          intro o ho x hdep hoff
          change some _ = some o at ho
          obtain rfl := Option.some.inj ho
          clear ho
          have e11 : x.tmps[63]? = some (.agg #[.int .i64 o0, .int .i64 a1, .int .i64 a2]) := hdep { on := 11, ground := .data } (Array.mem_of_getElem? (i := 0) rfl) rfl
          clear hdep hoff
          refine ⟨rfl, rfl, ?_⟩
          go_simp
        case hend =>
          clear K0 K1 K3 K4 M0 M1 M3 M4
          simp only [filled, Act.put, List.setIfInBounds_toArray, List.set_cons_zero, List.set_cons_succ]
          refine wpOp_of rfl rfl ?_
          refine wp_appg Tryd.underlying26 hi hz0 hz1 hz2 rfl (by omega) (.tmp 53) (.tmp 64) (by rfl) w.heap.size (.slice P1 ws.length p1) ws.length (wvs ws) (by rfl) HR13.out.o1 (some ⟨wc.heap.size, 0, none⟩) 1 1 (wvs [⟨o0, a1, a2⟩]) (by rfl) HRow.out (by rfl) (wvs_one _) (by have := HN.out; omega) (by omega) hs3.out ?_
          intro v' w5 ho5 hb5 hg5 hob5
          clear hob5
          obtain ⟨P5, p5, hv5, hrw5⟩ := Own.row ho5
          clear hrw5
          subst hv5
          have HE5 := Lib.hid (HR13.out.addW ho5 hb5 hg5)
          have HC5' := blk_grown HR13.out.cfg hg5 (own_ne HR13.out.o1 HR13.out.cfg (by decide))
          rw [HGC.out] at HC5'
          have k5 := HC5'.cell 2
          have f5 := HC5'.frozen 2
          simp only [List.getElem?_toArray, List.getElem?_cons_zero, List.getElem?_cons_succ] at k5
          clear ho5 hb5 hg5 HC5'
          simp only [Act.put, List.setIfInBounds_toArray]
          refine wpOp_of rfl rfl ?_
          go_simp
          refine wpOp_of rfl rfl ?_
          go_simp
          have hg0 := HG0.out
          subst hg0
          go_wp2_with fail
          go_roundw
          case rel => exact HRel.out _ _ _ _ _ (by go_num) HE5.out
          case measure => simp [intOf] <;> omega
    · have hjn : n = j := by omega
      subst hjn
      have f1 : ¬ ((n : Int) < n) := by omega
      have N8 := b01 wr (.cells #[.int .i64 1] 3)
      have R8 : Row (wr.alloc (.cells #[.int .i64 1] 3)) (some ⟨wr.heap.size, 0, none⟩) (ivs [1]) := Row.of_blk (Blk.new wr 3 _) fun j u hj => by simpa [ivs, iv] using hj
      have HM : Hid (Calls Tryd.prog 65 #[.agg #[.slice A3 (rWl n l3 e3).length c3, .int .i64 (rWe n l3 e3), .slice none 0 0], .slice (some ⟨wr.heap.size, 0, none⟩) 1 1] (wr.alloc (.cells #[.int .i64 1] 3)) (TakePost w (wr.alloc (.cells #[.int .i64 1] 3)) (rWl n l3 e3) (rWe n l3 e3) [1])) := rtake_any (e := rWe n l3 e3) (bt hR.bl N8) hR.rd hR.hc hR.hm R8 (cw := 1) (by simp)
      have HN8 := Lib.hid N8
      clear hR R8 N8 HR5
      go_upto_region 14 with fail
      go_upto_region 15 with (go_at_call 65; go_loud ((with_reducible refine HM.out.mono ?_); rintro r w10 ⟨A5, c5, v5, rfl, hr5, hc5, hm5, ho5, hb10⟩; obtain ⟨b5, d5, rfl, hB5, hz5, hz6⟩ := own_at (n := 1) ho5 (by omega) (by rw [rv_len]; rfl)))
      clear hz5 hz6 f1
      have hbd := nx1_bd (rWl n l3 e3) (rWe n l3 e3)
      obtain ⟨m, hm, hm255⟩ : ∃ m : Nat, W.nxV (rWl n l3 e3) (rWe n l3 e3) 1 = m ∧ m ≤ 255 := ⟨(W.nxV (rWl n l3 e3) (rWe n l3 e3) 1).toNat, by omega, by omega⟩
      clear hbd
      have hrv : rv [1] (rWl n l3 e3) (rWe n l3 e3) = [(m : Int)] := by rw [← hm]; rfl
      rw [hrv] at ho5
      have HO5 : Hid (Own w10 w.heap.size 3 1 (.slice (some ⟨b5, 0, none⟩) 1 d5) 1 (ivs [(m : Int)])) := ho5.less (bs (bt HR.out.bl HN8.out) (Nat.le_refl _))
      obtain ⟨l6, hl6⟩ : ∃ x, rl [1] (rWl n l3 e3) (rWe n l3 e3) = x := ⟨_, rfl⟩
      obtain ⟨e6, he6⟩ : ∃ x, re [1] (rWl n l3 e3) (rWe n l3 e3) = x := ⟨_, rfl⟩
      rw [hl6] at hr5 hc5 ⊢
      rw [he6]
      have HQ2 := Lib.hid (And.intro hm (And.intro hl6 he6))
      have hne : w10.heap.size ≠ gx := by have := (bt HN8.out hb10).size; omega
      have B7 := Blk.new w10 111 #[.slice A5 l6.length c5, .int .i64 e6, .slice (some ⟨b5, 0, none⟩) 1 d5]
      have HR9 := Lib.hid ((HR.out.bel (ba1 (bt HN8.out hb10) (.cells #[.slice A5 l6.length c5, .int .i64 e6, .slice (some ⟨b5, 0, none⟩) 1 d5] 111))).swap (ys' := [(m : Int)]) (HO5.out.alloc (.cells #[.slice A5 l6.length c5, .int .i64 e6, .slice (some ⟨b5, 0, none⟩) 1 d5] 111)))
      have HC5 := Lib.hid (And.intro hr5 (And.intro hc5 hm5))
      have HMm := Lib.hid hm255
      generalize hws : rWs n l3 e3 = ws at *
      have HWs := Lib.hid hws
      clear hws
      clear kx fx zx q2 hrv hm hl6 he6 HR HM HN8 HO5 ho5 hr5 hc5 hm5 hb10 hB5 hj hlt hm255
      generalize w10.heap.size = g7 at *
      generalize w10.alloc (.cells #[.slice A5 l6.length c5, .int .i64 e6, .slice (some ⟨b5, 0, none⟩) 1 d5] 111) = V9 at *
      have kx := HR9.out.box.cell
      have fx := HR9.out.box.frozen
      have zx := HR9.out.box.lt
      have ky := B7.cell
      go_upto_region 16 with fail
      have HR10 := Lib.hid (HR9.out.setR hgx HC5.out.1 HC5.out.2.1 HC5.out.2.2 (e' := e6))
      have HB7 := Lib.hid ((B7.far (p := ⟨gx, 0, none⟩) hne (.slice A5 l6.length c5)).far (p := ⟨gx, 1, none⟩) hne (.int .i64 e6))
      clear kx fx zx ky B7 HR9 
      generalize (V9.setCell ⟨gx, 0, none⟩ (.slice A5 l6.length c5)).setCell ⟨gx, 1, none⟩ (.int .i64 e6) = V10 at *
      have HS10 : Hid (InvRC w gx g7 #[.slice A5 l6.length c5, .int .i64 e6, .slice (some ⟨b5, 0, none⟩) 1 d5] (.slice (some ⟨bb, 0, none⟩) 3 d2) (.slice (some ⟨b5, 0, none⟩) 1 d5) [(m : Int)] p f (.slice P1 ws.length p1) ws m l6 e6 (.int .i64 0) V10) := ⟨0, A5, c5, .slice none 0 0, rfl, Nat.zero_le _, HR10.out, HB7.out⟩
      clear HR10 HB7
      go_wp2_with fail
      go_loopw [10] (fun i V => InvRC w gx g7 #[.slice A5 l6.length c5, .int .i64 e6, .slice (some ⟨b5, 0, none⟩) 1 d5] (.slice (some ⟨bb, 0, none⟩) 3 d2) (.slice (some ⟨b5, 0, none⟩) 1 d5) [(m : Int)] p f (.slice P1 ws.length p1) ws m l6 e6 i V) (fun i _ => m - (intOf i).toNat)
      case atStart => exact HS10.out
      case round =>
        obtain ⟨j, A7, c7, v2, rfl, hj, hR, hK⟩ := hrel
        have HR := Lib.hid hR
        have HK := Lib.hid hK
        have HLJ2 : Hid ((rCs j l6 e6).length = j) := rCs_len j l6 e6
        obtain ⟨P2, p2, hv2, hz7⟩ := Own.row hR.o2
        subst hv2
        clear hz7
        have kx := hR.box.cell
        have fx := hR.box.frozen
        have zx := hR.box.lt
        have ky := hK.cell
        have q2 := own_cl (d := d5) hR.ol (j := 0) (y := (m : Int)) rfl
        by_cases hlt : j < m
        · have f1 : (j : Int) < m := by omega
          have N8 := b01 wr (.cells #[.int .i64 1, .int .i64 1, .int .i64 1, .int .i64 1, .int .i64 4, .int .i64 1, .int .i64 1, .int .i64 1, .int .i64 4, .int .i64 1, .int .i64 1] 3)
          have R8 : Row (wr.alloc (.cells #[.int .i64 1, .int .i64 1, .int .i64 1, .int .i64 1, .int .i64 4, .int .i64 1, .int .i64 1, .int .i64 1, .int .i64 4, .int .i64 1, .int .i64 1] 3)) (some ⟨wr.heap.size, 0, none⟩) (ivs cw) := Row.of_blk (Blk.new wr 3 _) fun j u hj => by simpa [ivs, iv, cw] using hj
          have HM : Hid (Calls Tryd.prog 65 #[.agg #[.slice A7 (rCl j l6 e6).length c7, .int .i64 (rCe j l6 e6), .slice none 0 0], .slice (some ⟨wr.heap.size, 0, none⟩) 11 11] (wr.alloc (.cells #[.int .i64 1, .int .i64 1, .int .i64 1, .int .i64 1, .int .i64 4, .int .i64 1, .int .i64 1, .int .i64 1, .int .i64 4, .int .i64 1, .int .i64 1] 3)) (TakePost w (wr.alloc (.cells #[.int .i64 1, .int .i64 1, .int .i64 1, .int .i64 1, .int .i64 4, .int .i64 1, .int .i64 1, .int .i64 1, .int .i64 4, .int .i64 1, .int .i64 1] 3)) (rCl j l6 e6) (rCe j l6 e6) cw)) := rtake_any (e := rCe j l6 e6) (bt hR.bl N8) hR.rd hR.hc hR.hm R8 (cw := 11) (by decide)
          have HN8 := Lib.hid N8
          clear hR hK R8 N8 HS10
          go_upto_region 20 with (go_at_call 65; go_loud ((with_reducible refine HM.out.mono ?_); rintro r wt ⟨A8, c8, v8, rfl, hr8, hc8, hm8, ho8, hb8⟩; obtain ⟨b8, d8, rfl, hB8, hz8, hz9⟩ := own_at (n := 11) ho8 (by omega) (by rw [rv_len]; rfl)))
          clear hz8 hz9 f1
          obtain ⟨a0, a1, a2, a3, a4, a5, a6, a7, a8, a9, a10, hrv, hchn⟩ : ∃ a0 a1 a2 a3 a4 a5 a6 a7 a8 a9 a10, rv cw (rCl j l6 e6) (rCe j l6 e6) = [a0, a1, a2, a3, a4, a5, a6, a7, a8, a9, a10] ∧ rChn (rCl j l6 e6) (rCe j l6 e6) = ⟨a0, a1, a2, a3, a4, a5, a6, a7, a8, a9, a10⟩ := ⟨_, _, _, _, _, _, _, _, _, _, _, rfl, rfl⟩
          rw [hrv] at ho8
          have hcs : rCs (j + 1) l6 e6 = rCs j l6 e6 ++ [⟨a0, a1, a2, a3, a4, a5, a6, a7, a8, a9, a10⟩] := by rw [rCs_snoc, hchn]
          rw [← rCl_snoc] at hr8 hc8 ⊢
          rw [← rCe_snoc]
          have HRel : Hid (∀ (i : Value) (V : World) (A : Option Addr) (c : Nat) (v2 : Value), i = .int .i64 ((j + 1 : Nat) : Int) → RB w gx A c (rCl (j + 1) l6 e6) (rCe (j + 1) l6 e6) (.slice (some ⟨bb, 0, none⟩) 3 d2) (.slice (some ⟨b5, 0, none⟩) 1 d5) [(m : Int)] p f (.slice P1 ws.length p1) v2 (.slice none 0 0) ws (rCs j l6 e6 ++ [⟨a0, a1, a2, a3, a4, a5, a6, a7, a8, a9, a10⟩]) [] V → Blk V g7 111 #[.slice A5 l6.length c5, .int .i64 e6, .slice (some ⟨b5, 0, none⟩) 1 d5] → InvRC w gx g7 #[.slice A5 l6.length c5, .int .i64 e6, .slice (some ⟨b5, 0, none⟩) 1 d5] (.slice (some ⟨bb, 0, none⟩) 3 d2) (.slice (some ⟨b5, 0, none⟩) 1 d5) [(m : Int)] p f (.slice P1 ws.length p1) ws m l6 e6 i V) := fun i V A c v2 hi h hb => ⟨j + 1, A, c, v2, hi, by omega, by rw [hcs]; exact h, hb⟩
          generalize rCl (j + 1) l6 e6 = l9 at *
          generalize rCe (j + 1) l6 e6 = e9 at *
          have hne8 : wt.heap.size ≠ gx := by have := (bt HN8.out hb8).size; omega
          have BB := Blk.new wt 111 #[.slice A8 l9.length c8, .int .i64 e9, .slice (some ⟨b8, 0, none⟩) 11 d8]
          have N9 := ba1 (bt HN8.out hb8) (.cells #[.slice A8 l9.length c8, .int .i64 e9, .slice (some ⟨b8, 0, none⟩) 11 d8] 111)
          have HR9 := Lib.hid (HR.out.bel N9)
          have HK9 := Lib.hid (HK.out.bel N9)
          have HO9 := Lib.hid (ho8.alloc (.cells #[.slice A8 l9.length c8, .int .i64 e9, .slice (some ⟨b8, 0, none⟩) 11 d8] 111))
          have HC8 := Lib.hid (And.intro hr8 (And.intro hc8 hm8))
          have HNc : Hid ((rCs j l6 e6).length ≤ 255) := by show (rCs j l6 e6).length ≤ 255; have := HLJ2.out; have := HMm.out; omega
          generalize rCs j l6 e6 = cs at *
          clear kx fx zx ky q2 hrv hcs hchn HR HK HM HN8 N9 ho8 hr8 hc8 hm8 hb8 hB8 HLJ2
          generalize wt.heap.size = g8 at *
          generalize wt.alloc (.cells #[.slice A8 l9.length c8, .int .i64 e9, .slice (some ⟨b8, 0, none⟩) 11 d8] 111) = V11 at *
          have kx := HR9.out.box.cell
          have fx := HR9.out.box.frozen
          have zx := HR9.out.box.lt
          have ky := BB.cell
          go_upto_region 21 with fail
          have HR10 := Lib.hid (HR9.out.setR hgx HC8.out.1 HC8.out.2.1 HC8.out.2.2 (e' := e9))
          have HB8 := Lib.hid ((BB.far (p := ⟨gx, 0, none⟩) hne8 (.slice A8 l9.length c8)).far (p := ⟨gx, 1, none⟩) hne8 (.int .i64 e9))
          have HK10 := Lib.hid ((HK9.out.far (p := ⟨gx, 0, none⟩) hne (.slice A8 l9.length c8)).far (p := ⟨gx, 1, none⟩) hne (.int .i64 e9))
          have HO10 := Lib.hid (set2_own (v1 := .slice A8 l9.length c8) (v2 := .int .i64 e9) HO9.out HR9.out.box (by decide))
          clear kx fx zx ky BB HR9 HO9 HK9
          generalize (V11.setCell ⟨gx, 0, none⟩ (.slice A8 l9.length c8)).setCell ⟨gx, 1, none⟩ (.int .i64 e9) = wk at *
          have ky := HB8.out.cell
          go_upto_region 22 with fail
          clear ky
          obtain ⟨i0, hi, hz0, hz1, hz2⟩ := info_parts infoC
          obtain ⟨gc, hgc⟩ : ∃ gc, w.heap.size + 1 + 1 + 1 = gc := ⟨_, rfl⟩
          have hgc3 : w.heap.size + 3 = gc := hgc
          have N13 := b01 wk.drew (.cells #[.int .i64 a0, .int .i64 a1, .int .i64 a2, .int .i64 a3, .int .i64 a4, .int .i64 a5, .int .i64 a6, .int .i64 a7, .int .i64 a8, .int .i64 a9, .int .i64 a10] 118)
          have HR13 := Lib.hid (HR10.out.drew.bel N13)
          have HK13 := Lib.hid ((HK10.out.drewN 1).bel N13)
          have cfg0 := HR10.out.drew.cfg
          have cfg1 := HR13.out.cfg
          rw [hgc3] at cfg0 cfg1
          have K0 : wk.drew.cell? ⟨gc, 3, none⟩ = some (.slice P2 cs.length p2) := by rw [cfg0.cell]; rfl
          have M0 : (wk.drew.alloc (.cells #[.int .i64 a0, .int .i64 a1, .int .i64 a2, .int .i64 a3, .int .i64 a4, .int .i64 a5, .int .i64 a6, .int .i64 a7, .int .i64 a8, .int .i64 a9, .int .i64 a10] 118)).cell? ⟨gc, 3, none⟩ = some (.slice P2 cs.length p2) := by rw [cfg1.cell]; rfl
          have K1 : wk.drew.cell? ⟨b8, 0, none⟩ = some (.int .i64 a0) := own_cl (d := d8) HO10.out (j := 0) (y := a0) rfl
          have M1 : (wk.drew.alloc (.cells #[.int .i64 a0, .int .i64 a1, .int .i64 a2, .int .i64 a3, .int .i64 a4, .int .i64 a5, .int .i64 a6, .int .i64 a7, .int .i64 a8, .int .i64 a9, .int .i64 a10] 118)).cell? ⟨b8, 0, none⟩ = some (.int .i64 a0) := own_cl (d := d8) (HO10.out.below (w := wk.drew) N13) (j := 0) (y := a0) rfl
          have K2 : wk.drew.cell? ⟨b8, 1, none⟩ = some (.int .i64 a1) := own_cl (d := d8) HO10.out (j := 1) (y := a1) rfl
          have M2 : (wk.drew.alloc (.cells #[.int .i64 a0, .int .i64 a1, .int .i64 a2, .int .i64 a3, .int .i64 a4, .int .i64 a5, .int .i64 a6, .int .i64 a7, .int .i64 a8, .int .i64 a9, .int .i64 a10] 118)).cell? ⟨b8, 1, none⟩ = some (.int .i64 a1) := own_cl (d := d8) (HO10.out.below (w := wk.drew) N13) (j := 1) (y := a1) rfl
          have K3 : wk.drew.cell? ⟨b8, 2, none⟩ = some (.int .i64 a2) := own_cl (d := d8) HO10.out (j := 2) (y := a2) rfl
          have M3 : (wk.drew.alloc (.cells #[.int .i64 a0, .int .i64 a1, .int .i64 a2, .int .i64 a3, .int .i64 a4, .int .i64 a5, .int .i64 a6, .int .i64 a7, .int .i64 a8, .int .i64 a9, .int .i64 a10] 118)).cell? ⟨b8, 2, none⟩ = some (.int .i64 a2) := own_cl (d := d8) (HO10.out.below (w := wk.drew) N13) (j := 2) (y := a2) rfl
          have K4 : wk.drew.cell? ⟨b8, 3, none⟩ = some (.int .i64 a3) := own_cl (d := d8) HO10.out (j := 3) (y := a3) rfl
          have M4 : (wk.drew.alloc (.cells #[.int .i64 a0, .int .i64 a1, .int .i64 a2, .int .i64 a3, .int .i64 a4, .int .i64 a5, .int .i64 a6, .int .i64 a7, .int .i64 a8, .int .i64 a9, .int .i64 a10] 118)).cell? ⟨b8, 3, none⟩ = some (.int .i64 a3) := own_cl (d := d8) (HO10.out.below (w := wk.drew) N13) (j := 3) (y := a3) rfl
          have K5 : wk.drew.cell? ⟨b8, 4, none⟩ = some (.int .i64 a4) := own_cl (d := d8) HO10.out (j := 4) (y := a4) rfl
          have M5 : (wk.drew.alloc (.cells #[.int .i64 a0, .int .i64 a1, .int .i64 a2, .int .i64 a3, .int .i64 a4, .int .i64 a5, .int .i64 a6, .int .i64 a7, .int .i64 a8, .int .i64 a9, .int .i64 a10] 118)).cell? ⟨b8, 4, none⟩ = some (.int .i64 a4) := own_cl (d := d8) (HO10.out.below (w := wk.drew) N13) (j := 4) (y := a4) rfl
          have K6 : wk.drew.cell? ⟨b8, 5, none⟩ = some (.int .i64 a5) := own_cl (d := d8) HO10.out (j := 5) (y := a5) rfl
          have M6 : (wk.drew.alloc (.cells #[.int .i64 a0, .int .i64 a1, .int .i64 a2, .int .i64 a3, .int .i64 a4, .int .i64 a5, .int .i64 a6, .int .i64 a7, .int .i64 a8, .int .i64 a9, .int .i64 a10] 118)).cell? ⟨b8, 5, none⟩ = some (.int .i64 a5) := own_cl (d := d8) (HO10.out.below (w := wk.drew) N13) (j := 5) (y := a5) rfl
          have K7 : wk.drew.cell? ⟨b8, 6, none⟩ = some (.int .i64 a6) := own_cl (d := d8) HO10.out (j := 6) (y := a6) rfl
          have M7 : (wk.drew.alloc (.cells #[.int .i64 a0, .int .i64 a1, .int .i64 a2, .int .i64 a3, .int .i64 a4, .int .i64 a5, .int .i64 a6, .int .i64 a7, .int .i64 a8, .int .i64 a9, .int .i64 a10] 118)).cell? ⟨b8, 6, none⟩ = some (.int .i64 a6) := own_cl (d := d8) (HO10.out.below (w := wk.drew) N13) (j := 6) (y := a6) rfl
          have K8 : wk.drew.cell? ⟨b8, 7, none⟩ = some (.int .i64 a7) := own_cl (d := d8) HO10.out (j := 7) (y := a7) rfl
          have M8 : (wk.drew.alloc (.cells #[.int .i64 a0, .int .i64 a1, .int .i64 a2, .int .i64 a3, .int .i64 a4, .int .i64 a5, .int .i64 a6, .int .i64 a7, .int .i64 a8, .int .i64 a9, .int .i64 a10] 118)).cell? ⟨b8, 7, none⟩ = some (.int .i64 a7) := own_cl (d := d8) (HO10.out.below (w := wk.drew) N13) (j := 7) (y := a7) rfl
          have K9 : wk.drew.cell? ⟨b8, 8, none⟩ = some (.int .i64 a8) := own_cl (d := d8) HO10.out (j := 8) (y := a8) rfl
          have M9 : (wk.drew.alloc (.cells #[.int .i64 a0, .int .i64 a1, .int .i64 a2, .int .i64 a3, .int .i64 a4, .int .i64 a5, .int .i64 a6, .int .i64 a7, .int .i64 a8, .int .i64 a9, .int .i64 a10] 118)).cell? ⟨b8, 8, none⟩ = some (.int .i64 a8) := own_cl (d := d8) (HO10.out.below (w := wk.drew) N13) (j := 8) (y := a8) rfl
          have K10 : wk.drew.cell? ⟨b8, 9, none⟩ = some (.int .i64 a9) := own_cl (d := d8) HO10.out (j := 9) (y := a9) rfl
          have M10 : (wk.drew.alloc (.cells #[.int .i64 a0, .int .i64 a1, .int .i64 a2, .int .i64 a3, .int .i64 a4, .int .i64 a5, .int .i64 a6, .int .i64 a7, .int .i64 a8, .int .i64 a9, .int .i64 a10] 118)).cell? ⟨b8, 9, none⟩ = some (.int .i64 a9) := own_cl (d := d8) (HO10.out.below (w := wk.drew) N13) (j := 9) (y := a9) rfl
          have K11 : wk.drew.cell? ⟨b8, 10, none⟩ = some (.int .i64 a10) := own_cl (d := d8) HO10.out (j := 10) (y := a10) rfl
          have M11 : (wk.drew.alloc (.cells #[.int .i64 a0, .int .i64 a1, .int .i64 a2, .int .i64 a3, .int .i64 a4, .int .i64 a5, .int .i64 a6, .int .i64 a7, .int .i64 a8, .int .i64 a9, .int .i64 a10] 118)).cell? ⟨b8, 10, none⟩ = some (.int .i64 a10) := own_cl (d := d8) (HO10.out.below (w := wk.drew) N13) (j := 10) (y := a10) rfl
          have HRow : Hid (Row (wk.drew.alloc (.cells #[.int .i64 a0, .int .i64 a1, .int .i64 a2, .int .i64 a3, .int .i64 a4, .int .i64 a5, .int .i64 a6, .int .i64 a7, .int .i64 a8, .int .i64 a9, .int .i64 a10] 118)) (some ⟨wk.heap.size, 0, none⟩) (cvs [⟨a0, a1, a2, a3, a4, a5, a6, a7, a8, a9, a10⟩])) := Row.of_blk (Blk.new wk.drew 118 _) fun j u hj => by simpa [cvs, Chn.cells] using hj
          have hs3 : Hid (w.heap.size ≤ (wk.drew.alloc (.cells #[.int .i64 a0, .int .i64 a1, .int .i64 a2, .int .i64 a3, .int .i64 a4, .int .i64 a5, .int .i64 a6, .int .i64 a7, .int .i64 a8, .int .i64 a9, .int .i64 a10] 118)).heap.size) := HR13.out.bl.size
          have HGC := Lib.hid hgc3
          have HG0 := Lib.hid hgc
          rw [hgc]
          clear N13 cfg0 cfg1 hgc hgc3
          have hn9 := HNc.out
          have hm9 := HMm.out
          refine wp_region_fill 37 36 (fun i => 93 + i) (fun i => ([.pointer (some ⟨gc, 3, none⟩), .slice P2 cs.length p2, .slice (some ⟨b8, 0, none⟩) 11 d8, .pointer (some ⟨b8, 0, none⟩), .int .i64 a0, .slice (some ⟨b8, 0, none⟩) 11 d8, .pointer (some ⟨b8, 1, none⟩), .int .i64 a1, .slice (some ⟨b8, 0, none⟩) 11 d8, .pointer (some ⟨b8, 2, none⟩), .int .i64 a2, .slice (some ⟨b8, 0, none⟩) 11 d8, .pointer (some ⟨b8, 3, none⟩), .int .i64 a3, .slice (some ⟨b8, 0, none⟩) 11 d8, .pointer (some ⟨b8, 4, none⟩), .int .i64 a4, .slice (some ⟨b8, 0, none⟩) 11 d8, .pointer (some ⟨b8, 5, none⟩), .int .i64 a5, .slice (some ⟨b8, 0, none⟩) 11 d8, .pointer (some ⟨b8, 6, none⟩), .int .i64 a6, .slice (some ⟨b8, 0, none⟩) 11 d8, .pointer (some ⟨b8, 7, none⟩), .int .i64 a7, .slice (some ⟨b8, 0, none⟩) 11 d8, .pointer (some ⟨b8, 8, none⟩), .int .i64 a8, .slice (some ⟨b8, 0, none⟩) 11 d8, .pointer (some ⟨b8, 9, none⟩), .int .i64 a9, .slice (some ⟨b8, 0, none⟩) 11 d8, .pointer (some ⟨b8, 10, none⟩), .int .i64 a10, .agg #[.int .i64 a0, .int .i64 a1, .int .i64 a2, .int .i64 a3, .int .i64 a4, .int .i64 a5, .int .i64 a6, .int .i64 a7, .int .i64 a8, .int .i64 a9, .int .i64 a10], .slice (some ⟨wk.heap.size, 0, none⟩) 1 1] : List Value).getD i undef) (wk.drew.alloc (.cells #[.int .i64 a0, .int .i64 a1, .int .i64 a2, .int .i64 a3, .int .i64 a4, .int .i64 a5, .int .i64 a6, .int .i64 a7, .int .i64 a8, .int .i64 a9, .int .i64 a10] 118)) (by kernel_rfl) (by kernel_rfl) (by rfl) (by kernel_rfl) (by kernel_rfl) (by kernel_rfl) (by omega) (fun i j _ _ h => by omega) (fun i hi => by show 93 + i < 168; omega) ?h0 ?h1 ?hk ?hend
          case h0 =>
            have c0 : (wk.drew).cell? ⟨gc, 3, none⟩ = some (.slice P2 cs.length p2) := K0
            have h0 : (wk.drew).cell? ⟨b8, 0, none⟩ = some (.int .i64 a0) := K1
            have h1 : (wk.drew).cell? ⟨b8, 1, none⟩ = some (.int .i64 a1) := K2
            have h2 : (wk.drew).cell? ⟨b8, 2, none⟩ = some (.int .i64 a2) := K3
            have h3 : (wk.drew).cell? ⟨b8, 3, none⟩ = some (.int .i64 a3) := K4
            have h4 : (wk.drew).cell? ⟨b8, 4, none⟩ = some (.int .i64 a4) := K5
            have h5 : (wk.drew).cell? ⟨b8, 5, none⟩ = some (.int .i64 a5) := K6
            have h6 : (wk.drew).cell? ⟨b8, 6, none⟩ = some (.int .i64 a6) := K7
            have h7 : (wk.drew).cell? ⟨b8, 7, none⟩ = some (.int .i64 a7) := K8
            have h8 : (wk.drew).cell? ⟨b8, 8, none⟩ = some (.int .i64 a8) := K9
            have h9 : (wk.drew).cell? ⟨b8, 9, none⟩ = some (.int .i64 a9) := K10
            have h10 : (wk.drew).cell? ⟨b8, 10, none⟩ = some (.int .i64 a10) := K11
            clear K0 M0 K1 M1 K2 M2 K3 M3 K4 M4 K5 M5 K6 M6 K7 M7 K8 M8 K9 M9 K10 M10 K11 M11
            intro i hi hik o ho x hdep hoff
            rcases i with _ | _ | _ | _ | _ | _ | _ | _ | _ | _ | _ | _ | _ | _ | _ | _ | _ | _ | _ | _ | _ | _ | _ | _ | _ | _ | _ | _ | _ | _ | _ | _ | _ | _ | _ | _ | _ | i
            · change some _ = some o at ho
              obtain rfl := Option.some.inj ho
              clear ho
              have f4 : x.tmps[4]? = some (.pointer (some ⟨gc, 0, none⟩)) := (hoff 4 (fun j _ => by show 93 + j ≠ 4; omega)).trans rfl
              clear hdep hoff
              refine ⟨rfl, rfl, ?_⟩
              go_simp
            · change some _ = some o at ho
              obtain rfl := Option.some.inj ho
              clear ho
              have e0 : x.tmps[93]? = some (.pointer (some ⟨gc, 3, none⟩)) := hdep { on := 0, ground := .data } (Array.mem_of_getElem? (i := 0) rfl) rfl
              clear hdep hoff
              refine ⟨rfl, rfl, ?_⟩
              go_simp
            · change some _ = some o at ho
              obtain rfl := Option.some.inj ho
              clear ho
              have f12 : x.tmps[12]? = some (.slice (some ⟨b8, 0, none⟩) 11 d8) := (hoff 12 (fun j _ => by show 93 + j ≠ 12; omega)).trans rfl
              clear hdep hoff
              refine ⟨rfl, rfl, ?_⟩
              go_simp
            · change some _ = some o at ho
              obtain rfl := Option.some.inj ho
              clear ho
              have e2 : x.tmps[95]? = some (.slice (some ⟨b8, 0, none⟩) 11 d8) := hdep { on := 2, ground := .data } (Array.mem_of_getElem? (i := 0) rfl) rfl
              clear hdep hoff
              refine ⟨rfl, rfl, ?_⟩
              go_simp
            · change some _ = some o at ho
              obtain rfl := Option.some.inj ho
              clear ho
              have e3 : x.tmps[96]? = some (.pointer (some ⟨b8, 0, none⟩)) := hdep { on := 3, ground := .data } (Array.mem_of_getElem? (i := 0) rfl) rfl
              clear hdep hoff
              refine ⟨rfl, rfl, ?_⟩
              go_simp
            · change some _ = some o at ho
              obtain rfl := Option.some.inj ho
              clear ho
              have f12 : x.tmps[12]? = some (.slice (some ⟨b8, 0, none⟩) 11 d8) := (hoff 12 (fun j _ => by show 93 + j ≠ 12; omega)).trans rfl
              clear hdep hoff
              refine ⟨rfl, rfl, ?_⟩
              go_simp
            · change some _ = some o at ho
              obtain rfl := Option.some.inj ho
              clear ho
              have e5 : x.tmps[98]? = some (.slice (some ⟨b8, 0, none⟩) 11 d8) := hdep { on := 5, ground := .data } (Array.mem_of_getElem? (i := 0) rfl) rfl
              clear hdep hoff
              refine ⟨rfl, rfl, ?_⟩
              go_simp
            · change some _ = some o at ho
              obtain rfl := Option.some.inj ho
              clear ho
              have e6 : x.tmps[99]? = some (.pointer (some ⟨b8, 1, none⟩)) := hdep { on := 6, ground := .data } (Array.mem_of_getElem? (i := 0) rfl) rfl
              clear hdep hoff
              refine ⟨rfl, rfl, ?_⟩
              go_simp
            · change some _ = some o at ho
              obtain rfl := Option.some.inj ho
              clear ho
              have f12 : x.tmps[12]? = some (.slice (some ⟨b8, 0, none⟩) 11 d8) := (hoff 12 (fun j _ => by show 93 + j ≠ 12; omega)).trans rfl
              clear hdep hoff
              refine ⟨rfl, rfl, ?_⟩
              go_simp
            · change some _ = some o at ho
              obtain rfl := Option.some.inj ho
              clear ho
              have e8 : x.tmps[101]? = some (.slice (some ⟨b8, 0, none⟩) 11 d8) := hdep { on := 8, ground := .data } (Array.mem_of_getElem? (i := 0) rfl) rfl
              clear hdep hoff
              refine ⟨rfl, rfl, ?_⟩
              go_simp
            · change some _ = some o at ho
              obtain rfl := Option.some.inj ho
              clear ho
              have e9 : x.tmps[102]? = some (.pointer (some ⟨b8, 2, none⟩)) := hdep { on := 9, ground := .data } (Array.mem_of_getElem? (i := 0) rfl) rfl
              clear hdep hoff
              refine ⟨rfl, rfl, ?_⟩
              go_simp
            · change some _ = some o at ho
              obtain rfl := Option.some.inj ho
              clear ho
              have f12 : x.tmps[12]? = some (.slice (some ⟨b8, 0, none⟩) 11 d8) := (hoff 12 (fun j _ => by show 93 + j ≠ 12; omega)).trans rfl
              clear hdep hoff
              refine ⟨rfl, rfl, ?_⟩
              go_simp
            · change some _ = some o at ho
              obtain rfl := Option.some.inj ho
              clear ho
              have e11 : x.tmps[104]? = some (.slice (some ⟨b8, 0, none⟩) 11 d8) := hdep { on := 11, ground := .data } (Array.mem_of_getElem? (i := 0) rfl) rfl
              clear hdep hoff
              refine ⟨rfl, rfl, ?_⟩
              go_simp
            · change some _ = some o at ho
              obtain rfl := Option.some.inj ho
              clear ho
              have e12 : x.tmps[105]? = some (.pointer (some ⟨b8, 3, none⟩)) := hdep { on := 12, ground := .data } (Array.mem_of_getElem? (i := 0) rfl) rfl
              clear hdep hoff
              refine ⟨rfl, rfl, ?_⟩
              go_simp
            · change some _ = some o at ho
              obtain rfl := Option.some.inj ho
              clear ho
              have f12 : x.tmps[12]? = some (.slice (some ⟨b8, 0, none⟩) 11 d8) := (hoff 12 (fun j _ => by show 93 + j ≠ 12; omega)).trans rfl
              clear hdep hoff
              refine ⟨rfl, rfl, ?_⟩
              go_simp
            · change some _ = some o at ho
              obtain rfl := Option.some.inj ho
              clear ho
              have e14 : x.tmps[107]? = some (.slice (some ⟨b8, 0, none⟩) 11 d8) := hdep { on := 14, ground := .data } (Array.mem_of_getElem? (i := 0) rfl) rfl
              clear hdep hoff
              refine ⟨rfl, rfl, ?_⟩
              go_simp
            · change some _ = some o at ho
              obtain rfl := Option.some.inj ho
              clear ho
              have e15 : x.tmps[108]? = some (.pointer (some ⟨b8, 4, none⟩)) := hdep { on := 15, ground := .data } (Array.mem_of_getElem? (i := 0) rfl) rfl
              clear hdep hoff
              refine ⟨rfl, rfl, ?_⟩
              go_simp
            · change some _ = some o at ho
              obtain rfl := Option.some.inj ho
              clear ho
              have f12 : x.tmps[12]? = some (.slice (some ⟨b8, 0, none⟩) 11 d8) := (hoff 12 (fun j _ => by show 93 + j ≠ 12; omega)).trans rfl
              clear hdep hoff
              refine ⟨rfl, rfl, ?_⟩
              go_simp
            · change some _ = some o at ho
              obtain rfl := Option.some.inj ho
              clear ho
              have e17 : x.tmps[110]? = some (.slice (some ⟨b8, 0, none⟩) 11 d8) := hdep { on := 17, ground := .data } (Array.mem_of_getElem? (i := 0) rfl) rfl
              clear hdep hoff
              refine ⟨rfl, rfl, ?_⟩
              go_simp
            · change some _ = some o at ho
              obtain rfl := Option.some.inj ho
              clear ho
              have e18 : x.tmps[111]? = some (.pointer (some ⟨b8, 5, none⟩)) := hdep { on := 18, ground := .data } (Array.mem_of_getElem? (i := 0) rfl) rfl
              clear hdep hoff
              refine ⟨rfl, rfl, ?_⟩
              go_simp
            · change some _ = some o at ho
              obtain rfl := Option.some.inj ho
              clear ho
              have f12 : x.tmps[12]? = some (.slice (some ⟨b8, 0, none⟩) 11 d8) := (hoff 12 (fun j _ => by show 93 + j ≠ 12; omega)).trans rfl
              clear hdep hoff
              refine ⟨rfl, rfl, ?_⟩
              go_simp
            · change some _ = some o at ho
              obtain rfl := Option.some.inj ho
              clear ho
              have e20 : x.tmps[113]? = some (.slice (some ⟨b8, 0, none⟩) 11 d8) := hdep { on := 20, ground := .data } (Array.mem_of_getElem? (i := 0) rfl) rfl
              clear hdep hoff
              refine ⟨rfl, rfl, ?_⟩
              go_simp
            · change some _ = some o at ho
              obtain rfl := Option.some.inj ho
              clear ho
              have e21 : x.tmps[114]? = some (.pointer (some ⟨b8, 6, none⟩)) := hdep { on := 21, ground := .data } (Array.mem_of_getElem? (i := 0) rfl) rfl
              clear hdep hoff
              refine ⟨rfl, rfl, ?_⟩
              go_simp
            · change some _ = some o at ho
              obtain rfl := Option.some.inj ho
              clear ho
              have f12 : x.tmps[12]? = some (.slice (some ⟨b8, 0, none⟩) 11 d8) := (hoff 12 (fun j _ => by show 93 + j ≠ 12; omega)).trans rfl
              clear hdep hoff
              refine ⟨rfl, rfl, ?_⟩
              go_simp
            · change some _ = some o at ho
              obtain rfl := Option.some.inj ho
              clear ho
              have e23 : x.tmps[116]? = some (.slice (some ⟨b8, 0, none⟩) 11 d8) := hdep { on := 23, ground := .data } (Array.mem_of_getElem? (i := 0) rfl) rfl
              clear hdep hoff
              refine ⟨rfl, rfl, ?_⟩
              go_simp
            · change some _ = some o at ho
              obtain rfl := Option.some.inj ho
              clear ho
              have e24 : x.tmps[117]? = some (.pointer (some ⟨b8, 7, none⟩)) := hdep { on := 24, ground := .data } (Array.mem_of_getElem? (i := 0) rfl) rfl
              clear hdep hoff
              refine ⟨rfl, rfl, ?_⟩
              go_simp
            · change some _ = some o at ho
              obtain rfl := Option.some.inj ho
              clear ho
              have f12 : x.tmps[12]? = some (.slice (some ⟨b8, 0, none⟩) 11 d8) := (hoff 12 (fun j _ => by show 93 + j ≠ 12; omega)).trans rfl
              clear hdep hoff
              refine ⟨rfl, rfl, ?_⟩
              go_simp
            · change some _ = some o at ho
              obtain rfl := Option.some.inj ho
              clear ho
              have e26 : x.tmps[119]? = some (.slice (some ⟨b8, 0, none⟩) 11 d8) := hdep { on := 26, ground := .data } (Array.mem_of_getElem? (i := 0) rfl) rfl
              clear hdep hoff
              refine ⟨rfl, rfl, ?_⟩
              go_simp
            · change some _ = some o at ho
              obtain rfl := Option.some.inj ho
              clear ho
              have e27 : x.tmps[120]? = some (.pointer (some ⟨b8, 8, none⟩)) := hdep { on := 27, ground := .data } (Array.mem_of_getElem? (i := 0) rfl) rfl
              clear hdep hoff
              refine ⟨rfl, rfl, ?_⟩
              go_simp
            · change some _ = some o at ho
              obtain rfl := Option.some.inj ho
              clear ho
              have f12 : x.tmps[12]? = some (.slice (some ⟨b8, 0, none⟩) 11 d8) := (hoff 12 (fun j _ => by show 93 + j ≠ 12; omega)).trans rfl
              clear hdep hoff
              refine ⟨rfl, rfl, ?_⟩
              go_simp
            · change some _ = some o at ho
              obtain rfl := Option.some.inj ho
              clear ho
              have e29 : x.tmps[122]? = some (.slice (some ⟨b8, 0, none⟩) 11 d8) := hdep { on := 29, ground := .data } (Array.mem_of_getElem? (i := 0) rfl) rfl
              clear hdep hoff
              refine ⟨rfl, rfl, ?_⟩
              go_simp
            · change some _ = some o at ho
              obtain rfl := Option.some.inj ho
              clear ho
              have e30 : x.tmps[123]? = some (.pointer (some ⟨b8, 9, none⟩)) := hdep { on := 30, ground := .data } (Array.mem_of_getElem? (i := 0) rfl) rfl
              clear hdep hoff
              refine ⟨rfl, rfl, ?_⟩
              go_simp
            · change some _ = some o at ho
              obtain rfl := Option.some.inj ho
              clear ho
              have f12 : x.tmps[12]? = some (.slice (some ⟨b8, 0, none⟩) 11 d8) := (hoff 12 (fun j _ => by show 93 + j ≠ 12; omega)).trans rfl
              clear hdep hoff
              refine ⟨rfl, rfl, ?_⟩
              go_simp
            · change some _ = some o at ho
              obtain rfl := Option.some.inj ho
              clear ho
              have e32 : x.tmps[125]? = some (.slice (some ⟨b8, 0, none⟩) 11 d8) := hdep { on := 32, ground := .data } (Array.mem_of_getElem? (i := 0) rfl) rfl
              clear hdep hoff
              refine ⟨rfl, rfl, ?_⟩
              go_simp
            · change some _ = some o at ho
              obtain rfl := Option.some.inj ho
              clear ho
              have e33 : x.tmps[126]? = some (.pointer (some ⟨b8, 10, none⟩)) := hdep { on := 33, ground := .data } (Array.mem_of_getElem? (i := 0) rfl) rfl
              clear hdep hoff
              refine ⟨rfl, rfl, ?_⟩
              go_simp
            · change some _ = some o at ho
              obtain rfl := Option.some.inj ho
              clear ho
              have e4 : x.tmps[97]? = some (.int .i64 a0) := hdep { on := 4, ground := .data } (Array.mem_of_getElem? (i := 0) rfl) rfl
              have e7 : x.tmps[100]? = some (.int .i64 a1) := hdep { on := 7, ground := .data } (Array.mem_of_getElem? (i := 1) rfl) rfl
              have e10 : x.tmps[103]? = some (.int .i64 a2) := hdep { on := 10, ground := .data } (Array.mem_of_getElem? (i := 2) rfl) rfl
              have e13 : x.tmps[106]? = some (.int .i64 a3) := hdep { on := 13, ground := .data } (Array.mem_of_getElem? (i := 3) rfl) rfl
              have e16 : x.tmps[109]? = some (.int .i64 a4) := hdep { on := 16, ground := .data } (Array.mem_of_getElem? (i := 4) rfl) rfl
              have e19 : x.tmps[112]? = some (.int .i64 a5) := hdep { on := 19, ground := .data } (Array.mem_of_getElem? (i := 5) rfl) rfl
              have e22 : x.tmps[115]? = some (.int .i64 a6) := hdep { on := 22, ground := .data } (Array.mem_of_getElem? (i := 6) rfl) rfl
              have e25 : x.tmps[118]? = some (.int .i64 a7) := hdep { on := 25, ground := .data } (Array.mem_of_getElem? (i := 7) rfl) rfl
              have e28 : x.tmps[121]? = some (.int .i64 a8) := hdep { on := 28, ground := .data } (Array.mem_of_getElem? (i := 8) rfl) rfl
              have e31 : x.tmps[124]? = some (.int .i64 a9) := hdep { on := 31, ground := .data } (Array.mem_of_getElem? (i := 9) rfl) rfl
              have e34 : x.tmps[127]? = some (.int .i64 a10) := hdep { on := 34, ground := .data } (Array.mem_of_getElem? (i := 10) rfl) rfl
              clear hdep hoff
              refine ⟨rfl, rfl, ?_⟩
              go_simp
            · exact absurd rfl hik
            · omega
          case h1 =>
            have c0 : (wk.alloc (.cells #[.int .i64 a0, .int .i64 a1, .int .i64 a2, .int .i64 a3, .int .i64 a4, .int .i64 a5, .int .i64 a6, .int .i64 a7, .int .i64 a8, .int .i64 a9, .int .i64 a10] 118)).cell? ⟨gc, 3, none⟩ = some (.slice P2 cs.length p2) := M0
            have h0 : (wk.alloc (.cells #[.int .i64 a0, .int .i64 a1, .int .i64 a2, .int .i64 a3, .int .i64 a4, .int .i64 a5, .int .i64 a6, .int .i64 a7, .int .i64 a8, .int .i64 a9, .int .i64 a10] 118)).cell? ⟨b8, 0, none⟩ = some (.int .i64 a0) := M1
            have h1 : (wk.alloc (.cells #[.int .i64 a0, .int .i64 a1, .int .i64 a2, .int .i64 a3, .int .i64 a4, .int .i64 a5, .int .i64 a6, .int .i64 a7, .int .i64 a8, .int .i64 a9, .int .i64 a10] 118)).cell? ⟨b8, 1, none⟩ = some (.int .i64 a1) := M2
            have h2 : (wk.alloc (.cells #[.int .i64 a0, .int .i64 a1, .int .i64 a2, .int .i64 a3, .int .i64 a4, .int .i64 a5, .int .i64 a6, .int .i64 a7, .int .i64 a8, .int .i64 a9, .int .i64 a10] 118)).cell? ⟨b8, 2, none⟩ = some (.int .i64 a2) := M3
            have h3 : (wk.alloc (.cells #[.int .i64 a0, .int .i64 a1, .int .i64 a2, .int .i64 a3, .int .i64 a4, .int .i64 a5, .int .i64 a6, .int .i64 a7, .int .i64 a8, .int .i64 a9, .int .i64 a10] 118)).cell? ⟨b8, 3, none⟩ = some (.int .i64 a3) := M4
            have h4 : (wk.alloc (.cells #[.int .i64 a0, .int .i64 a1, .int .i64 a2, .int .i64 a3, .int .i64 a4, .int .i64 a5, .int .i64 a6, .int .i64 a7, .int .i64 a8, .int .i64 a9, .int .i64 a10] 118)).cell? ⟨b8, 4, none⟩ = some (.int .i64 a4) := M5
            have h5 : (wk.alloc (.cells #[.int .i64 a0, .int .i64 a1, .int .i64 a2, .int .i64 a3, .int .i64 a4, .int .i64 a5, .int .i64 a6, .int .i64 a7, .int .i64 a8, .int .i64 a9, .int .i64 a10] 118)).cell? ⟨b8, 5, none⟩ = some (.int .i64 a5) := M6
            have h6 : (wk.alloc (.cells #[.int .i64 a0, .int .i64 a1, .int .i64 a2, .int .i64 a3, .int .i64 a4, .int .i64 a5, .int .i64 a6, .int .i64 a7, .int .i64 a8, .int .i64 a9, .int .i64 a10] 118)).cell? ⟨b8, 6, none⟩ = some (.int .i64 a6) := M7
            have h7 : (wk.alloc (.cells #[.int .i64 a0, .int .i64 a1, .int .i64 a2, .int .i64 a3, .int .i64 a4, .int .i64 a5, .int .i64 a6, .int .i64 a7, .int .i64 a8, .int .i64 a9, .int .i64 a10] 118)).cell? ⟨b8, 7, none⟩ = some (.int .i64 a7) := M8
            have h8 : (wk.alloc (.cells #[.int .i64 a0, .int .i64 a1, .int .i64 a2, .int .i64 a3, .int .i64 a4, .int .i64 a5, .int .i64 a6, .int .i64 a7, .int .i64 a8, .int .i64 a9, .int .i64 a10] 118)).cell? ⟨b8, 8, none⟩ = some (.int .i64 a8) := M9
            have h9 : (wk.alloc (.cells #[.int .i64 a0, .int .i64 a1, .int .i64 a2, .int .i64 a3, .int .i64 a4, .int .i64 a5, .int .i64 a6, .int .i64 a7, .int .i64 a8, .int .i64 a9, .int .i64 a10] 118)).cell? ⟨b8, 9, none⟩ = some (.int .i64 a9) := M10
            have h10 : (wk.alloc (.cells #[.int .i64 a0, .int .i64 a1, .int .i64 a2, .int .i64 a3, .int .i64 a4, .int .i64 a5, .int .i64 a6, .int .i64 a7, .int .i64 a8, .int .i64 a9, .int .i64 a10] 118)).cell? ⟨b8, 10, none⟩ = some (.int .i64 a10) := M11
            clear K0 M0 K1 M1 K2 M2 K3 M3 K4 M4 K5 M5 K6 M6 K7 M7 K8 M8 K9 M9 K10 M10 K11 M11
            intro i hi hik o ho x hdep hoff
            rcases i with _ | _ | _ | _ | _ | _ | _ | _ | _ | _ | _ | _ | _ | _ | _ | _ | _ | _ | _ | _ | _ | _ | _ | _ | _ | _ | _ | _ | _ | _ | _ | _ | _ | _ | _ | _ | _ | i
            · change some _ = some o at ho
              obtain rfl := Option.some.inj ho
              clear ho
              have f4 : x.tmps[4]? = some (.pointer (some ⟨gc, 0, none⟩)) := (hoff 4 (fun j _ => by show 93 + j ≠ 4; omega)).trans rfl
              clear hdep hoff
              refine ⟨rfl, rfl, ?_⟩
              go_simp
            · change some _ = some o at ho
              obtain rfl := Option.some.inj ho
              clear ho
              have e0 : x.tmps[93]? = some (.pointer (some ⟨gc, 3, none⟩)) := hdep { on := 0, ground := .data } (Array.mem_of_getElem? (i := 0) rfl) rfl
              clear hdep hoff
              refine ⟨rfl, rfl, ?_⟩
              go_simp
            · change some _ = some o at ho
              obtain rfl := Option.some.inj ho
              clear ho
              have f12 : x.tmps[12]? = some (.slice (some ⟨b8, 0, none⟩) 11 d8) := (hoff 12 (fun j _ => by show 93 + j ≠ 12; omega)).trans rfl
              clear hdep hoff
              refine ⟨rfl, rfl, ?_⟩
              go_simp
            · change some _ = some o at ho
              obtain rfl := Option.some.inj ho
              clear ho
              have e2 : x.tmps[95]? = some (.slice (some ⟨b8, 0, none⟩) 11 d8) := hdep { on := 2, ground := .data } (Array.mem_of_getElem? (i := 0) rfl) rfl
              clear hdep hoff
              refine ⟨rfl, rfl, ?_⟩
              go_simp
            · change some _ = some o at ho
              obtain rfl := Option.some.inj ho
              clear ho
              have e3 : x.tmps[96]? = some (.pointer (some ⟨b8, 0, none⟩)) := hdep { on := 3, ground := .data } (Array.mem_of_getElem? (i := 0) rfl) rfl
              clear hdep hoff
              refine ⟨rfl, rfl, ?_⟩
              go_simp
            · change some _ = some o at ho
              obtain rfl := Option.some.inj ho
              clear ho
              have f12 : x.tmps[12]? = some (.slice (some ⟨b8, 0, none⟩) 11 d8) := (hoff 12 (fun j _ => by show 93 + j ≠ 12; omega)).trans rfl
              clear hdep hoff
              refine ⟨rfl, rfl, ?_⟩
              go_simp
            · change some _ = some o at ho
              obtain rfl := Option.some.inj ho
              clear ho
              have e5 : x.tmps[98]? = some (.slice (some ⟨b8, 0, none⟩) 11 d8) := hdep { on := 5, ground := .data } (Array.mem_of_getElem? (i := 0) rfl) rfl
              clear hdep hoff
              refine ⟨rfl, rfl, ?_⟩
              go_simp
            · change some _ = some o at ho
              obtain rfl := Option.some.inj ho
              clear ho
              have e6 : x.tmps[99]? = some (.pointer (some ⟨b8, 1, none⟩)) := hdep { on := 6, ground := .data } (Array.mem_of_getElem? (i := 0) rfl) rfl
              clear hdep hoff
              refine ⟨rfl, rfl, ?_⟩
              go_simp
            · change some _ = some o at ho
              obtain rfl := Option.some.inj ho
              clear ho
              have f12 : x.tmps[12]? = some (.slice (some ⟨b8, 0, none⟩) 11 d8) := (hoff 12 (fun j _ => by show 93 + j ≠ 12; omega)).trans rfl
              clear hdep hoff
              refine ⟨rfl, rfl, ?_⟩
              go_simp
            · change some _ = some o at ho
              obtain rfl := Option.some.inj ho
              clear ho
              have e8 : x.tmps[101]? = some (.slice (some ⟨b8, 0, none⟩) 11 d8) := hdep { on := 8, ground := .data } (Array.mem_of_getElem? (i := 0) rfl) rfl
              clear hdep hoff
              refine ⟨rfl, rfl, ?_⟩
              go_simp
            · change some _ = some o at ho
              obtain rfl := Option.some.inj ho
              clear ho
              have e9 : x.tmps[102]? = some (.pointer (some ⟨b8, 2, none⟩)) := hdep { on := 9, ground := .data } (Array.mem_of_getElem? (i := 0) rfl) rfl
              clear hdep hoff
              refine ⟨rfl, rfl, ?_⟩
              go_simp
            · change some _ = some o at ho
              obtain rfl := Option.some.inj ho
              clear ho
              have f12 : x.tmps[12]? = some (.slice (some ⟨b8, 0, none⟩) 11 d8) := (hoff 12 (fun j _ => by show 93 + j ≠ 12; omega)).trans rfl
              clear hdep hoff
              refine ⟨rfl, rfl, ?_⟩
              go_simp
            · change some _ = some o at ho
              obtain rfl := Option.some.inj ho
              clear ho
              have e11 : x.tmps[104]? = some (.slice (some ⟨b8, 0, none⟩) 11 d8) := hdep { on := 11, ground := .data } (Array.mem_of_getElem? (i := 0) rfl) rfl
              clear hdep hoff
              refine ⟨rfl, rfl, ?_⟩
              go_simp
            · change some _ = some o at ho
              obtain rfl := Option.some.inj ho
              clear ho
              have e12 : x.tmps[105]? = some (.pointer (some ⟨b8, 3, none⟩)) := hdep { on := 12, ground := .data } (Array.mem_of_getElem? (i := 0) rfl) rfl
              clear hdep hoff
              refine ⟨rfl, rfl, ?_⟩
              go_simp
            · change some _ = some o at ho
              obtain rfl := Option.some.inj ho
              clear ho
              have f12 : x.tmps[12]? = some (.slice (some ⟨b8, 0, none⟩) 11 d8) := (hoff 12 (fun j _ => by show 93 + j ≠ 12; omega)).trans rfl
              clear hdep hoff
              refine ⟨rfl, rfl, ?_⟩
              go_simp
            · change some _ = some o at ho
              obtain rfl := Option.some.inj ho
              clear ho
              have e14 : x.tmps[107]? = some (.slice (some ⟨b8, 0, none⟩) 11 d8) := hdep { on := 14, ground := .data } (Array.mem_of_getElem? (i := 0) rfl) rfl
              clear hdep hoff
              refine ⟨rfl, rfl, ?_⟩
              go_simp
            · change some _ = some o at ho
              obtain rfl := Option.some.inj ho
              clear ho
              have e15 : x.tmps[108]? = some (.pointer (some ⟨b8, 4, none⟩)) := hdep { on := 15, ground := .data } (Array.mem_of_getElem? (i := 0) rfl) rfl
              clear hdep hoff
              refine ⟨rfl, rfl, ?_⟩
              go_simp
            · change some _ = some o at ho
              obtain rfl := Option.some.inj ho
              clear ho
              have f12 : x.tmps[12]? = some (.slice (some ⟨b8, 0, none⟩) 11 d8) := (hoff 12 (fun j _ => by show 93 + j ≠ 12; omega)).trans rfl
              clear hdep hoff
              refine ⟨rfl, rfl, ?_⟩
              go_simp
            · change some _ = some o at ho
              obtain rfl := Option.some.inj ho
              clear ho
              have e17 : x.tmps[110]? = some (.slice (some ⟨b8, 0, none⟩) 11 d8) := hdep { on := 17, ground := .data } (Array.mem_of_getElem? (i := 0) rfl) rfl
              clear hdep hoff
              refine ⟨rfl, rfl, ?_⟩
              go_simp
            · change some _ = some o at ho
              obtain rfl := Option.some.inj ho
              clear ho
              have e18 : x.tmps[111]? = some (.pointer (some ⟨b8, 5, none⟩)) := hdep { on := 18, ground := .data } (Array.mem_of_getElem? (i := 0) rfl) rfl
              clear hdep hoff
              refine ⟨rfl, rfl, ?_⟩
              go_simp
            · change some _ = some o at ho
              obtain rfl := Option.some.inj ho
              clear ho
              have f12 : x.tmps[12]? = some (.slice (some ⟨b8, 0, none⟩) 11 d8) := (hoff 12 (fun j _ => by show 93 + j ≠ 12; omega)).trans rfl
              clear hdep hoff
              refine ⟨rfl, rfl, ?_⟩
              go_simp
            · change some _ = some o at ho
              obtain rfl := Option.some.inj ho
              clear ho
              have e20 : x.tmps[113]? = some (.slice (some ⟨b8, 0, none⟩) 11 d8) := hdep { on := 20, ground := .data } (Array.mem_of_getElem? (i := 0) rfl) rfl
              clear hdep hoff
              refine ⟨rfl, rfl, ?_⟩
              go_simp
            · change some _ = some o at ho
              obtain rfl := Option.some.inj ho
              clear ho
              have e21 : x.tmps[114]? = some (.pointer (some ⟨b8, 6, none⟩)) := hdep { on := 21, ground := .data } (Array.mem_of_getElem? (i := 0) rfl) rfl
              clear hdep hoff
              refine ⟨rfl, rfl, ?_⟩
              go_simp
            · change some _ = some o at ho
              obtain rfl := Option.some.inj ho
              clear ho
              have f12 : x.tmps[12]? = some (.slice (some ⟨b8, 0, none⟩) 11 d8) := (hoff 12 (fun j _ => by show 93 + j ≠ 12; omega)).trans rfl
              clear hdep hoff
              refine ⟨rfl, rfl, ?_⟩
              go_simp
            · change some _ = some o at ho
              obtain rfl := Option.some.inj ho
              clear ho
              have e23 : x.tmps[116]? = some (.slice (some ⟨b8, 0, none⟩) 11 d8) := hdep { on := 23, ground := .data } (Array.mem_of_getElem? (i := 0) rfl) rfl
              clear hdep hoff
              refine ⟨rfl, rfl, ?_⟩
              go_simp
            · change some _ = some o at ho
              obtain rfl := Option.some.inj ho
              clear ho
              have e24 : x.tmps[117]? = some (.pointer (some ⟨b8, 7, none⟩)) := hdep { on := 24, ground := .data } (Array.mem_of_getElem? (i := 0) rfl) rfl
              clear hdep hoff
              refine ⟨rfl, rfl, ?_⟩
              go_simp
            · change some _ = some o at ho
              obtain rfl := Option.some.inj ho
              clear ho
              have f12 : x.tmps[12]? = some (.slice (some ⟨b8, 0, none⟩) 11 d8) := (hoff 12 (fun j _ => by show 93 + j ≠ 12; omega)).trans rfl
              clear hdep hoff
              refine ⟨rfl, rfl, ?_⟩
              go_simp
            · change some _ = some o at ho
              obtain rfl := Option.some.inj ho
              clear ho
              have e26 : x.tmps[119]? = some (.slice (some ⟨b8, 0, none⟩) 11 d8) := hdep { on := 26, ground := .data } (Array.mem_of_getElem? (i := 0) rfl) rfl
              clear hdep hoff
              refine ⟨rfl, rfl, ?_⟩
              go_simp
            · change some _ = some o at ho
              obtain rfl := Option.some.inj ho
              clear ho
              have e27 : x.tmps[120]? = some (.pointer (some ⟨b8, 8, none⟩)) := hdep { on := 27, ground := .data } (Array.mem_of_getElem? (i := 0) rfl) rfl
              clear hdep hoff
              refine ⟨rfl, rfl, ?_⟩
              go_simp
            · change some _ = some o at ho
              obtain rfl := Option.some.inj ho
              clear ho
              have f12 : x.tmps[12]? = some (.slice (some ⟨b8, 0, none⟩) 11 d8) := (hoff 12 (fun j _ => by show 93 + j ≠ 12; omega)).trans rfl
              clear hdep hoff
              refine ⟨rfl, rfl, ?_⟩
              go_simp
            · change some _ = some o at ho
              obtain rfl := Option.some.inj ho
              clear ho
              have e29 : x.tmps[122]? = some (.slice (some ⟨b8, 0, none⟩) 11 d8) := hdep { on := 29, ground := .data } (Array.mem_of_getElem? (i := 0) rfl) rfl
              clear hdep hoff
              refine ⟨rfl, rfl, ?_⟩
              go_simp
            · change some _ = some o at ho
              obtain rfl := Option.some.inj ho
              clear ho
              have e30 : x.tmps[123]? = some (.pointer (some ⟨b8, 9, none⟩)) := hdep { on := 30, ground := .data } (Array.mem_of_getElem? (i := 0) rfl) rfl
              clear hdep hoff
              refine ⟨rfl, rfl, ?_⟩
              go_simp
            · change some _ = some o at ho
              obtain rfl := Option.some.inj ho
              clear ho
              have f12 : x.tmps[12]? = some (.slice (some ⟨b8, 0, none⟩) 11 d8) := (hoff 12 (fun j _ => by show 93 + j ≠ 12; omega)).trans rfl
              clear hdep hoff
              refine ⟨rfl, rfl, ?_⟩
              go_simp
            · change some _ = some o at ho
              obtain rfl := Option.some.inj ho
              clear ho
              have e32 : x.tmps[125]? = some (.slice (some ⟨b8, 0, none⟩) 11 d8) := hdep { on := 32, ground := .data } (Array.mem_of_getElem? (i := 0) rfl) rfl
              clear hdep hoff
              refine ⟨rfl, rfl, ?_⟩
              go_simp
            · change some _ = some o at ho
              obtain rfl := Option.some.inj ho
              clear ho
              have e33 : x.tmps[126]? = some (.pointer (some ⟨b8, 10, none⟩)) := hdep { on := 33, ground := .data } (Array.mem_of_getElem? (i := 0) rfl) rfl
              clear hdep hoff
              refine ⟨rfl, rfl, ?_⟩
              go_simp
            · change some _ = some o at ho
              obtain rfl := Option.some.inj ho
              clear ho
              have e4 : x.tmps[97]? = some (.int .i64 a0) := hdep { on := 4, ground := .data } (Array.mem_of_getElem? (i := 0) rfl) rfl
              have e7 : x.tmps[100]? = some (.int .i64 a1) := hdep { on := 7, ground := .data } (Array.mem_of_getElem? (i := 1) rfl) rfl
              have e10 : x.tmps[103]? = some (.int .i64 a2) := hdep { on := 10, ground := .data } (Array.mem_of_getElem? (i := 2) rfl) rfl
              have e13 : x.tmps[106]? = some (.int .i64 a3) := hdep { on := 13, ground := .data } (Array.mem_of_getElem? (i := 3) rfl) rfl
              have e16 : x.tmps[109]? = some (.int .i64 a4) := hdep { on := 16, ground := .data } (Array.mem_of_getElem? (i := 4) rfl) rfl
              have e19 : x.tmps[112]? = some (.int .i64 a5) := hdep { on := 19, ground := .data } (Array.mem_of_getElem? (i := 5) rfl) rfl
              have e22 : x.tmps[115]? = some (.int .i64 a6) := hdep { on := 22, ground := .data } (Array.mem_of_getElem? (i := 6) rfl) rfl
              have e25 : x.tmps[118]? = some (.int .i64 a7) := hdep { on := 25, ground := .data } (Array.mem_of_getElem? (i := 7) rfl) rfl
              have e28 : x.tmps[121]? = some (.int .i64 a8) := hdep { on := 28, ground := .data } (Array.mem_of_getElem? (i := 8) rfl) rfl
              have e31 : x.tmps[124]? = some (.int .i64 a9) := hdep { on := 31, ground := .data } (Array.mem_of_getElem? (i := 9) rfl) rfl
              have e34 : x.tmps[127]? = some (.int .i64 a10) := hdep { on := 34, ground := .data } (Array.mem_of_getElem? (i := 10) rfl) rfl
              clear hdep hoff
              refine ⟨rfl, rfl, ?_⟩
              go_simp
            · exact absurd rfl hik
            · omega
          case hk =>
            intro o ho x hdep hoff
            change some _ = some o at ho
            obtain rfl := Option.some.inj ho
            clear ho
            have e35 : x.tmps[128]? = some (.agg #[.int .i64 a0, .int .i64 a1, .int .i64 a2, .int .i64 a3, .int .i64 a4, .int .i64 a5, .int .i64 a6, .int .i64 a7, .int .i64 a8, .int .i64 a9, .int .i64 a10]) := hdep { on := 35, ground := .data } (Array.mem_of_getElem? (i := 0) rfl) rfl
            clear hdep hoff
            refine ⟨rfl, rfl, ?_⟩
            go_simp
          case hend =>
            clear K0 M0 K1 M1 K2 M2 K3 M3 K4 M4 K5 M5 K6 M6 K7 M7 K8 M8 K9 M9 K10 M10 K11 M11
            simp only [filled, Act.put, List.setIfInBounds_toArray, List.set_cons_zero, List.set_cons_succ]
            refine wpOp_of rfl rfl ?_
            refine wp_appg Tryd.underlying27 hi hz0 hz1 hz2 rfl (by omega) (.tmp 94) (.tmp 129) (by rfl) w.heap.size (.slice P2 cs.length p2) cs.length (cvs cs) (by rfl) HR13.out.o2 (some ⟨wk.heap.size, 0, none⟩) 1 1 (cvs [⟨a0, a1, a2, a3, a4, a5, a6, a7, a8, a9, a10⟩]) (by rfl) HRow.out (by rfl) (cvs_one _) (by have := HNc.out; omega) (by omega) hs3.out ?_
            intro v' w5 ho5 hb5 hg5 hob5
            clear hob5
            obtain ⟨P5, p5, hv5, hrw5⟩ := Own.row ho5
            clear hrw5
            subst hv5
            have HE5 := Lib.hid (HR13.out.addC ho5 hb5 hg5)
            have HK5 := Lib.hid ((blk_grown HK13.out hg5 (own_ne HR13.out.o2 HK13.out (by decide))).far (p := ⟨w.heap.size + 3, 3, none⟩) (fun h => absurd h.symm (HR13.out.cfg.ne_ HK13.out (by decide))) (.slice P5 (cs.length + 1) p5))
            have HC5' := blk_grown HR13.out.cfg hg5 (own_ne HR13.out.o2 HR13.out.cfg (by decide))
            rw [HGC.out] at HC5'
            have k5 := HC5'.cell 3
            have f5 := HC5'.frozen 3
            simp only [List.getElem?_toArray, List.getElem?_cons_zero, List.getElem?_cons_succ] at k5
            clear ho5 hb5 hg5 HC5'
            simp only [Act.put, List.setIfInBounds_toArray]
            refine wpOp_of rfl rfl ?_
            go_simp
            refine wpOp_of rfl rfl ?_
            go_simp
            have hg0 := HG0.out
            subst hg0
            go_wp2_with fail
            go_roundw
            case rel => exact HRel.out _ _ _ _ _ (by go_num) HE5.out HK5.out
            case measure => simp [intOf] <;> omega
        · have hjm : m = j := by omega
          subst hjm
          have f1 : ¬ ((m : Int) < m) := by omega
          have N8 := b01 wr (.cells #[.int .i64 1] 3)
          have R8 : Row (wr.alloc (.cells #[.int .i64 1] 3)) (some ⟨wr.heap.size, 0, none⟩) (ivs [1]) := Row.of_blk (Blk.new wr 3 _) fun j u hj => by simpa [ivs, iv] using hj
          have HM : Hid (Calls Tryd.prog 65 #[.agg #[.slice A7 (rCl m l6 e6).length c7, .int .i64 (rCe m l6 e6), .slice none 0 0], .slice (some ⟨wr.heap.size, 0, none⟩) 1 1] (wr.alloc (.cells #[.int .i64 1] 3)) (TakePost w (wr.alloc (.cells #[.int .i64 1] 3)) (rCl m l6 e6) (rCe m l6 e6) [1])) := rtake_any (e := rCe m l6 e6) (bt hR.bl N8) hR.rd hR.hc hR.hm R8 (cw := 1) (by simp)
          have HN8 := Lib.hid N8
          clear hR hK HK R8 N8 HS10
          go_upto_region 23 with fail
          go_upto_region 24 with (go_at_call 65; go_loud ((with_reducible refine HM.out.mono ?_); rintro r wt ⟨A9, c9, v9, rfl, hr9, hc9, hm9, ho9, hb9⟩; obtain ⟨b9, d9, rfl, hB9, hz9, hz8⟩ := own_at (n := 1) ho9 (by omega) (by rw [rv_len]; rfl)))
          clear hz8 f1
          have HZ9 := Lib.hid hz9
          clear hz9
          have hbd := nx1_bd (rCl m l6 e6) (rCe m l6 e6)
          obtain ⟨q, hq, hq255⟩ : ∃ q : Nat, W.nxV (rCl m l6 e6) (rCe m l6 e6) 1 = q ∧ q ≤ 255 := ⟨(W.nxV (rCl m l6 e6) (rCe m l6 e6) 1).toNat, by omega, by omega⟩
          clear hbd
          have hrv : rv [1] (rCl m l6 e6) (rCe m l6 e6) = [(q : Int)] := by rw [← hq]; rfl
          rw [hrv] at ho9
          have HO9 : Hid (Own wt w.heap.size 3 1 (.slice (some ⟨b9, 0, none⟩) 1 d9) 1 (ivs [(q : Int)])) := ho9.less (bs (bt HR.out.bl HN8.out) (Nat.le_refl _))
          obtain ⟨l10, hl10⟩ : ∃ x, rl [1] (rCl m l6 e6) (rCe m l6 e6) = x := ⟨_, rfl⟩
          obtain ⟨e10, he10⟩ : ∃ x, re [1] (rCl m l6 e6) (rCe m l6 e6) = x := ⟨_, rfl⟩
          rw [hl10] at hr9 hc9 ⊢
          rw [he10]
          have HQ3 := Lib.hid (And.intro hq (And.intro hl10 he10))
          have hne9 : wt.heap.size ≠ gx := by have := (bt HN8.out hb9).size; omega
          have hg9 : w.heap.size ≤ wt.heap.size := by have := (bt HN8.out hb9).size; have := HR.out.bl.size; omega
          have BB := Blk.new wt 111 #[.slice A9 l10.length c9, .int .i64 e10, .slice (some ⟨b9, 0, none⟩) 1 d9]
          have HR9 := Lib.hid ((HR.out.bel (ba1 (bt HN8.out hb9) (.cells #[.slice A9 l10.length c9, .int .i64 e10, .slice (some ⟨b9, 0, none⟩) 1 d9] 111))).swap (ys' := [(q : Int)]) (HO9.out.alloc (.cells #[.slice A9 l10.length c9, .int .i64 e10, .slice (some ⟨b9, 0, none⟩) 1 d9] 111)))
          have HC9 := Lib.hid (And.intro hr9 (And.intro hc9 hm9))
          have HMq := Lib.hid hq255
          generalize hcs : rCs m l6 e6 = cs at *
          have HCs := Lib.hid hcs
          clear hcs
          clear kx fx zx ky q2 hrv hq hl10 he10 HR HM HN8 HO9 ho9 hr9 hc9 hm9 hb9 hB9 hj hlt hq255
          generalize wt.heap.size = g9 at *
          generalize wt.alloc (.cells #[.slice A9 l10.length c9, .int .i64 e10, .slice (some ⟨b9, 0, none⟩) 1 d9] 111) = V11 at *
          have kx := HR9.out.box.cell
          have fx := HR9.out.box.frozen
          have zx := HR9.out.box.lt
          have ky := BB.cell
          go_upto_region 25 with fail
          have HR10 := Lib.hid (HR9.out.setR hgx HC9.out.1 HC9.out.2.1 HC9.out.2.2 (e' := e10))
          have HB9 := Lib.hid ((BB.far (p := ⟨gx, 0, none⟩) hne9 (.slice A9 l10.length c9)).far (p := ⟨gx, 1, none⟩) hne9 (.int .i64 e10))
          clear kx fx zx ky BB HR9
          generalize (V11.setCell ⟨gx, 0, none⟩ (.slice A9 l10.length c9)).setCell ⟨gx, 1, none⟩ (.int .i64 e10) = V12 at *
          have HS12 : Hid (InvRA w gx g9 #[.slice A9 l10.length c9, .int .i64 e10, .slice (some ⟨b9, 0, none⟩) 1 d9] (.slice (some ⟨bb, 0, none⟩) 3 d2) (.slice (some ⟨b9, 0, none⟩) 1 d9) [(q : Int)] p f (.slice P1 ws.length p1) (.slice P2 cs.length p2) ws cs q l10 e10 (.int .i64 0) V12) := ⟨0, A9, c9, .slice none 0 0, rfl, Nat.zero_le _, HR10.out, HB9.out, Own.nil_ _ _ _ _⟩
          clear HR10 HB9
          go_wp2_with fail
          go_loopw [14] (fun i V => InvRA w gx g9 #[.slice A9 l10.length c9, .int .i64 e10, .slice (some ⟨b9, 0, none⟩) 1 d9] (.slice (some ⟨bb, 0, none⟩) 3 d2) (.slice (some ⟨b9, 0, none⟩) 1 d9) [(q : Int)] p f (.slice P1 ws.length p1) (.slice P2 cs.length p2) ws cs q l10 e10 i V) (fun i _ => q - (intOf i).toNat)
          case atStart => exact HS12.out
          case round =>
            obtain ⟨j, A7, c7, v3, rfl, hj, hR, hK, hO3⟩ := hrel
            have HR := Lib.hid hR
            have HK := Lib.hid hK
            have HO3 := Lib.hid hO3
            have HLJ3 : Hid ((rAs j l10 e10).length = j) := rAs_len j l10 e10
            obtain ⟨P3, p3, hv3, hz7⟩ := Own.row hR.o3
            subst hv3
            clear hz7
            have kx := hR.box.cell
            have fx := hR.box.frozen
            have zx := hR.box.lt
            have ky := hK.cell
            have q2 := own_cl (d := d9) hR.ol (j := 0) (y := (q : Int)) rfl
            by_cases hlt : j < q
            · have f1 : (j : Int) < q := by omega
              have N8 := b01 wr (.cells #[.int .i64 1] 3)
              have R8 : Row (wr.alloc (.cells #[.int .i64 1] 3)) (some ⟨wr.heap.size, 0, none⟩) (ivs [1]) := Row.of_blk (Blk.new wr 3 _) fun j u hj => by simpa [ivs, iv] using hj
              have HM : Hid (Calls Tryd.prog 65 #[.agg #[.slice A7 (rAl j l10 e10).length c7, .int .i64 (rAe j l10 e10), .slice none 0 0], .slice (some ⟨wr.heap.size, 0, none⟩) 1 1] (wr.alloc (.cells #[.int .i64 1] 3)) (TakePost w (wr.alloc (.cells #[.int .i64 1] 3)) (rAl j l10 e10) (rAe j l10 e10) [1])) := rtake_any (e := rAe j l10 e10) (bt hR.bl N8) hR.rd hR.hc hR.hm R8 (cw := 1) (by simp)
              have HN8 := Lib.hid N8
              clear hR hK hO3 R8 N8 HS12
              go_upto_region 29 with (go_at_call 65; go_loud ((with_reducible refine HM.out.mono ?_); rintro r wt ⟨A8, c8, v8, rfl, hr8, hc8, hm8, ho8, hb8⟩; obtain ⟨b8, d8, rfl, hB8, hz8, hz9⟩ := own_at (n := 1) ho8 (by omega) (by rw [rv_len]; rfl)))
              clear hz8 hz9 f1
              obtain ⟨a0, hrv, hac⟩ : ∃ a0, rv [1] (rAl j l10 e10) (rAe j l10 e10) = [a0] ∧ rAct (rAl j l10 e10) (rAe j l10 e10) = a0 := ⟨_, rfl, rfl⟩
              rw [hrv] at ho8
              have has : rAs (j + 1) l10 e10 = rAs j l10 e10 ++ [a0] := by rw [rAs_snoc, hac]
              rw [← rAl_snoc] at hr8 hc8 ⊢
              rw [← rAe_snoc]
              have HRel : Hid (∀ (i : Value) (V : World) (A : Option Addr) (c : Nat) (v3 : Value), i = .int .i64 ((j + 1 : Nat) : Int) → RB w gx A c (rAl (j + 1) l10 e10) (rAe (j + 1) l10 e10) (.slice (some ⟨bb, 0, none⟩) 3 d2) (.slice (some ⟨b9, 0, none⟩) 1 d9) [(q : Int)] p f (.slice P1 ws.length p1) (.slice P2 cs.length p2) v3 ws cs (rAs j l10 e10 ++ [a0]) V → Blk V g9 111 #[.slice A9 l10.length c9, .int .i64 e10, .slice (some ⟨b9, 0, none⟩) 1 d9] → Own V g9 3 1 v3 ((rAs j l10 e10).length + 1) (ivs (rAs j l10 e10) ++ ivs [a0]) → InvRA w gx g9 #[.slice A9 l10.length c9, .int .i64 e10, .slice (some ⟨b9, 0, none⟩) 1 d9] (.slice (some ⟨bb, 0, none⟩) 3 d2) (.slice (some ⟨b9, 0, none⟩) 1 d9) [(q : Int)] p f (.slice P1 ws.length p1) (.slice P2 cs.length p2) ws cs q l10 e10 i V) := fun i V A c v3 hi h hb ho => ⟨j + 1, A, c, v3, hi, by omega, by rw [has]; exact h, hb, by rw [has, ivs_app, List.length_append]; exact ho⟩
              generalize rAl (j + 1) l10 e10 = l9 at *
              generalize rAe (j + 1) l10 e10 = e9 at *
              have hne8 : wt.heap.size ≠ gx := by have := (bt HN8.out hb8).size; omega
              have BB := Blk.new wt 111 #[.slice A8 l9.length c8, .int .i64 e9, .slice (some ⟨b8, 0, none⟩) 1 d8]
              have N9 := ba1 (bt HN8.out hb8) (.cells #[.slice A8 l9.length c8, .int .i64 e9, .slice (some ⟨b8, 0, none⟩) 1 d8] 111)
              have HR9 := Lib.hid (HR.out.bel N9)
              have HK9 := Lib.hid (HK.out.bel N9)
              have HT9 := Lib.hid (HO3.out.below N9)
              have HO9 := Lib.hid (ho8.alloc (.cells #[.slice A8 l9.length c8, .int .i64 e9, .slice (some ⟨b8, 0, none⟩) 1 d8] 111))
              have HC8 := Lib.hid (And.intro hr8 (And.intro hc8 hm8))
              have HNa : Hid ((rAs j l10 e10).length ≤ 255) := by show (rAs j l10 e10).length ≤ 255; have := HLJ3.out; have := HMq.out; omega
              generalize rAs j l10 e10 = ac at *
              clear kx fx zx ky q2 hrv has hac HR HK HO3 HM HN8 N9 ho8 hr8 hc8 hm8 hb8 hB8 HLJ3
              generalize wt.heap.size = g8 at *
              generalize wt.alloc (.cells #[.slice A8 l9.length c8, .int .i64 e9, .slice (some ⟨b8, 0, none⟩) 1 d8] 111) = V13 at *
              have kx := HR9.out.box.cell
              have fx := HR9.out.box.frozen
              have zx := HR9.out.box.lt
              have ky := BB.cell
              go_upto_region 30 with fail
              have HR10 := Lib.hid (HR9.out.setR hgx HC8.out.1 HC8.out.2.1 HC8.out.2.2 (e' := e9))
              have HB8 := Lib.hid ((BB.far (p := ⟨gx, 0, none⟩) hne8 (.slice A8 l9.length c8)).far (p := ⟨gx, 1, none⟩) hne8 (.int .i64 e9))
              have HK10 := Lib.hid ((HK9.out.far (p := ⟨gx, 0, none⟩) hne9 (.slice A8 l9.length c8)).far (p := ⟨gx, 1, none⟩) hne9 (.int .i64 e9))
              have HO10 := Lib.hid (set2_own (v1 := .slice A8 l9.length c8) (v2 := .int .i64 e9) HO9.out HR9.out.box (by decide))
              have HT10 := Lib.hid (set2_own (v1 := .slice A8 l9.length c8) (v2 := .int .i64 e9) HT9.out HR9.out.box (by decide))
              clear kx fx zx ky BB HR9 HO9 HK9 HT9
              generalize (V13.setCell ⟨gx, 0, none⟩ (.slice A8 l9.length c8)).setCell ⟨gx, 1, none⟩ (.int .i64 e9) = wk at *
              obtain ⟨i0, hi, hz0, hz1, hz2⟩ := info_parts infoI
              obtain ⟨gc, hgc⟩ : ∃ gc, w.heap.size + 1 + 1 + 1 = gc := ⟨_, rfl⟩
              have hgc3 : w.heap.size + 3 = gc := hgc
              have N13 := b01 wk.drew (.cells #[.int .i64 a0] 3)
              have HR13 := Lib.hid (HR10.out.drew.bel N13)
              have HK13 := Lib.hid ((HK10.out.drewN 1).bel N13)
              have HT13 := Lib.hid (HT10.out.below (w := wk.drew) N13)
              have cfg0 := HR10.out.drew.cfg
              have cfg1 := HR13.out.cfg
              rw [hgc3] at cfg0 cfg1
              have K0 : wk.drew.cell? ⟨gc, 4, none⟩ = some (.slice P3 ac.length p3) := by rw [cfg0.cell]; rfl
              have M0 : (wk.drew.alloc (.cells #[.int .i64 a0] 3)).cell? ⟨gc, 4, none⟩ = some (.slice P3 ac.length p3) := by rw [cfg1.cell]; rfl
              have K1 : wk.drew.cell? ⟨g8, 2, none⟩ = some (.slice (some ⟨b8, 0, none⟩) 1 d8) := HB8.out.cell 2
              have M1 : (wk.drew.alloc (.cells #[.int .i64 a0] 3)).cell? ⟨g8, 2, none⟩ = some (.slice (some ⟨b8, 0, none⟩) 1 d8) := by rw [((HB8.out.drewN 1).bel N13).cell]; rfl
              have K2 : wk.drew.cell? ⟨b8, 0, none⟩ = some (.int .i64 a0) := own_cl (d := d8) HO10.out (j := 0) (y := a0) rfl
              have M2 : (wk.drew.alloc (.cells #[.int .i64 a0] 3)).cell? ⟨b8, 0, none⟩ = some (.int .i64 a0) := own_cl (d := d8) (HO10.out.below (w := wk.drew) N13) (j := 0) (y := a0) rfl
              have HRow : Hid (Row (wk.drew.alloc (.cells #[.int .i64 a0] 3)) (some ⟨wk.heap.size, 0, none⟩) (ivs [a0])) := Row.of_blk (Blk.new wk.drew 3 _) fun j u hj => by simpa [ivs, iv] using hj
              have hs3 : Hid (g9 ≤ (wk.drew.alloc (.cells #[.int .i64 a0] 3)).heap.size) := Nat.le_of_lt HK13.out.lt
              have HGC := Lib.hid hgc3
              have HG0 := Lib.hid hgc
              have HG9 := Lib.hid hg9
              rw [hgc]
              clear N13 cfg0 cfg1 hgc hgc3
              have hn9 := HNa.out
              have hm9 := HMq.out
              refine wp_region_fill 7 6 (fun i => 156 + i) (fun i => ([.pointer (some ⟨gc, 4, none⟩), .slice P3 ac.length p3, .pointer (some ⟨g8, 2, none⟩), .slice (some ⟨b8, 0, none⟩) 1 d8, .pointer (some ⟨b8, 0, none⟩), .int .i64 a0, .slice (some ⟨wk.heap.size, 0, none⟩) 1 1] : List Value).getD i undef) (wk.drew.alloc (.cells #[.int .i64 a0] 3)) (by kernel_rfl) (by kernel_rfl) (by rfl) (by kernel_rfl) (by kernel_rfl) (by kernel_rfl) (by omega) (fun i j _ _ h => by omega) (fun i hi => by show 156 + i < 168; omega) ?h0 ?h1 ?hk ?hend
              case h0 =>
                have c0 : (wk.drew).cell? ⟨gc, 4, none⟩ = some (.slice P3 ac.length p3) := K0
                have h1 : (wk.drew).cell? ⟨g8, 2, none⟩ = some (.slice (some ⟨b8, 0, none⟩) 1 d8) := K1
                have h2 : (wk.drew).cell? ⟨b8, 0, none⟩ = some (.int .i64 a0) := K2
                clear K0 K1 K2 M0 M1 M2
                intro i hi hik o ho x hdep hoff
                rcases i with _ | _ | _ | _ | _ | _ | _ | i
                · change some _ = some o at ho
                  obtain rfl := Option.some.inj ho
                  clear ho
                  have f4 : x.tmps[4]? = some (.pointer (some ⟨gc, 0, none⟩)) := (hoff 4 (fun j _ => by show 156 + j ≠ 4; omega)).trans rfl
                  clear hdep hoff
                  refine ⟨rfl, rfl, ?_⟩
                  go_simp
                · change some _ = some o at ho
                  obtain rfl := Option.some.inj ho
                  clear ho
                  have e0 : x.tmps[156]? = some (.pointer (some ⟨gc, 4, none⟩)) := hdep { on := 0, ground := .data } (Array.mem_of_getElem? (i := 0) rfl) rfl
                  clear hdep hoff
                  refine ⟨rfl, rfl, ?_⟩
                  go_simp
                · change some _ = some o at ho
                  obtain rfl := Option.some.inj ho
                  clear ho
                  have f15 : x.tmps[15]? = some (.pointer (some ⟨g8, 0, none⟩)) := (hoff 15 (fun j _ => by show 156 + j ≠ 15; omega)).trans rfl
                  clear hdep hoff
                  refine ⟨rfl, rfl, ?_⟩
                  go_simp
                · change some _ = some o at ho
                  obtain rfl := Option.some.inj ho
                  clear ho
                  have e2 : x.tmps[158]? = some (.pointer (some ⟨g8, 2, none⟩)) := hdep { on := 2, ground := .data } (Array.mem_of_getElem? (i := 0) rfl) rfl
                  clear hdep hoff
                  refine ⟨rfl, rfl, ?_⟩
                  go_simp
                · change some _ = some o at ho
                  obtain rfl := Option.some.inj ho
                  clear ho
                  have e3 : x.tmps[159]? = some (.slice (some ⟨b8, 0, none⟩) 1 d8) := hdep { on := 3, ground := .data } (Array.mem_of_getElem? (i := 0) rfl) rfl
                  clear hdep hoff
                  refine ⟨rfl, rfl, ?_⟩
                  go_simp
                · change some _ = some o at ho
                  obtain rfl := Option.some.inj ho
                  clear ho
                  have e4 : x.tmps[160]? = some (.pointer (some ⟨b8, 0, none⟩)) := hdep { on := 4, ground := .data } (Array.mem_of_getElem? (i := 0) rfl) rfl
                  clear hdep hoff
                  refine ⟨rfl, rfl, ?_⟩
                  go_simp
                · exact absurd rfl hik
                · omega
              case h1 =>
                have c0 : (wk.alloc (.cells #[.int .i64 a0] 3)).cell? ⟨gc, 4, none⟩ = some (.slice P3 ac.length p3) := M0
                have h1 : (wk.alloc (.cells #[.int .i64 a0] 3)).cell? ⟨g8, 2, none⟩ = some (.slice (some ⟨b8, 0, none⟩) 1 d8) := M1
                have h2 : (wk.alloc (.cells #[.int .i64 a0] 3)).cell? ⟨b8, 0, none⟩ = some (.int .i64 a0) := M2
                clear K0 K1 K2 M0 M1 M2
                intro i hi hik o ho x hdep hoff
                rcases i with _ | _ | _ | _ | _ | _ | _ | i
                · change some _ = some o at ho
                  obtain rfl := Option.some.inj ho
                  clear ho
                  have f4 : x.tmps[4]? = some (.pointer (some ⟨gc, 0, none⟩)) := (hoff 4 (fun j _ => by show 156 + j ≠ 4; omega)).trans rfl
                  clear hdep hoff
                  refine ⟨rfl, rfl, ?_⟩
                  go_simp
                · change some _ = some o at ho
                  obtain rfl := Option.some.inj ho
                  clear ho
                  have e0 : x.tmps[156]? = some (.pointer (some ⟨gc, 4, none⟩)) := hdep { on := 0, ground := .data } (Array.mem_of_getElem? (i := 0) rfl) rfl
                  clear hdep hoff
                  refine ⟨rfl, rfl, ?_⟩
                  go_simp
                · change some _ = some o at ho
                  obtain rfl := Option.some.inj ho
                  clear ho
                  have f15 : x.tmps[15]? = some (.pointer (some ⟨g8, 0, none⟩)) := (hoff 15 (fun j _ => by show 156 + j ≠ 15; omega)).trans rfl
                  clear hdep hoff
                  refine ⟨rfl, rfl, ?_⟩
                  go_simp
                · change some _ = some o at ho
                  obtain rfl := Option.some.inj ho
                  clear ho
                  have e2 : x.tmps[158]? = some (.pointer (some ⟨g8, 2, none⟩)) := hdep { on := 2, ground := .data } (Array.mem_of_getElem? (i := 0) rfl) rfl
                  clear hdep hoff
                  refine ⟨rfl, rfl, ?_⟩
                  go_simp
                · change some _ = some o at ho
                  obtain rfl := Option.some.inj ho
                  clear ho
                  have e3 : x.tmps[159]? = some (.slice (some ⟨b8, 0, none⟩) 1 d8) := hdep { on := 3, ground := .data } (Array.mem_of_getElem? (i := 0) rfl) rfl
                  clear hdep hoff
                  refine ⟨rfl, rfl, ?_⟩
                  go_simp
                · change some _ = some o at ho
                  obtain rfl := Option.some.inj ho
                  clear ho
                  have e4 : x.tmps[160]? = some (.pointer (some ⟨b8, 0, none⟩)) := hdep { on := 4, ground := .data } (Array.mem_of_getElem? (i := 0) rfl) rfl
                  clear hdep hoff
                  refine ⟨rfl, rfl, ?_⟩
                  go_simp
                · exact absurd rfl hik
                · omega
              case hk =>
                intro o ho x hdep hoff
                change some _ = some o at ho
                obtain rfl := Option.some.inj ho
                clear ho
                have e5 : x.tmps[161]? = some (.int .i64 a0) := hdep { on := 5, ground := .data } (Array.mem_of_getElem? (i := 0) rfl) rfl
                clear hdep hoff
                refine ⟨rfl, rfl, ?_⟩
                go_simp
              case hend =>
                clear K0 K1 K2 M0 M1 M2
                simp only [filled, Act.put, List.setIfInBounds_toArray, List.set_cons_zero, List.set_cons_succ]
                refine wpOp_of rfl rfl ?_
                refine wp_appg Tryd.underlying28 hi hz0 hz1 hz2 rfl (by omega) (.tmp 157) (.tmp 162) (by rfl) g9 (.slice P3 ac.length p3) ac.length (ivs ac) (by rfl) HT13.out (some ⟨wk.heap.size, 0, none⟩) 1 1 (ivs [a0]) (by rfl) HRow.out (by rfl) (ivs_one _) (by have := HNa.out; omega) (by omega) hs3.out ?_
                intro v' w5 ho5 hb5 hg5 hob5
                clear hob5
                obtain ⟨P5, p5, hv5, hrw5⟩ := Own.row ho5
                clear hrw5
                subst hv5
                have HE5 := Lib.hid (HR13.out.addA HG9.out (fun k hk => by change some b9 = some k at hk; injection hk with hk; subst hk; exact HZ9.out) HT13.out ho5 (hb5.mono HG9.out) hg5)
                have hkc : g9 ≠ w.heap.size + 3 := HK13.out.ne_ HR13.out.cfg (by decide)
                have HK5 := Lib.hid ((blk_grown HK13.out hg5 (own_ne HR13.out.o3 HK13.out (by decide))).far (p := ⟨w.heap.size + 3, 4, none⟩) hkc (.slice P5 (ac.length + 1) p5))
                have HC5' := blk_grown HR13.out.cfg hg5 (own_ne HR13.out.o3 HR13.out.cfg (by decide))
                have HT5 := Lib.hid (ho5.far HC5' (by decide) 4 (.slice P5 (ac.length + 1) p5))
                rw [HGC.out] at HC5'
                have k5 := HC5'.cell 4
                have f5 := HC5'.frozen 4
                simp only [List.getElem?_toArray, List.getElem?_cons_zero, List.getElem?_cons_succ] at k5
                clear ho5 hb5 hg5 HC5' hkc
                simp only [Act.put, List.setIfInBounds_toArray]
                refine wpOp_of rfl rfl ?_
                go_simp
                refine wpOp_of rfl rfl ?_
                go_simp
                have hg0 := HG0.out
                subst hg0
                go_wp2_with fail
                go_roundw
                case rel => exact HRel.out _ _ _ _ _ (by go_num) HE5.out HK5.out HT5.out
                case measure => simp [intOf] <;> omega
            · have hjq : q = j := by omega
              subst hjq
              have f1 : ¬ ((q : Int) < q) := by omega
              have kc : ∀ i : Nat, wr.cell? ⟨w.heap.size + 1 + 1 + 1, i, none⟩ = _ := hR.cfg.cell
              have g1 : ∀ i : Nat, wr.cell? ⟨w.heap.size + 1, i, none⟩ = _ := hR.r1.cell
              have j1 := hR.r1.frozen
              have z1 := hR.r1.lt
              have g2 : ∀ i : Nat, wr.cell? ⟨w.heap.size + 1 + 1, i, none⟩ = _ := hR.r2.cell
              have j2 : ∀ i : Nat, wr.frozen? ⟨w.heap.size + 1 + 1, i, none⟩ = false := hR.r2.frozen
              have z2 : w.heap.size + 1 + 1 < wr.heap.size := hR.r2.lt
              have n1 : gx ≠ w.heap.size + 1 := hR.box.ne_ hR.r1 (by decide)
              have n2 : gx ≠ w.heap.size + 1 + 1 := hR.box.ne_ hR.r2 (by decide)
              have n3 : ¬ (w.heap.size + 1 = gx) := fun h => n1 h.symm
              have n4 : ¬ (w.heap.size + 1 + 1 = gx) := fun h => n2 h.symm
              clear hR hK hO3 HK HO3 HS12
              go_upto_region 31 with fail
              clear q2 ky fx zx f1 hlt hj
              go_region
              obtain ⟨F1, F2, F3, F4, F5, F6⟩ := HR.out.fin (.int .i64 p) (.int .i64 f) (.slice P1 ws.length p1) (.slice P2 cs.length p2) (.slice P3 (rAs q l10 e10).length p3) (.slice A7 (rAl q l10 e10).length c7) (.int .i64 (rAe q l10 e10))
              obtain ⟨VZ, hVZ⟩ : ∃ V, endW wr w.heap.size (.int .i64 p) (.int .i64 f) (.slice P1 ws.length p1) (.slice P2 cs.length p2) (.slice P3 (rAs q l10 e10).length p3) (.slice A7 (rAl q l10 e10).length c7) (.int .i64 (rAe q l10 e10)) = V := ⟨_, rfl⟩
              rw [hVZ] at F1 F2 F3 F4 F5 F6
              simp only [endW] at hVZ
              rw [hVZ]
              clear hVZ kc kx g1 g2 j1 j2 z1 z2
              have k1 := F1.cell
              have k2 := F2.cell
              have HF := Lib.hid (And.intro F3 (And.intro F4 (And.intro F5 F6)))
              clear F1 F2 F3 F4 F5 F6
              go_wp2_with fail
              obtain ⟨hp, hf, h3, h4, h5⟩ := HQ.out
              obtain ⟨h6, h7, h8⟩ := HQ2.out
              obtain ⟨h9, h10, h11⟩ := HQ3.out
              have D1 := rd1_eq h3 h4 h5
              have D2 : rd2 l e = (rCs m l6 e6, rCl m l6 e6, rCe m l6 e6) := by
                show rdC (rd1 l e).2.1 (rd1 l e).2.2 = _
                rw [D1]
                exact rdC_eq h6 h7 h8
              have D3 : rd3 l e = (rAs q l10 e10, rAl q l10 e10, rAe q l10 e10) := by
                show rdA (rd2 l e).2.1 (rd2 l e).2.2 = _
                rw [D2]
                exact rdA_eq h9 h10 h11
              have eC : rCfg l e = ⟨p, f, ws, cs, rAs q l10 e10⟩ := by
                show (⟨W.nxV l e 1, W.nxV (W.nxL l e 1) (W.nxE l e 1) 1, (rd1 l e).1, (rd2 l e).1, (rd3 l e).1⟩ : Cfg) = _
                rw [D1, D2, D3, hp, hf, ← HWs.out, ← HCs.out]
              have eL : rCfgL l e = rAl q l10 e10 := by show (rd3 l e).2.1 = _; rw [D3]
              have eE : rCfgE l e = rAe q l10 e10 := by show (rd3 l e).2.2 = _; rw [D3]
              obtain ⟨F3, F4, F5, F6⟩ := HF.out
              have hwb : WB (⟨p, f, ws, cs, rAs q l10 e10⟩ : Cfg) := fun k x hx => rWs_wb' n l3 e3 k x (by rw [HWs.out]; exact hx)
              refine bodyPost_ret (v := .tuple #[.agg #[.int .i64 p, .int .i64 f, .slice P1 ws.length p1, .slice P2 cs.length p2, .slice P3 (rAs q l10 e10).length p3], .agg #[.slice A7 (rAl q l10 e10).length c7, .int .i64 (rAe q l10 e10)]]) (by simp [results, Tryd.results66, go_sem, k1, k2]) rfl ?_
              rw [RcPost, eC, eL, eE]
              exact ⟨_, A7, c7, rfl, ⟨_, _, _, rfl, F3, F4, F5, hwb⟩, HR.out.rd.below F6, HR.out.hc, HR.out.hm, F6⟩
end Go.Proofs.YtfbbgoahipejlabDoor.T
