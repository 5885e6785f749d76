/- Ahead of the document's own 'Good': a config that is being made, in memory; append as a step of a region; windows that may be, one behind the other. -/
import Derived.Test.YtmfkapbllmfegaaNear
import Derived.Test.YtmfkapbllmfegaaClnP
import Derived.Test.YtmfkapbllmfegaaChkP
import Derived.OwnWalk
namespace Go.Proofs.Ytmfkapbllmfegaa.C04
open Go.RowKit Go.Proofs.Ytmfkapbllmfegaa.G

/-! ### append, as a step -/
theorem wp_app {P : Program} {t e : TypeId} {i0 : TypeInfo} {z : Value} {m by_ : Nat} (ht : P.underlying t = some (.slice e)) (hi : P.info? e = some i0) (hz0 : i0.zero = some z) (hz1 : i0.size = m) (hz2 : i0.bytes = by_) (hzm : z.cells.size = m) (hm : 0 < m)
    {o : Oper} {a : Act} {K : Act → World → Prop} {Q : Exit → Act → World → Prop} {w : World} (s x : Operand)
    (ho : o.op = .call { callee := .builtin .append, args := #[s, x], argTypes := #[t, t] })
    (B : Nat) (v : Value) (n : Nat) (xs : List Value) (hs : a.eval s = v) (hv : Own w B e m v n xs)
    (A : Option Addr) (k c : Nat) (news : List Value) (hx : a.eval x = .slice A k c) (hr : Row w A news) (hk : news.length = k * m) (h1 : ∀ u ∈ news, u.oneCell' = true)
    (hlen : n + k ≤ 1000000) (hby : by_ ≤ 100000000) (hB : B ≤ w.heap.size)
    (h : ∀ v' w', Own w' B e m v' (n + k) (xs ++ news) → Below B w w' → w.grownBy w' v.ownBlock → (v'.ownBlock = v.ownBlock ∨ v'.ownBlock = some w.heap.size) → K (a.put o.dst v') w') : o.wp P a w K Q := by
  obtain ⟨v', w', hrun, h2, h3, h5⟩ := run_app ht hi hz0 hz1 hz2 hzm hm w o.type B v n xs hv A k c news hr hk h1 hlen hby hB
  unfold Oper.wp execOp
  simp only [ho, resolve, invoke, builtin, Sem.run_bind, Sem.run_pure, Result.andThen_ok, List.map_toArray, List.map_cons, List.map_nil, hs, hx, hrun]
  exact h v' w' h2 ((Below.refl B w).grown h3 hB fun k hk => (World.ownsRow.lt hv k hk).1) h3 h5
theorem step_app {P : Program} {t e : TypeId} {i0 : TypeInfo} {z : Value} {m by_ : Nat} (ht : P.underlying t = some (.slice e)) (hi : P.info? e = some i0) (hz0 : i0.zero = some z) (hz1 : i0.size = m) (hz2 : i0.bytes = by_) (hzm : z.cells.size = m) (hm : 0 < m)
    {ops : Array Oper} {o : Oper} {a : Act} {K : Act → World → Prop} {Q : Exit → Act → World → Prop} {E : Prop} {w : World} (hgd : o.guard = none) (s x : Operand)
    (ho : o.op = .call { callee := .builtin .append, args := #[s, x], argTypes := #[t, t] })
    (B : Nat) (v : Value) (n : Nat) (xs : List Value) (hs : a.eval s = v) (hv : Own w B e m v n xs)
    (A : Option Addr) (k c : Nat) (news : List Value) (hx : a.eval x = .slice A k c) (hr : Row w A news) (hk : news.length = k * m) (h1 : ∀ u ∈ news, u.oneCell' = true)
    (hlen : n + k ≤ 1000000) (hby : by_ ≤ 100000000) (hB : B ≤ w.heap.size)
    (h : ∀ v' w', Own w' B e m v' (n + k) (xs ++ news) → Below B w w' → w.grownBy w' v.ownBlock → (v'.ownBlock = v.ownBlock ∨ v'.ownBlock = some w.heap.size) → K (a.put o.dst v') w') :
    if Region.wanted o (yielded ops a.tmps) = true then Oper.wp P o a w K Q else E := by
  rw [if_pos (by simp [Region.wanted, hgd])]
  exact wp_app ht hi hz0 hz1 hz2 hzm hm s x ho B v n xs hs hv A k c news hx hr hk h1 hlen hby hB h

/-! ### A config that is being made -/
def zcfg : Array Value := #[.int .i64 0, .int .i64 0, .slice none 0 0, .slice none 0 0, .slice none 0 0]
structure GS (w : World) (ci : Array Value) (P F : Int) (v1 v2 v3 : Value) (ws : List Win) (cs : List Chn) (ac : List Int) (W : World) : Prop where
  b0 : Blk W w.heap.size 66 ci
  b1 : Blk W (w.heap.size + 1) 66 zcfg
  b2 : Blk W (w.heap.size + 1 + 1) 66 #[.int .i64 P, .int .i64 F, v1, v2, v3]
  o1 : Own W w.heap.size 91 3 v1 ws.length (wvs ws)
  o2 : Own W w.heap.size 23 11 v2 cs.length (cvs cs)
  o3 : Own W w.heap.size 3 1 v3 ac.length (ivs ac)
  bl : Below w.heap.size w W
section
variable {w W W' : World} {ci : Array Value} {P F : Int} {v1 v2 v3 : Value} {ws : List Win} {cs : List Chn} {ac : List Int}
theorem GS.bel (h : GS w ci P F v1 v2 v3 ws cs ac W) (hb : Below W.heap.size W W') : GS w ci P F v1 v2 v3 ws cs ac W' :=
  ⟨h.b0.bel hb, h.b1.bel hb, h.b2.bel hb, h.o1.below hb, h.o2.below hb, h.o3.below hb, bt h.bl hb⟩
theorem GS.alloc (h : GS w ci P F v1 v2 v3 ws cs ac W) (o : Obj) : GS w ci P F v1 v2 v3 ws cs ac (W.alloc o) := h.bel (b01 _ _)
theorem GS.drew (h : GS w ci P F v1 v2 v3 ws cs ac W) : GS w ci P F v1 v2 v3 ws cs ac W.drew := ⟨h.b0, h.b1, h.b2, h.o1, h.o2, h.o3, h.bl.drew⟩
/-- A cell of the config's own struct is stored. -/
theorem GS.setF (h : GS w ci P F v1 v2 v3 ws cs ac W) (z : Int) : GS w ci P z v1 v2 v3 ws cs ac (W.setCell ⟨w.heap.size + 1 + 1, 1, none⟩ (.int .i64 z)) :=
  ⟨h.b0.far (p := ⟨w.heap.size + 1 + 1, 1, none⟩) (by simp; omega) _, h.b1.far (p := ⟨w.heap.size + 1 + 1, 1, none⟩) (by simp) _, by simpa using h.b2.set_ 1 (.int .i64 z), own_st h.o1 (own_off h.o1 h.b2 (by decide)) _ _, own_st h.o2 (own_off h.o2 h.b2 (by decide)) _ _, own_st h.o3 (own_off h.o3 h.b2 (by decide)) _ _, h.bl.setCell (by simp; omega) _⟩
theorem grown_blk {g : Nat} {t : TypeId} {c : Array Value} {v : Value} (h : Blk W g t c) (hg : W.grownBy W' v.ownBlock) (hn : ∀ g', v.ownBlock = some g' → g' ≠ g) : Blk W' g t c :=
  (hg.block g h.lt (fun e => hn g e.symm rfl)).trans h
theorem grown_own {B : Nat} {t t' : TypeId} {m m' n n' : Nat} {u v : Value} {xs ys : List Value} (h : Own W B t m u n xs) (hv : Own W B t' m' v n' ys) (hne : t ≠ t') (hg : W.grownBy W' v.ownBlock) : Own W' B t m u n xs :=
  h.grown hg (fun g hu e => by
    obtain ⟨_, c, hc⟩ := h.block_lt hu
    obtain ⟨_, c', hc'⟩ := hv.block_lt e.symm
    exact hc.ne_ hc' hne rfl)
/-- A window has been appended, the list not yet stored. -/
theorem GS.app1 (h : GS w ci P F v1 v2 v3 ws cs ac W) {v' : Value} {x : Win} (ho : Own W' w.heap.size 91 3 v' (ws.length + 1) (wvs ws ++ x.cells)) (hb : Below w.heap.size W W') (hg : W.grownBy W' v1.ownBlock) : GS w ci P F v' v2 v3 (ws ++ [x]) cs ac (W'.setCell ⟨w.heap.size + 1 + 1, 2, none⟩ v') := by
  have k0 := grown_blk h.b0 hg (own_off h.o1 h.b0 (by decide))
  have k1 := grown_blk h.b1 hg (own_off h.o1 h.b1 (by decide))
  have k2 := grown_blk h.b2 hg (own_off h.o1 h.b2 (by decide))
  have p2 := grown_own h.o2 h.o1 (by decide) hg
  have p3 := grown_own h.o3 h.o1 (by decide) hg
  have p1 : Own W' w.heap.size 91 3 v' (ws ++ [x]).length (wvs (ws ++ [x])) := by rw [wvs_app, List.length_append]; simpa [wvs] using ho
  exact ⟨k0.far (p := ⟨w.heap.size + 1 + 1, 2, none⟩) (by simp; omega) _, k1.far (p := ⟨w.heap.size + 1 + 1, 2, none⟩) (by simp) _, by simpa using k2.set_ 2 v', own_st p1 (own_off p1 k2 (by decide)) _ _, own_st p2 (own_off p2 k2 (by decide)) _ _, own_st p3 (own_off p3 k2 (by decide)) _ _, (h.bl.trans hb).setCell (by simp; omega) _⟩
theorem GS.app2 (h : GS w ci P F v1 v2 v3 ws cs ac W) {v' : Value} {x : Chn} (ho : Own W' w.heap.size 23 11 v' (cs.length + 1) (cvs cs ++ x.cells)) (hb : Below w.heap.size W W') (hg : W.grownBy W' v2.ownBlock) : GS w ci P F v1 v' v3 ws (cs ++ [x]) ac (W'.setCell ⟨w.heap.size + 1 + 1, 3, none⟩ v') := by
  have k0 := grown_blk h.b0 hg (own_off h.o2 h.b0 (by decide))
  have k1 := grown_blk h.b1 hg (own_off h.o2 h.b1 (by decide))
  have k2 := grown_blk h.b2 hg (own_off h.o2 h.b2 (by decide))
  have p1 := grown_own h.o1 h.o2 (by decide) hg
  have p3 := grown_own h.o3 h.o2 (by decide) hg
  have p2 : Own W' w.heap.size 23 11 v' (cs ++ [x]).length (cvs (cs ++ [x])) := by rw [cvs_app, List.length_append]; simpa [cvs] using ho
  exact ⟨k0.far (p := ⟨w.heap.size + 1 + 1, 3, none⟩) (by simp; omega) _, k1.far (p := ⟨w.heap.size + 1 + 1, 3, none⟩) (by simp) _, by simpa using k2.set_ 3 v', own_st p1 (own_off p1 k2 (by decide)) _ _, own_st p2 (own_off p2 k2 (by decide)) _ _, own_st p3 (own_off p3 k2 (by decide)) _ _, (h.bl.trans hb).setCell (by simp; omega) _⟩
theorem GS.app3 (h : GS w ci P F v1 v2 v3 ws cs ac W) {v' : Value} {x : Int} (ho : Own W' w.heap.size 3 1 v' (ac.length + 1) (ivs ac ++ [.int .i64 x])) (hb : Below w.heap.size W W') (hg : W.grownBy W' v3.ownBlock) : GS w ci P F v1 v2 v' ws cs (ac ++ [x]) (W'.setCell ⟨w.heap.size + 1 + 1, 4, none⟩ v') := by
  have k0 := grown_blk h.b0 hg (own_off h.o3 h.b0 (by decide))
  have k1 := grown_blk h.b1 hg (own_off h.o3 h.b1 (by decide))
  have k2 := grown_blk h.b2 hg (own_off h.o3 h.b2 (by decide))
  have p1 := grown_own h.o1 h.o3 (by decide) hg
  have p2 := grown_own h.o2 h.o3 (by decide) hg
  have p3 : Own W' w.heap.size 3 1 v' (ac ++ [x]).length (ivs (ac ++ [x])) := by rw [ivs_app, List.length_append]; simpa [ivs, iv] using ho
  exact ⟨k0.far (p := ⟨w.heap.size + 1 + 1, 4, none⟩) (by simp; omega) _, k1.far (p := ⟨w.heap.size + 1 + 1, 4, none⟩) (by simp) _, by simpa using k2.set_ 4 v', own_st p1 (own_off p1 k2 (by decide)) _ _, own_st p2 (own_off p2 k2 (by decide)) _ _, own_st p3 (own_off p3 k2 (by decide)) _ _, (h.bl.trans hb).setCell (by simp; omega) _⟩
end

/-- 'out.Channels = append(out.Channels, x)', the append as a step. -/
theorem GS.step2 {w W : World} {ci : Array Value} {P F : Int} {v1 v3 : Value} {ws : List Win} {cs : List Chn} {ac : List Int} {P2 : Option Addr} {p2 : Nat} (h : GS w ci P F v1 (.slice P2 cs.length p2) v3 ws cs ac W) (y : Chn) {g : Nat} (hg : W.heap.size = g)
    {ops : Array Oper} {o : Oper} {a : Act} {K : Act → World → Prop} {Q : Exit → Act → World → Prop} {E : Prop} (hgd : o.guard = none) (s x : Operand)
    (ho : o.op = .call { callee := .builtin .append, args := #[s, x], argTypes := #[64, 64] }) (hs : a.eval s = .slice P2 cs.length p2) (hx : a.eval x = .slice (some ⟨g, 0, none⟩) 1 1) (hl : cs.length ≤ 100)
    (hK : ∀ (P3 : Option Addr) (p3 : Nat) (W' : World), Blk W' w.heap.size 66 ci → Blk W' (w.heap.size + 1 + 1) 66 #[.int .i64 P, .int .i64 F, v1, .slice P2 cs.length p2, v3] → Below w.heap.size w W' → GS w ci P F v1 (.slice P3 (cs.length + 1) p3) v3 ws (cs ++ [y]) ac (W'.setCell ⟨w.heap.size + 1 + 1, 3, none⟩ (.slice P3 (cs.length + 1) p3)) → K (a.put o.dst (.slice P3 (cs.length + 1) p3)) W') :
    if Region.wanted o (yielded ops a.tmps) = true then Oper.wp Try.prog o a (W.alloc (.cells #[.int .i64 y.k, .int .i64 y.f, .int .i64 y.t, .int .i64 y.w, .int .i64 y.r, .int .i64 y.la, .int .i64 y.d, .int .i64 y.h, .int .i64 y.li, .int .i64 y.ra, .int .i64 y.c] 23)) K Q else E := by
  obtain ⟨i0, hi, hz0, hz1, hz2⟩ := info_parts infoC
  subst hg
  have GA := h.alloc (.cells #[.int .i64 y.k, .int .i64 y.f, .int .i64 y.t, .int .i64 y.w, .int .i64 y.r, .int .i64 y.la, .int .i64 y.d, .int .i64 y.h, .int .i64 y.li, .int .i64 y.ra, .int .i64 y.c] 23)
  refine step_app Try.underlying64 hi hz0 hz1 hz2 rfl (by omega) hgd s x ho w.heap.size (.slice P2 cs.length p2) cs.length (cvs cs) hs GA.o2 (some ⟨W.heap.size, 0, none⟩) 1 1 y.cells hx (Row.of_blk (Blk.new W 23 _) (fun j u hj => by simpa [Chn.cells] using hj)) rfl (by simpa [cvs] using cvs_one [y]) (by omega) (by omega) GA.bl.size ?_
  intro v' w'' hown hbl hgrow _
  obtain ⟨P3, p3, hv⟩ := own_slice hown
  subst hv
  exact hK P3 p3 w'' (grown_blk GA.b0 hgrow (own_off GA.o2 GA.b0 (by decide))) (grown_blk GA.b2 hgrow (own_off GA.o2 GA.b2 (by decide))) (GA.bl.trans hbl) (GA.app2 hown hbl hgrow)

/-! ### Windows that may be, one behind the other -/
def wend : Int → List Win → Int
  | e, [] => e
  | _, x :: r => wend (x.s + x.l) r
theorem wend_snoc (x : Win) : ∀ (ws : List Win) (e : Int), wend e (ws ++ [x]) = x.s + x.l
  | [], _ => rfl
  | _ :: r, _ => wend_snoc x r _
theorem wbad_snoc {P F : Int} {x : Win} : ∀ (ws : List Win) (i : Nat) (e : Int), wbad P F i e ws = none → wok P F (wend e ws) x = true → wbad P F i e (ws ++ [x]) = none
  | [], i, e, _, hx => by simp only [List.nil_append, wbad]; rw [if_pos (by simpa [wend] using hx)]
  | y :: r, i, e, h, hx => by
    rw [List.cons_append, wbad]
    rw [wbad] at h
    by_cases hy : wok P F e y = true
    · rw [if_pos hy] at h ⊢
      exact wbad_snoc r _ _ h hx
    · rw [if_neg hy] at h; cases h
theorem cbad_snoc {P : Int} {x : Chn} : ∀ (cs : List Chn) (i : Nat), cbad P i cs = none → rgt P x = true → cbad P i (cs ++ [x]) = none
  | [], i, _, hx => by simp only [List.nil_append, cbad]; rw [if_pos hx]
  | y :: r, i, h, hx => by
    rw [List.cons_append, cbad]
    rw [cbad] at h
    by_cases hy : rgt P y = true
    · rw [if_pos hy] at h ⊢
      exact cbad_snoc r _ h hx
    · rw [if_neg hy] at h; cases h
theorem abad_snoc {x : Int} : ∀ (ac : List Int) (i : Nat), abad i ac = none → wth x 0 2 = true → abad i (ac ++ [x]) = none
  | [], i, _, hx => by simp only [List.nil_append, abad]; rw [if_pos hx]
  | y :: r, i, h, hx => by
    rw [List.cons_append, abad]
    rw [abad] at h
    by_cases hy : wth y 0 2 = true
    · rw [if_pos hy] at h ⊢
      exact abad_snoc r _ h hx
    · rw [if_neg hy] at h; cases h
end Go.Proofs.Ytmfkapbllmfegaa.C04
