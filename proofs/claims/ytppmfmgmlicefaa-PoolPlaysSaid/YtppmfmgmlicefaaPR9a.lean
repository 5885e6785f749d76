/- The document's own pool as it lies in memory; its own copy: contracts. -/
import Derived.Test.YtppmfmgmlicefaaPTake
import Derived.Deep.RegionLaw
namespace Go.Proofs.Ytppmfmgmlicefaa.P9
open Go.RowKit Go.Proofs.Ytppmfmgmlicefaa.G
set_option maxRecDepth 100000
variable {w w' : World} {b n : Nat} {s : SS} {t : Nat → Int} {c : Int}
theorem infoB : (Try.prog.info? 4).map (fun i => (i.zero, i.size, i.bytes)) = some (some (.bool false), 1, 1) := by kernel_rfl
def bl (s : SS) (n : Nat) : List Value := (List.range n).map fun j => .bool (B1 (s j))
def ol (s : SS) (n : Nat) : List Value := (List.range n).map fun j => .int .i64 (V1 (s j))
def tl (t : Nat → Int) (n : Nat) : List Value := (List.range n).map fun j => .int .i64 (t j)
theorem bl_len (s : SS) (n : Nat) : (bl s n).length = n := by simp [bl]
theorem ol_len (s : SS) (n : Nat) : (ol s n).length = n := by simp [ol]
theorem tl_len (t : Nat → Int) (n : Nat) : (tl t n).length = n := by simp [tl]
theorem bl_at (s : SS) {n j : Nat} (h : j < n) : (bl s n)[j]? = some (.bool (B1 (s j))) := by simp [bl, h]
theorem ol_at (s : SS) {n j : Nat} (h : j < n) : (ol s n)[j]? = some (.int .i64 (V1 (s j))) := by simp [ol, h]
theorem tl_at (t : Nat → Int) {n j : Nat} (h : j < n) : (tl t n)[j]? = some (.int .i64 (t j)) := by simp [tl, h]
theorem one_bl (s : SS) (n : Nat) : ∀ u ∈ bl s n, u.oneCell' = true := by
  intro u hu; obtain ⟨x, _, rfl⟩ := List.mem_map.1 hu; rfl
theorem one_ol (s : SS) (n : Nat) : ∀ u ∈ ol s n, u.oneCell' = true := by
  intro u hu; obtain ⟨x, _, rfl⟩ := List.mem_map.1 hu; rfl
theorem one_tl (t : Nat → Int) (n : Nat) : ∀ u ∈ tl t n, u.oneCell' = true := by
  intro u hu; obtain ⟨x, _, rfl⟩ := List.mem_map.1 hu; rfl
/-- The document's pool: three lists. -/
structure RS (w : World) (A1 A2 A3 : Option Addr) (n : Nat) (s : SS) (t : Nat → Int) : Prop where
  r1 : Row w A1 (bl s n)
  r2 : Row w A2 (ol s n)
  r3 : Row w A3 (tl t n)
  y1 : ∀ bb o, A1 = some ⟨bb, o, none⟩ → ∃ cur, Blk w bb 4 cur
  y2 : ∀ bb o, A2 = some ⟨bb, o, none⟩ → ∃ cur, Blk w bb 3 cur
  y3 : ∀ bb o, A3 = some ⟨bb, o, none⟩ → ∃ cur, Blk w bb 3 cur
theorem blk_ex {A : Option Addr} {ty : TypeId} (h : ∀ bb o, A = some ⟨bb, o, none⟩ → ∃ cur, Blk w bb ty cur) (hb : Below w.heap.size w w') : ∀ bb o, A = some ⟨bb, o, none⟩ → ∃ cur, Blk w' bb ty cur := fun bb o e => by
  obtain ⟨cur, h1⟩ := h bb o e; exact ⟨cur, h1.bel hb⟩
theorem RS.below {A1 A2 A3 : Option Addr} (h : RS w A1 A2 A3 n s t) (hb : Below w.heap.size w w') : RS w' A1 A2 A3 n s t := ⟨h.r1.below hb, h.r2.below hb, h.r3.below hb, blk_ex h.y1 hb, blk_ex h.y2 hb, blk_ex h.y3 hb⟩
theorem blk_far {A : Option Addr} {ty ty' : TypeId} {g : Nat} {cs : Array Value} (h : ∀ bb o, A = some ⟨bb, o, none⟩ → ∃ cur, Blk w bb ty cur) (hg : Blk w g ty' cs) (hne : ty ≠ ty') (i : Nat) (u : Value) : ∀ bb o, A = some ⟨bb, o, none⟩ → ∃ cur, Blk (w.setCell ⟨g, i, none⟩ u) bb ty cur := fun bb o e => by
  obtain ⟨cur, h1⟩ := h bb o e; exact ⟨cur, h1.far (p := ⟨g, i, none⟩) (h1.ne_ hg hne) u⟩
/-- A block of another type is stored to: the lists are as they were. -/
theorem RS.far {A1 A2 A3 : Option Addr} (h : RS w A1 A2 A3 n s t) {g : Nat} {cs : Array Value} (hg : Blk w g 29 cs) (i : Nat) (u : Value) : RS (w.setCell ⟨g, i, none⟩ u) A1 A2 A3 n s t :=
  ⟨h.r1.far (fun bb o e => by obtain ⟨cur, h1⟩ := h.y1 bb o e; exact h1.ne_ hg (by decide)) u, h.r2.far (fun bb o e => by obtain ⟨cur, h1⟩ := h.y2 bb o e; exact h1.ne_ hg (by decide)) u, h.r3.far (fun bb o e => by obtain ⟨cur, h1⟩ := h.y3 bb o e; exact h1.ne_ hg (by decide)) u,
   blk_far h.y1 hg (by decide) i u, blk_far h.y2 hg (by decide) i u, blk_far h.y3 hg (by decide) i u⟩
def Rf (w : World) (v : Value) (n : Nat) (s : SS) (t : Nat → Int) : Prop := ∃ A1 A2 A3 c1 c2 c3, v = .agg #[.slice A1 n c1, .slice A2 n c2, .slice A3 n c3] ∧ RS w A1 A2 A3 n s t
theorem Rf.below {v : Value} (h : Rf w v n s t) (hb : Below w.heap.size w w') : Rf w' v n s t := by
  obtain ⟨A1, A2, A3, c1, c2, c3, e, h⟩ := h; exact ⟨A1, A2, A3, c1, c2, c3, e, h.below hb⟩
theorem row_at {A : Option Addr} {xs : List Value} (h : Row w A xs) {k : Nat} {u : Value} (hk : xs[k]? = some u) : ∃ bb o : Nat, A = some ⟨bb, o, none⟩ ∧ bb < w.heap.size ∧ w.cell? ⟨bb, o + k, none⟩ = some u := by
  have hlt := (List.getElem?_eq_some_iff.1 hk).1
  obtain ⟨bb, o, e, hb, hc⟩ := h (by omega)
  exact ⟨bb, o, e, hb, hc k _ hk⟩
/-- The three lists in memory of their own. -/
structure O3 (w : World) (B : Nat) (A1 : Option Addr) (c1 : Nat) (A2 : Option Addr) (c2 : Nat) (A3 : Option Addr) (c3 n : Nat) (xs ys zs : List Value) : Prop where
  o1 : Own w B 4 1 (.slice A1 n c1) n xs
  o2 : Own w B 3 1 (.slice A2 n c2) n ys
  o3 : Own w B 3 1 (.slice A3 n c3) n zs
  ne : ∀ g, (Value.slice A2 n c2).ownBlock = some g → (Value.slice A3 n c3).ownBlock ≠ some g
def OwnPost (n : Nat) (s : SS) (t : Nat → Int) (w : World) (e : Ending) (w' : World) : Prop :=
  ∃ A1 A2 A3 c1 c2 c3, e = .returned (.agg #[.slice A1 n c1, .slice A2 n c2, .slice A3 n c3]) ∧ O3 w' w.heap.size A1 c1 A2 c2 A3 c3 n (bl s n) (ol s n) (tl t n) ∧ Below w.heap.size w w'

/-! ### append onto nothing, as a step of a region -/
theorem wp_app {P : Program} {t e : TypeId} {i0 : TypeInfo} {z : Value} {m by_ : Nat} (ht : P.underlying t = some (.slice e)) (hi : P.info? e = some i0) (hz0 : i0.zero = some z) (hz1 : i0.size = m) (hz2 : i0.bytes = by_) (hzm : z.cells.size = m) (hm : 0 < m)
    {o : Oper} {a : Act} {K : Act → World → Prop} {Q : Exit → Act → World → Prop} {w : World} (s x : Operand)
    (ho : o.op = .call { callee := .builtin .append, args := #[s, x], argTypes := #[t, t] })
    (B : Nat) (v : Value) (n : Nat) (xs : List Value) (hs : a.eval s = v) (hv : Own w B e m v n xs)
    (A : Option Addr) (k c : Nat) (news : List Value) (hx : a.eval x = .slice A k c) (hr : Row w A news) (hk : news.length = k * m) (h1 : ∀ u ∈ news, u.oneCell' = true)
    (hlen : n + k ≤ 1000000) (hby : by_ ≤ 100000000) (hB : B ≤ w.heap.size)
    (h : ∀ v' w', Own w' B e m v' (n + k) (xs ++ news) → Below B w w' → w.grownBy w' v.ownBlock → (v'.ownBlock = v.ownBlock ∨ v'.ownBlock = some w.heap.size) → K (a.put o.dst v') w') : o.wp P a w K Q := by
  obtain ⟨v', w', hrun, h2, h3, h5⟩ := run_app ht hi hz0 hz1 hz2 hzm hm w o.type B v n xs hv A k c news hr hk h1 hlen hby hB
  unfold Oper.wp execOp
  simp only [ho, resolve, invoke, builtin, Sem.run_bind, Sem.run_pure, Result.andThen_ok, List.map_toArray, List.map_cons, List.map_nil, hs, hx, hrun]
  exact h v' w' h2 ((Below.refl B w).grown h3 hB fun k hk => (World.ownsRow.lt hv k hk).1) h3 h5
theorem step_nil {t e : TypeId} {i0 : TypeInfo} {z : Value} {by_ : Nat} (ht : Try.prog.underlying t = some (.slice e)) (hi : Try.prog.info? e = some i0) (hz0 : i0.zero = some z) (hz1 : i0.size = 1) (hz2 : i0.bytes = by_) (hzm : z.cells.size = 1) (hby : by_ ≤ 100000000)
    {ops : Array Oper} {o : Oper} {a : Act} {K : Act → World → Prop} {Q : Exit → Act → World → Prop} {E : Prop} {w : World} (hgd : o.guard = none) (s x : Operand)
    (ho : o.op = .call { callee := .builtin .append, args := #[s, x], argTypes := #[t, t] }) (hs : a.eval s = .slice none 0 0)
    {A : Option Addr} {k c : Nat} {news : List Value} (hx : a.eval x = .slice A k c) (hr : Row w A news) (hk : news.length = k) (h1 : ∀ u ∈ news, u.oneCell' = true) (hlen : k ≤ 1000)
    (h : ∀ A' c' w', Own w' w.heap.size e 1 (.slice A' k c') k news → Below w.heap.size w w' → K (a.put o.dst (.slice A' k c')) w') :
    if Region.wanted o (yielded ops a.tmps) = true then Oper.wp Try.prog o a w K Q else E := by
  rw [if_pos (by simp [Region.wanted, hgd])]
  refine wp_app ht hi hz0 hz1 hz2 hzm (by decide) s x ho w.heap.size _ 0 [] hs (Own.nil_ _ _ _ _) A k c news hx hr (by omega) h1 (by omega) hby (Nat.le_refl _) fun v' w' h2 h3 _ _ => ?_
  have h2' : Own w' w.heap.size e 1 v' k news := by simpa using h2
  obtain ⟨A', c', rfl, _⟩ := Own.row h2'
  exact h A' c' w' h2' h3
theorem ne_old {B te m q te' m' q' : Nat} {v v' : Value} {xs xs' : List Value} (h : Own w B te m v q xs) (h' : Own w' w.heap.size te' m' v' q' xs') : ∀ g, v.ownBlock = some g → v'.ownBlock ≠ some g := fun g e e' => by
  obtain ⟨_, cur, hb⟩ := Own.block_lt h e
  have := (Own.block_lt h' e').1
  have := hb.lt
  omega
/-- Three cells of a block of the document's pools are stored: the lists are as they were. -/
theorem o3_fin {V : World} {B g n : Nat} {A1 A2 A3 : Option Addr} {c1 c2 c3 : Nat} {xs ys zs : List Value} {u1 u2 u3 v1 v2 v3 : Value} (h1 : Own V B 4 1 (.slice A1 n c1) n xs) (h2 : Own V B 3 1 (.slice A2 n c2) n ys) (h3 : Own V B 3 1 (.slice A3 n c3) n zs)
    (hne : ∀ g, (Value.slice A2 n c2).ownBlock = some g → (Value.slice A3 n c3).ownBlock ≠ some g) (hb : Blk V g 29 #[u1, u2, u3]) :
    O3 (((V.setCell ⟨g, 0, none⟩ v1).setCell ⟨g, 1, none⟩ v2).setCell ⟨g, 2, none⟩ v3) B A1 c1 A2 c2 A3 c3 n xs ys zs ∧ Blk (((V.setCell ⟨g, 0, none⟩ v1).setCell ⟨g, 1, none⟩ v2).setCell ⟨g, 2, none⟩ v3) g 29 #[v1, v2, v3] := by
  have b1 := hb.set_ 0 v1
  have b2 := b1.set_ 1 v2
  have b3 := b2.set_ 2 v3
  exact ⟨⟨((h1.far hb (by decide) 0 v1).far b1 (by decide) 1 v2).far b2 (by decide) 2 v3, ((h2.far hb (by decide) 0 v1).far b1 (by decide) 1 v2).far b2 (by decide) 2 v3, ((h3.far hb (by decide) 0 v1).far b1 (by decide) 1 v2).far b2 (by decide) 2 v3, hne⟩, b3⟩
set_option maxHeartbeats 4000000 in
theorem own_any {A1 A2 A3 : Option Addr} {c1 c2 c3 : Nat} (h : RS w A1 A2 A3 n s t) (hn : n ≤ 64) : Calls Try.prog 28 #[.agg #[.slice A1 n c1, .slice A2 n c2, .slice A3 n c3]] w (OwnPost n s t w) := by
  obtain ⟨i0, hi, hz0, hz1, hz2⟩ := info_parts info3
  obtain ⟨j0, hj, hy0, hy1, hy2⟩ := info_parts infoB
  have W1 := b01 w (.cells #[.slice A1 n c1, .slice A2 n c2, .slice A3 n c3] 29)
  have W2 : Below w.heap.size w ((w.alloc (.cells #[.slice A1 n c1, .slice A2 n c2, .slice A3 n c3] 29)).alloc (.cells #[.slice none 0 0, .slice none 0 0, .slice none 0 0] 29)) := ba1 W1 _
  have HW2 := Lib.hid W2
  have HRS := Lib.hid (h.below W2)
  have Bx : Blk ((w.alloc (.cells #[.slice A1 n c1, .slice A2 n c2, .slice A3 n c3] 29)).alloc (.cells #[.slice none 0 0, .slice none 0 0, .slice none 0 0] 29)) w.heap.size 29 #[.slice A1 n c1, .slice A2 n c2, .slice A3 n c3] := (Blk.new w _ _).alloc _
  have Bz : Blk ((w.alloc (.cells #[.slice A1 n c1, .slice A2 n c2, .slice A3 n c3] 29)).alloc (.cells #[.slice none 0 0, .slice none 0 0, .slice none 0 0] 29)) (w.heap.size + 1) 29 #[.slice none 0 0, .slice none 0 0, .slice none 0 0] := by
    have := Blk.new (w.alloc (.cells #[.slice A1 n c1, .slice A2 n c2, .slice A3 n c3] 29)) 29 #[.slice none 0 0, .slice none 0 0, .slice none 0 0]
    simpa using this
  go_enter Try.func28, Try.ntmps28
  go_upto_region 4 with fail
  generalize (w.alloc (.cells #[.slice A1 n c1, .slice A2 n c2, .slice A3 n c3] 29)).alloc (.cells #[.slice none 0 0, .slice none 0 0, .slice none 0 0] 29) = X at *
  have HBX : Hid (∀ V, Below X.heap.size X V → ∀ i, V.cell? ⟨w.heap.size, i, none⟩ = (#[.slice A1 n c1, .slice A2 n c2, .slice A3 n c3] : Array Value)[i]?) := fun V hV => (Bx.bel hV).cell
  have HBZ : Hid (∀ V, Below X.heap.size X V → Blk V (w.heap.size + 1) 29 #[.slice none 0 0, .slice none 0 0, .slice none 0 0]) := fun V hV => Bz.bel hV
  have HST : Hid (∀ V a1 a2 a3, Below X.heap.size X V → ∀ i, (((V.setCell ⟨w.heap.size + 1, 0, none⟩ a1).setCell ⟨w.heap.size + 1, 1, none⟩ a2).setCell ⟨w.heap.size + 1, 2, none⟩ a3).cell? ⟨w.heap.size, i, none⟩ = (#[.slice A1 n c1, .slice A2 n c2, .slice A3 n c3] : Array Value)[i]?) := fun V a1 a2 a3 hV =>
    ((((Bx.bel hV).far (p := ⟨w.heap.size + 1, 0, none⟩) (by show w.heap.size ≠ w.heap.size + 1; omega) a1).far (p := ⟨w.heap.size + 1, 1, none⟩) (by show w.heap.size ≠ w.heap.size + 1; omega) a2).far (p := ⟨w.heap.size + 1, 2, none⟩) (by show w.heap.size ≠ w.heap.size + 1; omega) a3).cell
  have HR1 : Hid (∀ V, Below X.heap.size X V → Row V A1 (bl s n)) := fun V hV => HRS.out.r1.below hV
  have HR2 : Hid (∀ V, Below X.heap.size X V → Row V A2 (ol s n)) := fun V hV => HRS.out.r2.below hV
  have HR3 : Hid (∀ V, Below X.heap.size X V → Row V A3 (tl t n)) := fun V hV => HRS.out.r3.below hV
  have HL1 := Lib.hid (bl_len s n)
  have HL2 := Lib.hid (ol_len s n)
  have HL3 := Lib.hid (tl_len t n)
  have HN : Hid (n ≤ 1000) := by show n ≤ 1000; omega
  have S0 : Below X.heap.size X X.drew := (Below.refl _ _).drew
  have k2 := Bz.cell
  have f2 := Bz.frozen
  clear W1 W2 HRS Bx Bz h
  go_region_held3 (fun V => ∀ i, V.cell? ⟨w.heap.size, i, none⟩ = (#[.slice A1 n c1, .slice A2 n c2, .slice A3 n c3] : Array Value)[i]?)
    (first | (with_reducible exact HBX.out _ S0) | (with_reducible exact HST.out _ _ _ _ S0) | fail)
    (first
      | ((refine step_nil Try.underlying26 hj hy0 hy1 hy2 rfl (by omega) (by rfl) _ _ (by rfl) (by rfl) (by rfl) (HR1.out _ S0) HL1.out (one_bl _ _) HN.out ?_); intro B1' d1' w9 ho1 hb1; have HO1 := Lib.hid (Own.less ho1 (Nat.le_trans HW2.out.size S0.size)); (try have HO2 := Lib.hid (Own.below HO2.out hb1)); (try have HO3 := Lib.hid (Own.below HO3.out hb1)); have S0 := bt S0 hb1; have k2 := (HBZ.out _ S0).cell; have f2 := (HBZ.out _ S0).frozen; clear ho1)
      | ((refine step_nil Try.underlying27 hi hz0 hz1 hz2 rfl (by omega) (by rfl) _ _ (by rfl) (by rfl) (by rfl) (HR2.out _ S0) HL2.out (one_ol _ _) HN.out ?_); intro B2' d2' w9 ho2 hb2; (try have HNE := Lib.hid (ne_old HO3.out ho2)); have HO2 := Lib.hid (Own.less ho2 (Nat.le_trans HW2.out.size S0.size)); (try have HO1 := Lib.hid (Own.below HO1.out hb2)); (try have HO3 := Lib.hid (Own.below HO3.out hb2)); have S0 := bt S0 hb2; have k2 := (HBZ.out _ S0).cell; have f2 := (HBZ.out _ S0).frozen; clear ho2)
      | ((refine step_nil Try.underlying27 hi hz0 hz1 hz2 rfl (by omega) (by rfl) _ _ (by rfl) (by rfl) (by rfl) (HR3.out _ S0) HL3.out (one_tl _ _) HN.out ?_); intro B3' d3' w9 ho3 hb3; (try have HNF := Lib.hid (ne_old HO2.out ho3)); have HO3 := Lib.hid (Own.less ho3 (Nat.le_trans HW2.out.size S0.size)); (try have HO1 := Lib.hid (Own.below HO1.out hb3)); (try have HO2 := Lib.hid (Own.below HO2.out hb3)); have S0 := bt S0 hb3; have k2 := (HBZ.out _ S0).cell; have f2 := (HBZ.out _ S0).frozen; clear ho3)
      | fail)
  have HE := Lib.hid (o3_fin (v1 := .slice B1' n d1') (v2 := .slice B2' n d2') (v3 := .slice B3' n d3') HO1.out HO2.out HO3.out HNF.out (HBZ.out _ S0))
  have HQ : Hid (Below w.heap.size w (((w9.setCell ⟨w.heap.size + 1, 0, none⟩ (.slice B1' n d1')).setCell ⟨w.heap.size + 1, 1, none⟩ (.slice B2' n d2')).setCell ⟨w.heap.size + 1, 2, none⟩ (.slice B3' n d3'))) :=
    (((bt HW2.out S0).setCell (by show w.heap.size ≤ w.heap.size + 1; omega) _).setCell (by show w.heap.size ≤ w.heap.size + 1; omega) _).setCell (by show w.heap.size ≤ w.heap.size + 1; omega) _
  have k9 := HE.out.2.cell
  clear k2 f2
  go_wp2_with fail
  exact bodyPost_ret (v := .agg #[.slice B1' n d1', .slice B2' n d2', .slice B3' n d3']) (by simp [results, Try.results28, go_sem, k9]) rfl ⟨B1', B2', B3', d1', d2', d3', rfl, HE.out.1, HQ.out⟩
end Go.Proofs.Ytppmfmgmlicefaa.P9
