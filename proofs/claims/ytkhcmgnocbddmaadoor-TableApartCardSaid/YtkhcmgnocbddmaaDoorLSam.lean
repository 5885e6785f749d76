/- At the landed commit, for any two configs (the first ten of each list): whether they are the same is what the document says, and a clone is the same and shares no memory. Conditions: the library's variable errors.errorType holds what the program's text lays. -/
import Derived.Test.YtkhcmgnocbddmaaDoorFew
import Derived.Test.YtkhcmgnocbddmaaDoorRSam
import Derived.Test.YtkhcmgnocbddmaaDoorCln
import Derived.Deep.DeepCutAuto
import Derived.Deep.CutRange
namespace Go.Proofs.YtkhcmgnocbddmaaDoor.configSame
open Go.RowKit Go.Proofs.YtkhcmgnocbddmaaDoor.G Go.Proofs.YtkhcmgnocbddmaaDoor.C04
attribute [local go_sem ↓] Go.wp_at_zero Go.wp_at_succ

/-- Behind 'a, b = few(a), few(b)': the two boxes. -/
def Cut3 (w : World) (a b : Cfg) (W : World) : Prop := ∃ (x2 x3 x4 y2 y3 y4 : Value),
  Blk W w.heap.size 50 #[.int .i64 a.P, .int .i64 a.F, x2, x3, x4] ∧
  Blk W (w.heap.size + 1) 50 #[.int .i64 b.P, .int .i64 b.F, y2, y3, y4] ∧
  CfgAt w (.agg #[.int .i64 a.P, .int .i64 a.F, x2, x3, x4]) a ∧ CfgAt w (.agg #[.int .i64 b.P, .int .i64 b.F, y2, y3, y4]) b ∧ Below w.heap.size w W
theorem blk5 {W : World} {g : Nat} {t : TypeId} {o0 o1 o2 o3 o4 : Value} (h : Blk W g t #[o0, o1, o2, o3, o4]) (n0 n1 n2 n3 n4 : Value) :
    Blk (((((W.setCell ⟨g, 0, none⟩ n0).setCell ⟨g, 1, none⟩ n1).setCell ⟨g, 2, none⟩ n2).setCell ⟨g, 3, none⟩ n3).setCell ⟨g, 4, none⟩ n4) g t #[n0, n1, n2, n3, n4] := by
  simpa using ((((h.set_ 0 n0).set_ 1 n1).set_ 2 n2).set_ 3 n3).set_ 4 n4
theorem far5 {W : World} {k g : Nat} {t : TypeId} {cs : Array Value} (h : Blk W k t cs) (hk : k ≠ g) (n0 n1 n2 n3 n4 : Value) :
    Blk (((((W.setCell ⟨g, 0, none⟩ n0).setCell ⟨g, 1, none⟩ n1).setCell ⟨g, 2, none⟩ n2).setCell ⟨g, 3, none⟩ n3).setCell ⟨g, 4, none⟩ n4) k t cs :=
  ((((h.far hk n0).far hk n1).far hk n2).far hk n3).far hk n4
theorem below5 {w W : World} {g : Nat} (h : Below w.heap.size w W) (hg : w.heap.size ≤ g) (n0 n1 n2 n3 n4 : Value) :
    Below w.heap.size w (((((W.setCell ⟨g, 0, none⟩ n0).setCell ⟨g, 1, none⟩ n1).setCell ⟨g, 2, none⟩ n2).setCell ⟨g, 3, none⟩ n3).setCell ⟨g, 4, none⟩ n4) :=
  ((((h.setCell hg n0).setCell hg n1).setCell hg n2).setCell hg n3).setCell hg n4
theorem cut3_mk {w W : World} {a b : Cfg} {o0 o1 o2 o3 o4 r0 r1 r2 r3 r4 x2 x3 x4 y2 y3 y4 : Value} (h0 : Blk W w.heap.size 50 #[o0, o1, o2, o3, o4]) (h1 : Blk W (w.heap.size + 1) 50 #[r0, r1, r2, r3, r4])
    (ha : CfgAt w (.agg #[.int .i64 a.P, .int .i64 a.F, x2, x3, x4]) a) (hb : CfgAt w (.agg #[.int .i64 b.P, .int .i64 b.F, y2, y3, y4]) b) (hB : Below w.heap.size w W) :
    Cut3 w a b ((((((((((W.setCell ⟨w.heap.size, 0, none⟩ (.int .i64 a.P)).setCell ⟨w.heap.size, 1, none⟩ (.int .i64 a.F)).setCell ⟨w.heap.size, 2, none⟩ x2).setCell ⟨w.heap.size, 3, none⟩ x3).setCell ⟨w.heap.size, 4, none⟩ x4).setCell ⟨w.heap.size + 1, 0, none⟩ (.int .i64 b.P)).setCell ⟨w.heap.size + 1, 1, none⟩ (.int .i64 b.F)).setCell ⟨w.heap.size + 1, 2, none⟩ y2).setCell ⟨w.heap.size + 1, 3, none⟩ y3).setCell ⟨w.heap.size + 1, 4, none⟩ y4) :=
  ⟨x2, x3, x4, y2, y3, y4, far5 (blk5 h0 _ _ _ _ _) (by omega) _ _ _ _ _, blk5 (far5 h1 (by omega) _ _ _ _ _) _ _ _ _ _, ha, hb, below5 (below5 hB (Nat.le_refl _) _ _ _ _ _) (by omega) _ _ _ _ _⟩
theorem cut3_mk' {w W : World} {a b : Cfg} {o0 o1 o2 o3 o4 r0 r1 r2 r3 r4 x2 x3 x4 y2 y3 y4 : Value} (h0 : Blk W w.heap.size 50 #[o0, o1, o2, o3, o4]) (h1 : Blk W (w.heap.size + 1) 50 #[r0, r1, r2, r3, r4])
    (ha : CfgAt w (.agg #[.int .i64 a.P, .int .i64 a.F, x2, x3, x4]) a) (hb : CfgAt w (.agg #[.int .i64 b.P, .int .i64 b.F, y2, y3, y4]) b) (hB : Below w.heap.size w W) :
    Cut3 w a b ((((((((((W.setCell ⟨w.heap.size + 1, 0, none⟩ (.int .i64 b.P)).setCell ⟨w.heap.size + 1, 1, none⟩ (.int .i64 b.F)).setCell ⟨w.heap.size + 1, 2, none⟩ y2).setCell ⟨w.heap.size + 1, 3, none⟩ y3).setCell ⟨w.heap.size + 1, 4, none⟩ y4).setCell ⟨w.heap.size, 0, none⟩ (.int .i64 a.P)).setCell ⟨w.heap.size, 1, none⟩ (.int .i64 a.F)).setCell ⟨w.heap.size, 2, none⟩ x2).setCell ⟨w.heap.size, 3, none⟩ x3).setCell ⟨w.heap.size, 4, none⟩ x4) :=
  ⟨x2, x3, x4, y2, y3, y4, blk5 (far5 h0 (by omega) _ _ _ _ _) _ _ _ _ _, far5 (blk5 h1 _ _ _ _ _) (by omega) _ _ _ _ _, ha, hb, below5 (below5 hB (by omega) _ _ _ _ _) (Nat.le_refl _) _ _ _ _ _⟩
/-- A block of numbers of one's own that may be written. -/
def IB (w : World) (g : Nat) (t : TypeId) (n : Nat) : Prop := ∃ cs, Blk w g t cs ∧ ∀ j, j < n → ∃ z : Int, cs[j]? = some (.int .i64 z)
theorem IB.set_ {w : World} {g : Nat} {t : TypeId} {n : Nat} (h : IB w g t n) (i : Nat) (z : Int) : IB (w.setCell ⟨g, i, none⟩ (.int .i64 z)) g t n := by
  obtain ⟨cs, hb, hc⟩ := h
  refine ⟨_, hb.set_ i _, fun j hj => ?_⟩
  obtain ⟨y, hy⟩ := hc j hj
  rw [Array.getElem?_setIfInBounds]
  split
  · rename_i e
    subst e
    exact ⟨z, by rw [if_pos (Array.getElem?_eq_some_iff.1 hy).1]⟩
  · exact ⟨y, hy⟩
theorem IB.far {w : World} {g : Nat} {t : TypeId} {n : Nat} (h : IB w g t n) {p : Addr} (hp : g ≠ p.block) (u : Value) : IB (w.setCell p u) g t n := by
  obtain ⟨cs, hb, hc⟩ := h; exact ⟨cs, hb.far hp u, hc⟩
theorem IB.ne_ {w : World} {g g' : Nat} {t t' : TypeId} {n n' : Nat} (h : IB w g t n) (h' : IB w g' t' n') (hne : t ≠ t') : g ≠ g' := by
  obtain ⟨cs, hb, _⟩ := h; obtain ⟨cs', hb', _⟩ := h'; exact hb.ne_ hb' hne
def YB (w : World) (B : Nat) (A : Option Addr) (t : TypeId) (n : Nat) : Prop := 0 < n → ∃ g, A = some ⟨g, 0, none⟩ ∧ B ≤ g ∧ IB w g t n
theorem YB.of_own {w : World} {B : Nat} {A : Option Addr} {c : Nat} {t : TypeId} {m n : Nat} {xs : List Value} (h : Own w B t m (.slice A n c) n xs) (hx : ∀ (j : Nat) (u : Value), xs[j]? = some u → ∃ z : Int, u = .int .i64 z) : YB w B A t (n * m) := by
  intro h0
  have hl : xs.length = n * m := h.1
  rcases h.2 with ⟨e, h1⟩ | ⟨g, cap, cur, e, hB, hh, hle, hm, hs, ht⟩
  · rw [h1, Nat.zero_mul] at h0; omega
  · injection e with e1 e2 e3
    refine ⟨g, e1, hB, cur, hh, fun j hj => ?_⟩
    have hj' : j < xs.length := by omega
    obtain ⟨z, hz⟩ := hx j xs[j] (List.getElem?_eq_getElem hj')
    refine ⟨z, ?_⟩
    have h2 : (List.take (n * m) cur.toList)[j]? = some xs[j] := by rw [ht]; exact List.getElem?_eq_getElem hj'
    rw [List.getElem?_take, if_pos hj] at h2
    rw [← hz]; simpa using h2
theorem YB.alloc {w : World} {B : Nat} {A : Option Addr} {t : TypeId} {n : Nat} (h : YB w B A t n) (o : Obj) : YB (w.alloc o) B A t n := fun h0 => by
  obtain ⟨g, e, hB, cs, hb, hc⟩ := h h0; exact ⟨g, e, hB, cs, hb.alloc o, hc⟩
theorem YB.set_ {w : World} {B g : Nat} {A : Option Addr} {t t' : TypeId} {n n' : Nat} (h : YB w B A t n) (hg : IB w g t' n') (hne : t ≠ t') (i : Nat) (u : Value) : YB (w.setCell ⟨g, i, none⟩ u) B A t n := fun h0 => by
  obtain ⟨g', e, hB, h1⟩ := h h0; exact ⟨g', e, hB, h1.far (p := ⟨g, i, none⟩) (h1.ne_ hg hne) u⟩
theorem wvs_int (l : List Win) : ∀ (j : Nat) (u : Value), (wvs l)[j]? = some u → ∃ z : Int, u = .int .i64 z := by
  intro j u h
  have hm := List.mem_of_getElem? h
  obtain ⟨x, _, hx⟩ := List.mem_flatMap.1 hm
  simp only [Win.cells, List.mem_cons, List.not_mem_nil, or_false] at hx
  rcases hx with rfl | rfl | rfl <;> exact ⟨_, rfl⟩
theorem cvs_int (l : List Chn) : ∀ (j : Nat) (u : Value), (cvs l)[j]? = some u → ∃ z : Int, u = .int .i64 z := by
  intro j u h
  have hm := List.mem_of_getElem? h
  obtain ⟨x, _, hx⟩ := List.mem_flatMap.1 hm
  simp only [Chn.cells, List.mem_cons, List.not_mem_nil, or_false] at hx
  rcases hx with rfl | rfl | rfl | rfl | rfl | rfl | rfl | rfl | rfl | rfl | rfl <;> exact ⟨_, rfl⟩
theorem ivs_int (l : List Int) : ∀ (j : Nat) (u : Value), (ivs l)[j]? = some u → ∃ z : Int, u = .int .i64 z := by
  intro j u h
  obtain ⟨x, _, hx⟩ := List.mem_map.1 (List.mem_of_getElem? h)
  exact ⟨x, hx.symm⟩
/-- A clone that is being written: its box, its three rows; what stands below block B is as it was in w. -/
def YR (w : World) (b : Nat) (cs : Array Value) (R1 R2 R3 : Option Addr) (n1 n2 n3 : Nat) (W : World) : Prop := Below w.heap.size w W ∧ Blk W b 50 cs ∧ YB W w.heap.size R1 54 n1 ∧ YB W w.heap.size R2 56 n2 ∧ YB W w.heap.size R3 3 n3
theorem YR.win {w W : World} {b g : Nat} {cs : Array Value} {R1 R2 R3 : Option Addr} {n1 n2 n3 : Nat} (h : YR w b cs R1 R2 R3 n1 n2 n3 W) (e : R1 = some ⟨g, 0, none⟩) (hg : w.heap.size ≤ g) (hb : IB W g 54 n1) (i : Nat) (z : Int) : YR w b cs R1 R2 R3 n1 n2 n3 (W.setCell ⟨g, i, none⟩ (.int .i64 z)) := by
  obtain ⟨h1, h2, h3, h4, h5⟩ := h
  have hb' := hb
  obtain ⟨c', hc', _⟩ := hb'
  exact ⟨h1.setCell hg _, h2.far (p := ⟨g, i, none⟩) (h2.ne_ hc' (by decide)) _, fun _ => ⟨g, e, hg, hb.set_ i z⟩, h4.set_ hb (by decide) _ _, h5.set_ hb (by decide) _ _⟩
theorem YR.chn {w W : World} {b g : Nat} {cs : Array Value} {R1 R2 R3 : Option Addr} {n1 n2 n3 : Nat} (h : YR w b cs R1 R2 R3 n1 n2 n3 W) (e : R2 = some ⟨g, 0, none⟩) (hg : w.heap.size ≤ g) (hb : IB W g 56 n2) (i : Nat) (z : Int) : YR w b cs R1 R2 R3 n1 n2 n3 (W.setCell ⟨g, i, none⟩ (.int .i64 z)) := by
  obtain ⟨h1, h2, h3, h4, h5⟩ := h
  have hb' := hb
  obtain ⟨c', hc', _⟩ := hb'
  exact ⟨h1.setCell hg _, h2.far (p := ⟨g, i, none⟩) (h2.ne_ hc' (by decide)) _, h3.set_ hb (by decide) _ _, fun _ => ⟨g, e, hg, hb.set_ i z⟩, h5.set_ hb (by decide) _ _⟩
theorem YR.int {w W : World} {b g : Nat} {cs : Array Value} {R1 R2 R3 : Option Addr} {n1 n2 n3 : Nat} (h : YR w b cs R1 R2 R3 n1 n2 n3 W) (e : R3 = some ⟨g, 0, none⟩) (hg : w.heap.size ≤ g) (hb : IB W g 3 n3) (i : Nat) (z : Int) : YR w b cs R1 R2 R3 n1 n2 n3 (W.setCell ⟨g, i, none⟩ (.int .i64 z)) := by
  obtain ⟨h1, h2, h3, h4, h5⟩ := h
  have hb' := hb
  obtain ⟨c', hc', _⟩ := hb'
  exact ⟨h1.setCell hg _, h2.far (p := ⟨g, i, none⟩) (h2.ne_ hc' (by decide)) _, h3.set_ hb (by decide) _ _, h4.set_ hb (by decide) _ _, fun _ => ⟨g, e, hg, hb.set_ i z⟩⟩
def InvY (w : World) (b : Nat) (cs : Array Value) (R1 R2 R3 : Option Addr) (n1 n2 n3 n : Nat) (i : Value) (W : World) : Prop := ∃ k : Nat, i = .int .i64 k ∧ k ≤ n ∧ YR w b cs R1 R2 R3 n1 n2 n3 W
theorem few_at {w : World} {v : Value} {c : Cfg} (h : CfgAt w v c) : ∃ (A1 A2 A3 : Option Addr) (c1 c2 c3 : Nat), v = .agg #[.int .i64 c.P, .int .i64 c.F, .slice A1 c.ws.length c1, .slice A2 c.cs.length c2, .slice A3 c.ac.length c3] := by
  obtain ⟨A1, A2, A3, c1, c2, c3, e, _⟩ := h; exact ⟨A1, A2, A3, c1, c2, c3, e⟩
set_option maxHeartbeats 4000000 in
set_option maxRecDepth 100000 in
theorem walk {w : World} {u v : Value} {a b : Cfg} (hg : Et w) (ha : CfgAt w u a) (hb : CfgAt w v b) :
    Calls Tryd.prog 4 #[u, v] w fun e w' => e = .returned (.bool true) ∧ Below w.heap.size w w' := by
  obtain ⟨A1, A2, A3, c1, c2, c3, rfl⟩ := few_at ha
  obtain ⟨B1, B2, B3, d1, d2, d3, rfl⟩ := few_at hb
  have X0 := (Blk.new w 50 #[.int .i64 a.P, .int .i64 a.F, .slice A1 a.ws.length c1, .slice A2 a.cs.length c2, .slice A3 a.ac.length c3]).alloc (.cells #[.int .i64 b.P, .int .i64 b.F, .slice B1 b.ws.length d1, .slice B2 b.cs.length d2, .slice B3 b.ac.length d3] 50)
  have X1 := Blk.new_at (w := w.alloc (.cells #[.int .i64 a.P, .int .i64 a.F, .slice A1 a.ws.length c1, .slice A2 a.cs.length c2, .slice A3 a.ac.length c3] 50)) (n := w.heap.size + 1) (by simp) 50 #[.int .i64 b.P, .int .i64 b.F, .slice B1 b.ws.length d1, .slice B2 b.cs.length d2, .slice B3 b.ac.length d3]
  have HB : Below w.heap.size w _ := ba1 (b01 w (.cells #[.int .i64 a.P, .int .i64 a.F, .slice A1 a.ws.length c1, .slice A2 a.cs.length c2, .slice A3 a.ac.length c3] 50)) (.cells #[.int .i64 b.P, .int .i64 b.F, .slice B1 b.ws.length d1, .slice B2 b.cs.length d2, .slice B3 b.ac.length d3] 50)
  have HG := Lib.hid (hg.below HB)
  have HFa : Hid (∀ W : World, Below w.heap.size w W → Calls Tryd.prog 30 #[.agg #[.int .i64 a.P, .int .i64 a.F, .slice A1 a.ws.length c1, .slice A2 a.cs.length c2, .slice A3 a.ac.length c3]] W (FewPost w a W)) := fun W h => few_any ha
  have HFb : Hid (∀ W : World, Below w.heap.size w W → Calls Tryd.prog 30 #[.agg #[.int .i64 b.P, .int .i64 b.F, .slice B1 b.ws.length d1, .slice B2 b.cs.length d2, .slice B3 b.ac.length d3]] W (FewPost w b W)) := fun W h => few_any hb
  clear hg ha hb
  have L1 : (fw a).ws.length ≤ 10 := by simp [fw]; omega
  have L2 : (fw a).cs.length ≤ 10 := by simp [fw]; omega
  have L3 : (fw a).ac.length ≤ 10 := by simp [fw]; omega
  go_enter Tryd.func4, Tryd.ntmps4
  go_wp2_with fail
  refine (lives_any HG.out).mono ?_
  rintro e w1 ⟨rfl, hb1⟩
  have HB1 := bt HB hb1
  have X0 := X0.bel hb1
  have X1 := X1.bel hb1
  have q0 := X0.cell
  have q1 := X1.cell
  have f0 := X0.frozen
  have f1 := X1.frozen
  have hz := X1.lt
  have X0 : Blk w1.drew _ _ _ := X0
  have X1 : Blk w1.drew _ _ _ := X1
  have HD1 : Below w.heap.size w w1.drew := HB1.drew
  clear HB
  go_upto_region 3 with fail
  go_cut [] (fun W => Cut3 w (fw a) (fw b) W)
  case first =>
    go_region_with (first
      | (go_at_call 30; (with_reducible refine (HFa.out _ (by assumption)).mono ?_); rintro e w2 ⟨ua, rfl, hca, hb2⟩; obtain ⟨P1, P2, P3, p1, p2, p3, rfl⟩ := few_at hca; have HB2 := bt (w := w) (by assumption) hb2; have X0 := X0.bel hb2; have X1 := X1.bel hb2; have q0 := X0.cell; have q1 := X1.cell; have f0 := X0.frozen; have f1 := X1.frozen; have hz := X1.lt)
      | (go_at_call 30; (with_reducible refine (HFb.out _ (by assumption)).mono ?_); rintro e w2 ⟨ub, rfl, hcb, hb2⟩; obtain ⟨Q1, Q2, Q3, r1, r2, r3, rfl⟩ := few_at hcb; have HB3 := bt (w := w) (by assumption) hb2; have X0 := X0.bel hb2; have X1 := X1.bel hb2; have q0 := X0.cell; have q1 := X1.cell; have f0 := X0.frozen; have f1 := X1.frozen; have hz := X1.lt))
    all_goals
      go_wp2_with fail
      go_meet
      first
        | exact cut3_mk X0 X1 hca hcb (by assumption)
        | exact cut3_mk' X0 X1 hca hcb (by assumption)
  case rest =>
    obtain ⟨x2, x3, x4, y2, y3, y4, Z0, Z1, hca, hcb, hw⟩ := hcut
    clear q0 q1 f0 f1 hz X0 X1 HD1 HB1 HFa HFb HG
    have q0 := Z0.cell
    have hz := Z1.lt
    have HCA := Lib.hid hca
    have HCB := Lib.hid hcb
    clear hca hcb
    go_wp2_with fail
    refine (clone_any (HCA.out.below hw) (by simp [fw]; omega) (by simp [fw]; omega) (by simp [fw]; omega)).mono ?_
    rintro e w5 ⟨v5, rfl, ho5, hb5⟩
    have HX := Lib.hid ho5.at_
    obtain ⟨u1, u2, u3, rfl, hu1, hu2, hu3, _⟩ := ho5
    obtain ⟨P1, p1, rfl⟩ := own_slice hu1
    obtain ⟨P2, p2, rfl⟩ := own_slice hu2
    obtain ⟨P3, p3, rfl⟩ := own_slice hu3
    clear hu1 hu2 hu3
    have HB5 := bt hw hb5
    have Y0 := (Z0.bel hb5).alloc (.cells #[.int .i64 (fw a).P, .int .i64 (fw a).F, .slice P1 (fw a).ws.length p1, .slice P2 (fw a).cs.length p2, .slice P3 (fw a).ac.length p3] 50)
    have Y1 := (Z1.bel hb5).alloc (.cells #[.int .i64 (fw a).P, .int .i64 (fw a).F, .slice P1 (fw a).ws.length p1, .slice P2 (fw a).cs.length p2, .slice P3 (fw a).ac.length p3] 50)
    have Y2 := Blk.new w5 50 #[.int .i64 (fw a).P, .int .i64 (fw a).F, .slice P1 (fw a).ws.length p1, .slice P2 (fw a).cs.length p2, .slice P3 (fw a).ac.length p3]
    have HB6 := ba1 HB5 (.cells #[.int .i64 (fw a).P, .int .i64 (fw a).F, .slice P1 (fw a).ws.length p1, .slice P2 (fw a).cs.length p2, .slice P3 (fw a).ac.length p3] 50)
    have HX1 := Lib.hid (HX.out.alloc (.cells #[.int .i64 (fw a).P, .int .i64 (fw a).F, .slice P1 (fw a).ws.length p1, .slice P2 (fw a).cs.length p2, .slice P3 (fw a).ac.length p3] 50))
    obtain ⟨g5, hg5⟩ : ∃ g, w5.heap.size = g := ⟨_, rfl⟩
    rw [hg5] at Y2
    go_upto_region 5 with fail
    generalize w5.alloc (.cells #[.int .i64 (fw a).P, .int .i64 (fw a).F, .slice P1 (fw a).ws.length p1, .slice P2 (fw a).cs.length p2, .slice P3 (fw a).ac.length p3] 50) = W5 at *
    clear q0 hz hg5
    have HCA5 := Lib.hid (HCA.out.below HB6)
    have HCB5 := Lib.hid (HCB.out.below HB6)
    have hz0 : w.heap.size < W5.heap.size := Y0.lt
    have hz1 : w.heap.size + 1 < W5.heap.size := Y1.lt
    have hz2 : g5 < W5.heap.size := Y2.lt
    have S0 : Below W5.heap.size W5 W5.drew := (Below.refl _ _).drew
    have K0 : ∀ i, W5.drew.cell? ⟨w.heap.size, i, none⟩ = (#[.int .i64 (fw a).P, .int .i64 (fw a).F, x2, x3, x4] : Array Value)[i]? := Y0.cell
    have K1 : ∀ i, W5.drew.cell? ⟨w.heap.size + 1, i, none⟩ = (#[.int .i64 (fw b).P, .int .i64 (fw b).F, y2, y3, y4] : Array Value)[i]? := Y1.cell
    have K2 : ∀ i, W5.drew.cell? ⟨g5, i, none⟩ = (#[.int .i64 (fw a).P, .int .i64 (fw a).F, .slice P1 (fw a).ws.length p1, .slice P2 (fw a).cs.length p2, .slice P3 (fw a).ac.length p3] : Array Value)[i]? := Y2.cell
    go_region_held3 (fun W => Below W5.heap.size W5 W ∧ (∀ i, W.cell? ⟨w.heap.size, i, none⟩ = (#[.int .i64 (fw a).P, .int .i64 (fw a).F, x2, x3, x4] : Array Value)[i]?) ∧ (∀ i, W.cell? ⟨w.heap.size + 1, i, none⟩ = (#[.int .i64 (fw b).P, .int .i64 (fw b).F, y2, y3, y4] : Array Value)[i]?) ∧ (∀ i, W.cell? ⟨g5, i, none⟩ = (#[.int .i64 (fw a).P, .int .i64 (fw a).F, .slice P1 (fw a).ws.length p1, .slice P2 (fw a).cs.length p2, .slice P3 (fw a).ac.length p3] : Array Value)[i]?)) (first | exact ⟨S0, K0, K1, K2⟩ | assumption)
      (first
       | (go_at_call 32; (with_reducible refine (same_any (HCA5.out.below S0) (HCB5.out.below S0)).mono ?_); rintro e w6 ⟨rfl, hb6⟩; have S0 := bt S0 hb6; have K0 := (Y0.bel S0).cell; have K1 := (Y1.bel S0).cell; have K2 := (Y2.bel S0).cell)
       | (go_at_call 32; (with_reducible refine (same_any (HCA5.out.below S0) (HCA5.out.below S0)).mono ?_); rintro e w6 ⟨rfl, hb6⟩; rw [sam_self]; have S0 := bt S0 hb6; have K0 := (Y0.bel S0).cell; have K1 := (Y1.bel S0).cell; have K2 := (Y2.bel S0).cell)
       | (go_at_call 33; (with_reducible refine (rsame_any (HCA5.out.below S0) (HCB5.out.below S0)).mono ?_); rintro e w6 ⟨rfl, hb6⟩; have S0 := bt S0 hb6; have K0 := (Y0.bel S0).cell; have K1 := (Y1.bel S0).cell; have K2 := (Y2.bel S0).cell)
       | (go_at_call 33; (with_reducible refine (rsame_any (HX1.out.below S0) (HCA5.out.below S0)).mono ?_); rintro e w6 ⟨rfl, hb6⟩; rw [sam_self]; have S0 := bt S0 hb6; have K0 := (Y0.bel S0).cell; have K1 := (Y1.bel S0).cell; have K2 := (Y2.bel S0).cell))
    go_wp2_with fail
    refine (clone_any (HCA5.out.below S0) (by simp [fw]; omega) (by simp [fw]; omega) (by simp [fw]; omega)).mono ?_
    rintro e w7 ⟨v7, rfl, ho7, hb7⟩
    obtain ⟨u1, u2, u3, rfl, hu1, hu2, hu3, _⟩ := ho7
    obtain ⟨R1, r1, rfl⟩ := own_slice hu1
    obtain ⟨R2, r2, rfl⟩ := own_slice hu2
    obtain ⟨R3, r3, rfl⟩ := own_slice hu3
    have Y : YR w6 w7.heap.size #[.int .i64 (fw a).P, .int .i64 (fw a).F, .slice R1 (fw a).ws.length r1, .slice R2 (fw a).cs.length r2, .slice R3 (fw a).ac.length r3] R1 R2 R3 ((fw a).ws.length * 3) ((fw a).cs.length * 11) ((fw a).ac.length * 1) (w7.alloc (.cells #[.int .i64 (fw a).P, .int .i64 (fw a).F, .slice R1 (fw a).ws.length r1, .slice R2 (fw a).cs.length r2, .slice R3 (fw a).ac.length r3] 50)) := ⟨ba1 hb7 _, Blk.new _ _ _, (YB.of_own hu1 (wvs_int _)).alloc _, (YB.of_own hu2 (cvs_int _)).alloc _, (YB.of_own hu3 (ivs_int _)).alloc _⟩
    obtain ⟨g6, hg6⟩ : ∃ g, w7.heap.size = g := ⟨_, rfl⟩
    rw [hg6] at Y
    clear K0 K1 K2 hu1 hu2 hu3
    go_wp2_with fail
    clear hg6
    go_loopw [7] (fun i W => InvY w6 g6 #[.int .i64 (fw a).P, .int .i64 (fw a).F, .slice R1 (fw a).ws.length r1, .slice R2 (fw a).cs.length r2, .slice R3 (fw a).ac.length r3] R1 R2 R3 ((fw a).ws.length * 3) ((fw a).cs.length * 11) ((fw a).ac.length * 1) (fw a).ws.length i W) (fun i _ => (fw a).ws.length - (intOf i).toNat)
    case atStart => exact ⟨0, rfl, by omega, Y⟩
    case round =>
      clear Y
      obtain ⟨k1, rfl, hk1, Y⟩ := hrel
      have q := Y.2.1.cell
      by_cases hlt1 : k1 < (fw a).ws.length
      · obtain ⟨g, hR, hg, hI⟩ := Y.2.2.1 (by omega)
        have hI' := hI
        obtain ⟨cs, hbk, hz⟩ := hI'
        obtain ⟨z, hz⟩ := hz (k1 * 3 + 2) (by omega)
        have e1 : wr.cell? ⟨g, k1 * 3 + 2, none⟩ = some (.int .i64 z) := (hbk.cell _).trans hz
        have e2 : wr.frozen? ⟨g, k1 * 3 + 2, none⟩ = false := hbk.frozen _
        have Y1 := fun z => Y.win hR hg hI (k1 * 3 + 2) z
        have HY1 := Lib.hid Y1
        subst hR
        clear Y1 hbk hz hI
        go_wp2
        go_roundw
        case rel => exact ⟨k1 + 1, by go_num, by omega, HY1.out _⟩
        case measure => simp [intOf]; omega
      · go_wp2_with fail
        go_loopw [8] (fun i W => InvY w6 g6 #[.int .i64 (fw a).P, .int .i64 (fw a).F, .slice R1 (fw a).ws.length r1, .slice R2 (fw a).cs.length r2, .slice R3 (fw a).ac.length r3] R1 R2 R3 ((fw a).ws.length * 3) ((fw a).cs.length * 11) ((fw a).ac.length * 1) (fw a).cs.length i W) (fun i _ => (fw a).cs.length - (intOf i).toNat)
        case atStart => exact ⟨0, rfl, by omega, Y⟩
        case round =>
          clear Y
          obtain ⟨k2, rfl, hk2, Y⟩ := hrel
          have q := Y.2.1.cell
          by_cases hlt2 : k2 < (fw a).cs.length
          · obtain ⟨g, hR, hg, hI⟩ := Y.2.2.2.1 (by omega)
            have hI' := hI
            obtain ⟨cs, hbk, hz⟩ := hI'
            obtain ⟨z, hz⟩ := hz (k2 * 11) (by omega)
            have e1 : wr.cell? ⟨g, k2 * 11, none⟩ = some (.int .i64 z) := (hbk.cell _).trans hz
            have e2 : wr.frozen? ⟨g, k2 * 11, none⟩ = false := hbk.frozen _
            have Y1 := fun z => Y.chn hR hg hI (k2 * 11) z
            have HY1 := Lib.hid Y1
            subst hR
            clear Y1 hbk hz hI
            go_wp2
            go_roundw
            case rel => exact ⟨k2 + 1, by go_num, by omega, HY1.out _⟩
            case measure => simp [intOf]; omega
          · go_wp2_with fail
            go_loopw [9] (fun i W => InvY w6 g6 #[.int .i64 (fw a).P, .int .i64 (fw a).F, .slice R1 (fw a).ws.length r1, .slice R2 (fw a).cs.length r2, .slice R3 (fw a).ac.length r3] R1 R2 R3 ((fw a).ws.length * 3) ((fw a).cs.length * 11) ((fw a).ac.length * 1) (fw a).ac.length i W) (fun i _ => (fw a).ac.length - (intOf i).toNat)
            case atStart => exact ⟨0, rfl, by omega, Y⟩
            case round =>
              clear Y
              obtain ⟨k3, rfl, hk3, Y⟩ := hrel
              have q := Y.2.1.cell
              by_cases hlt3 : k3 < (fw a).ac.length
              · obtain ⟨g, hR, hg, hI⟩ := Y.2.2.2.2 (by omega)
                have hI' := hI
                obtain ⟨cs, hbk, hz⟩ := hI'
                obtain ⟨z, hz⟩ := hz (k3) (by omega)
                have e1 : wr.cell? ⟨g, k3, none⟩ = some (.int .i64 z) := (hbk.cell _).trans hz
                have e2 : wr.frozen? ⟨g, k3, none⟩ = false := hbk.frozen _
                have Y1 := fun z => Y.int hR hg hI (k3) z
                have HY1 := Lib.hid Y1
                subst hR
                clear Y1 hbk hz hI
                go_wp2
                go_roundw
                case rel => exact ⟨k3 + 1, by go_num, by omega, HY1.out _⟩
                case measure => simp [intOf]; omega
              · have S1 := bt S0 Y.1
                have K0 := (Y0.bel S1).cell
                have K2 := (Y2.bel S1).cell
                go_wp2_with fail
                refine (rsame_any (HX1.out.below S1) (HCA5.out.below S1)).mono ?_
                rintro e w9 ⟨rfl, hb9⟩
                rw [sam_self]
                have HB9 := bt (bt HB6 S1) hb9
                go_wp2
                go_ret
                exact ⟨rfl, HB9⟩
end Go.Proofs.YtkhcmgnocbddmaaDoor.configSame
