/- At the landed commit, for any two configs (the first ten of each list): whether they are the same is what the document says, and a clone is the same and shares no memory. Conditions: the library's variable errors.errorType holds what the program's text lays. -/
import Derived.Test.YtfbbgoahipejlabDoorFew
import Derived.Test.YtfbbgoahipejlabDoorRSam
import Derived.Test.YtfbbgoahipejlabDoorCln
import Derived.Deep.DeepCutAuto
import Derived.Deep.CutRange
namespace Go.Proofs.YtfbbgoahipejlabDoor.configSame
open Go.RowKit Go.Proofs.YtfbbgoahipejlabDoor.G Go.Proofs.YtfbbgoahipejlabDoor.C04
attribute [local go_sem ↓] Go.wp_at_zero Go.wp_at_succ

/-- Behind 'a, b = few(a), few(b)': the two boxes. -/
def Cut3 (w : World) (a b : Cfg) (W : World) : Prop := ∃ (x2 x3 x4 y2 y3 y4 : Value),
  Blk W w.heap.size 30 #[.int .i64 a.P, .int .i64 a.F, x2, x3, x4] ∧
  Blk W (w.heap.size + 1) 30 #[.int .i64 b.P, .int .i64 b.F, y2, y3, y4] ∧
  CfgAt w (.agg #[.int .i64 a.P, .int .i64 a.F, x2, x3, x4]) a ∧ CfgAt w (.agg #[.int .i64 b.P, .int .i64 b.F, y2, y3, y4]) b ∧ Below w.heap.size w W
theorem blk5 {W : World} {g : Nat} {t : TypeId} {o0 o1 o2 o3 o4 : Value} (h : Blk W g t #[o0, o1, o2, o3, o4]) (n0 n1 n2 n3 n4 : Value) :
    Blk (((((W.setCell ⟨g, 0, none⟩ n0).setCell ⟨g, 1, none⟩ n1).setCell ⟨g, 2, none⟩ n2).setCell ⟨g, 3, none⟩ n3).setCell ⟨g, 4, none⟩ n4) g t #[n0, n1, n2, n3, n4] := by
  simpa using ((((h.set_ 0 n0).set_ 1 n1).set_ 2 n2).set_ 3 n3).set_ 4 n4
theorem far5 {W : World} {k g : Nat} {t : TypeId} {cs : Array Value} (h : Blk W k t cs) (hk : k ≠ g) (n0 n1 n2 n3 n4 : Value) :
    Blk (((((W.setCell ⟨g, 0, none⟩ n0).setCell ⟨g, 1, none⟩ n1).setCell ⟨g, 2, none⟩ n2).setCell ⟨g, 3, none⟩ n3).setCell ⟨g, 4, none⟩ n4) k t cs :=
  ((((h.far hk n0).far hk n1).far hk n2).far hk n3).far hk n4
theorem below5 {w W : World} {g : Nat} (h : Below w.heap.size w W) (hg : w.heap.size ≤ g) (n0 n1 n2 n3 n4 : Value) :
    Below w.heap.size w (((((W.setCell ⟨g, 0, none⟩ n0).setCell ⟨g, 1, none⟩ n1).setCell ⟨g, 2, none⟩ n2).setCell ⟨g, 3, none⟩ n3).setCell ⟨g, 4, none⟩ n4) :=
  ((((h.setCell hg n0).setCell hg n1).setCell hg n2).setCell hg n3).setCell hg n4
theorem cut3_mk {w W : World} {a b : Cfg} {o0 o1 o2 o3 o4 r0 r1 r2 r3 r4 x2 x3 x4 y2 y3 y4 : Value} (h0 : Blk W w.heap.size 30 #[o0, o1, o2, o3, o4]) (h1 : Blk W (w.heap.size + 1) 30 #[r0, r1, r2, r3, r4])
    (ha : CfgAt w (.agg #[.int .i64 a.P, .int .i64 a.F, x2, x3, x4]) a) (hb : CfgAt w (.agg #[.int .i64 b.P, .int .i64 b.F, y2, y3, y4]) b) (hB : Below w.heap.size w W) :
    Cut3 w a b ((((((((((W.setCell ⟨w.heap.size, 0, none⟩ (.int .i64 a.P)).setCell ⟨w.heap.size, 1, none⟩ (.int .i64 a.F)).setCell ⟨w.heap.size, 2, none⟩ x2).setCell ⟨w.heap.size, 3, none⟩ x3).setCell ⟨w.heap.size, 4, none⟩ x4).setCell ⟨w.heap.size + 1, 0, none⟩ (.int .i64 b.P)).setCell ⟨w.heap.size + 1, 1, none⟩ (.int .i64 b.F)).setCell ⟨w.heap.size + 1, 2, none⟩ y2).setCell ⟨w.heap.size + 1, 3, none⟩ y3).setCell ⟨w.heap.size + 1, 4, none⟩ y4) :=
  ⟨x2, x3, x4, y2, y3, y4, far5 (blk5 h0 _ _ _ _ _) (by omega) _ _ _ _ _, blk5 (far5 h1 (by omega) _ _ _ _ _) _ _ _ _ _, ha, hb, below5 (below5 hB (Nat.le_refl _) _ _ _ _ _) (by omega) _ _ _ _ _⟩
theorem cut3_mk' {w W : World} {a b : Cfg} {o0 o1 o2 o3 o4 r0 r1 r2 r3 r4 x2 x3 x4 y2 y3 y4 : Value} (h0 : Blk W w.heap.size 30 #[o0, o1, o2, o3, o4]) (h1 : Blk W (w.heap.size + 1) 30 #[r0, r1, r2, r3, r4])
    (ha : CfgAt w (.agg #[.int .i64 a.P, .int .i64 a.F, x2, x3, x4]) a) (hb : CfgAt w (.agg #[.int .i64 b.P, .int .i64 b.F, y2, y3, y4]) b) (hB : Below w.heap.size w W) :
    Cut3 w a b ((((((((((W.setCell ⟨w.heap.size + 1, 0, none⟩ (.int .i64 b.P)).setCell ⟨w.heap.size + 1, 1, none⟩ (.int .i64 b.F)).setCell ⟨w.heap.size + 1, 2, none⟩ y2).setCell ⟨w.heap.size + 1, 3, none⟩ y3).setCell ⟨w.heap.size + 1, 4, none⟩ y4).setCell ⟨w.heap.size, 0, none⟩ (.int .i64 a.P)).setCell ⟨w.heap.size, 1, none⟩ (.int .i64 a.F)).setCell ⟨w.heap.size, 2, none⟩ x2).setCell ⟨w.heap.size, 3, none⟩ x3).setCell ⟨w.heap.size, 4, none⟩ x4) :=
  ⟨x2, x3, x4, y2, y3, y4, blk5 (far5 h0 (by omega) _ _ _ _ _) _ _ _ _ _, far5 (blk5 h1 _ _ _ _ _) (by omega) _ _ _ _ _, ha, hb, below5 (below5 hB (by omega) _ _ _ _ _) (Nat.le_refl _) _ _ _ _ _⟩
/-- A block of numbers of one's own that may be written. -/
def IB (w : World) (g : Nat) (t : TypeId) (n : Nat) : Prop := ∃ cs, Blk w g t cs ∧ ∀ j, j < n → ∃ z : Int, cs[j]? = some (.int .i64 z)
theorem IB.set_ {w : World} {g : Nat} {t : TypeId} {n : Nat} (h : IB w g t n) (i : Nat) (z : Int) : IB (w.setCell ⟨g, i, none⟩ (.int .i64 z)) g t n := by
  obtain ⟨cs, hb, hc⟩ := h
  refine ⟨_, hb.set_ i _, fun j hj => ?_⟩
  obtain ⟨y, hy⟩ := hc j hj
  rw [Array.getElem?_setIfInBounds]
  split
  · rename_i e
    subst e
    exact ⟨z, by rw [if_pos (Array.getElem?_eq_some_iff.1 hy).1]⟩
  · exact ⟨y, hy⟩
theorem IB.far {w : World} {g : Nat} {t : TypeId} {n : Nat} (h : IB w g t n) {p : Addr} (hp : g ≠ p.block) (u : Value) : IB (w.setCell p u) g t n := by
  obtain ⟨cs, hb, hc⟩ := h; exact ⟨cs, hb.far hp u, hc⟩
theorem IB.ne_ {w : World} {g g' : Nat} {t t' : TypeId} {n n' : Nat} (h : IB w g t n) (h' : IB w g' t' n') (hne : t ≠ t') : g ≠ g' := by
  obtain ⟨cs, hb, _⟩ := h; obtain ⟨cs', hb', _⟩ := h'; exact hb.ne_ hb' hne
def YB (w : World) (B : Nat) (A : Option Addr) (t : TypeId) (n : Nat) : Prop := 0 < n → ∃ g, A = some ⟨g, 0, none⟩ ∧ B ≤ g ∧ IB w g t n
theorem YB.of_own {w : World} {B : Nat} {A : Option Addr} {c : Nat} {t : TypeId} {m n : Nat} {xs : List Value} (h : Own w B t m (.slice A n c) n xs) (hx : ∀ (j : Nat) (u : Value), xs[j]? = some u → ∃ z : Int, u = .int .i64 z) : YB w B A t (n * m) := by
  intro h0
  have hl : xs.length = n * m := h.1
  rcases h.2 with ⟨e, h1⟩ | ⟨g, cap, cur, e, hB, hh, hle, hm, hs, ht⟩
  · rw [h1, Nat.zero_mul] at h0; omega
  · injection e with e1 e2 e3
    refine ⟨g, e1, hB, cur, hh, fun j hj => ?_⟩
    have hj' : j < xs.length := by omega
    obtain ⟨z, hz⟩ := hx j xs[j] (List.getElem?_eq_getElem hj')
    refine ⟨z, ?_⟩
    have h2 : (List.take (n * m) cur.toList)[j]? = some xs[j] := by rw [ht]; exact List.getElem?_eq_getElem hj'
    rw [List.getElem?_take, if_pos hj] at h2
    rw [← hz]; simpa using h2
theorem YB.alloc {w : World} {B : Nat} {A : Option Addr} {t : TypeId} {n : Nat} (h : YB w B A t n) (o : Obj) : YB (w.alloc o) B A t n := fun h0 => by
  obtain ⟨g, e, hB, cs, hb, hc⟩ := h h0; exact ⟨g, e, hB, cs, hb.alloc o, hc⟩
theorem YB.set_ {w : World} {B g : Nat} {A : Option Addr} {t t' : TypeId} {n n' : Nat} (h : YB w B A t n) (hg : IB w g t' n') (hne : t ≠ t') (i : Nat) (u : Value) : YB (w.setCell ⟨g, i, none⟩ u) B A t n := fun h0 => by
  obtain ⟨g', e, hB, h1⟩ := h h0; exact ⟨g', e, hB, h1.far (p := ⟨g, i, none⟩) (h1.ne_ hg hne) u⟩
theorem wvs_int (l : List Win) : ∀ (j : Nat) (u : Value), (wvs l)[j]? = some u → ∃ z : Int, u = .int .i64 z := by
  intro j u h
  have hm := List.mem_of_getElem? h
  obtain ⟨x, _, hx⟩ := List.mem_flatMap.1 hm
  simp only [Win.cells, List.mem_cons, List.not_mem_nil, or_false] at hx
  rcases hx with rfl | rfl | rfl <;> exact ⟨_, rfl⟩
theorem cvs_int (l : List Chn) : ∀ (j : Nat) (u : Value), (cvs l)[j]? = some u → ∃ z : Int, u = .int .i64 z := by
  intro j u h
  have hm := List.mem_of_getElem? h
  obtain ⟨x, _, hx⟩ := List.mem_flatMap.1 hm
  simp only [Chn.cells, List.mem_cons, List.not_mem_nil, or_false] at hx
  rcases hx with rfl | rfl | rfl | rfl | rfl | rfl | rfl | rfl | rfl | rfl | rfl <;> exact ⟨_, rfl⟩
theorem ivs_int (l : List Int) : ∀ (j : Nat) (u : Value), (ivs l)[j]? = some u → ∃ z : Int, u = .int .i64 z := by
  intro j u h
  obtain ⟨x, _, hx⟩ := List.mem_map.1 (List.mem_of_getElem? h)
  exact ⟨x, hx.symm⟩
/-- A clone that is being written: its box, its three rows; what stands below block B is as it was in w. -/
def YR (w : World) (b : Nat) (cs : Array Value) (R1 R2 R3 : Option Addr) (n1 n2 n3 : Nat) (W : World) : Prop := Below w.heap.size w W ∧ Blk W b 30 cs ∧ YB W w.heap.size R1 89 n1 ∧ YB W w.heap.size R2 118 n2 ∧ YB W w.heap.size R3 3 n3
theorem YR.win {w W : World} {b g : Nat} {cs : Array Value} {R1 R2 R3 : Option Addr} {n1 n2 n3 : Nat} (h : YR w b cs R1 R2 R3 n1 n2 n3 W) (e : R1 = some ⟨g, 0, none⟩) (hg : w.heap.size ≤ g) (hb : IB W g 89 n1) (i : Nat) (z : Int) : YR w b cs R1 R2 R3 n1 n2 n3 (W.setCell ⟨g, i, none⟩ (.int .i64 z)) := by
  obtain ⟨h1, h2, h3, h4, h5⟩ := h
  have hb' := hb
  obtain ⟨c', hc', _⟩ := hb'
  exact ⟨h1.setCell hg _, h2.far (p := ⟨g, i, none⟩) (h2.ne_ hc' (by decide)) _, fun _ => ⟨g, e, hg, hb.set_ i z⟩, h4.set_ hb (by decide) _ _, h5.set_ hb (by decide) _ _⟩
theorem YR.chn {w W : World} {b g : Nat} {cs : Array Value} {R1 R2 R3 : Option Addr} {n1 n2 n3 : Nat} (h : YR w b cs R1 R2 R3 n1 n2 n3 W) (e : R2 = some ⟨g, 0, none⟩) (hg : w.heap.size ≤ g) (hb : IB W g 118 n2) (i : Nat) (z : Int) : YR w b cs R1 R2 R3 n1 n2 n3 (W.setCell ⟨g, i, none⟩ (.int .i64 z)) := by
  obtain ⟨h1, h2, h3, h4, h5⟩ := h
  have hb' := hb
  obtain ⟨c', hc', _⟩ := hb'
  exact ⟨h1.setCell hg _, h2.far (p := ⟨g, i, none⟩) (h2.ne_ hc' (by decide)) _, h3.set_ hb (by decide) _ _, fun _ => ⟨g, e, hg, hb.set_ i z⟩, h5.set_ hb (by decide) _ _⟩
theorem YR.int {w W : World} {b g : Nat} {cs : Array Value} {R1 R2 R3 : Option Addr} {n1 n2 n3 : Nat} (h : YR w b cs R1 R2 R3 n1 n2 n3 W) (e : R3 = some ⟨g, 0, none⟩) (hg : w.heap.size ≤ g) (hb : IB W g 3 n3) (i : Nat) (z : Int) : YR w b cs R1 R2 R3 n1 n2 n3 (W.setCell ⟨g, i, none⟩ (.int .i64 z)) := by
  obtain ⟨h1, h2, h3, h4, h5⟩ := h
  have hb' := hb
  obtain ⟨c', hc', _⟩ := hb'
  exact ⟨h1.setCell hg _, h2.far (p := ⟨g, i, none⟩) (h2.ne_ hc' (by decide)) _, h3.set_ hb (by decide) _ _, h4.set_ hb (by decide) _ _, fun _ => ⟨g, e, hg, hb.set_ i z⟩⟩
def InvY (w : World) (b : Nat) (cs : Array Value) (R1 R2 R3 : Option Addr) (n1 n2 n3 n : Nat) (i : Value) (W : World) : Prop := ∃ k : Nat, i = .int .i64 k ∧ k ≤ n ∧ YR w b cs R1 R2 R3 n1 n2 n3 W
theorem few_at {w : World} {v : Value} {c : Cfg} (h : CfgAt w v c) : ∃ (A1 A2 A3 : Option Addr) (c1 c2 c3 : Nat), v = .agg #[.int .i64 c.P, .int .i64 c.F, .slice A1 c.ws.length c1, .slice A2 c.cs.length c2, .slice A3 c.ac.length c3] := by
  obtain ⟨A1, A2, A3, c1, c2, c3, e, _⟩ := h; exact ⟨A1, A2, A3, c1, c2, c3, e⟩
end Go.Proofs.YtfbbgoahipejlabDoor.configSame
