/- The walk of TableApart. -/
import Derived.Test.YtkhcmgnocbddmaaDoorLTSizes
import Derived.Test.YtkhcmgnocbddmaaDoorRt2
import Derived.Test.YtkhcmgnocbddmaaDoorRInv
import Derived.Deep.DeepCutAuto
namespace Go.Proofs.YtkhcmgnocbddmaaDoor.tableApart
open Go.RowKit Go.Proofs.YtkhcmgnocbddmaaDoor.G Go.Proofs.YtkhcmgnocbddmaaDoor.C04 Go.Proofs.YtkhcmgnocbddmaaDoor.T
open Go.Proofs.YtkhcmgnocbddmaaDoor.configSame (few_at)
attribute [local go_sem ↓] Go.wp_at_zero Go.wp_at_succ
theorem ne_succ {a b : Nat} (_ : a ≤ b) : b ≠ b + 1 := by omega
theorem ge_succ {a b : Nat} (h : a ≤ b) : a ≤ b + 1 := by omega
theorem sam_ne {a b : Cfg} (h : a ≠ b) : sam a b = false := by
  rw [Bool.eq_false_iff]; intro hs; apply h
  cases a; cases b
  simp only [sam, eqb, decide_eq_true_eq] at hs
  obtain ⟨h1, h2, h3, h4, h5⟩ := hs
  simp_all
theorem drew_al (w : World) (o : Obj) : (w.alloc o).drew = w.drew.alloc o := rfl
/-- A config's box. -/
abbrev bx (x : Cfg) (P1 P2 P3 : Option Addr) (p1 p2 p3 : Nat) : Array Value := #[.int .i64 x.P, .int .i64 x.F, .slice P1 x.ws.length p1, .slice P2 x.cs.length p2, .slice P3 x.ac.length p3]
abbrev set5 (V : World) (g : Nat) (a b c d e : Value) : World := ((((V.setCell ⟨g, 0, none⟩ a).setCell ⟨g, 1, none⟩ b).setCell ⟨g, 2, none⟩ c).setCell ⟨g, 3, none⟩ d).setCell ⟨g, 4, none⟩ e
/-- What is no box is as it was. -/
def TT (V V' : World) : Prop := ∀ (g : Nat) (t : TypeId) (cs : Array Value), t ≠ 50 → Blk V g t cs → Blk V' g t cs
theorem TT.alloc {V V' : World} (h : TT V V') (o : Obj) : TT V (V'.alloc o) := fun g t cs ht hb => (h g t cs ht hb).alloc o
theorem TT.set_ {V V' : World} (h : TT V V') {g : Nat} {c : Array Value} (hg : Blk V' g 50 c) (i : Nat) (u : Value) : TT V (V'.setCell ⟨g, i, none⟩ u) := fun k t cs ht hb => (h k t cs ht hb).far (p := ⟨g, i, none⟩) ((h k t cs ht hb).ne_ hg ht) u
theorem TT.set5 {V V' : World} (h : TT V V') {g : Nat} {c : Array Value} (hg : Blk V' g 50 c) (u0 u1 u2 u3 u4 : Value) : TT V (set5 V' g u0 u1 u2 u3 u4) :=
  ((((h.set_ hg 0 u0).set_ (hg.set_ 0 u0) 1 u1).set_ ((hg.set_ 0 u0).set_ 1 u1) 2 u2).set_ (((hg.set_ 0 u0).set_ 1 u1).set_ 2 u2) 3 u3).set_ ((((hg.set_ 0 u0).set_ 1 u1).set_ 2 u2).set_ 3 u3) 4 u4
theorem TT.refl (V : World) : TT V V := fun _ _ _ _ h => h
theorem own_tt {V V' : World} (h : TT V V') {B : Nat} {t : TypeId} {m n : Nat} {v : Value} {xs : List Value} (ht : t ≠ 50) (ho : Own V B t m v n xs) : Own V' B t m v n xs := by
  refine ⟨ho.1, ?_⟩
  rcases ho.2 with h0 | ⟨g, cap, cur, hv, hB, hh, r⟩
  · exact .inl h0
  · exact .inr ⟨g, cap, cur, hv, hB, h g t cur ht hh, r⟩
theorem cfg_tt {V V' : World} (h : TT V V') {B : Nat} {v : Value} {c : Cfg} (ho : CfgOwn V B v c) : CfgOwn V' B v c := by
  obtain ⟨v1, v2, v3, rfl, h1, h2, h3, hw⟩ := ho
  exact ⟨v1, v2, v3, rfl, own_tt h (by decide) h1, own_tt h (by decide) h2, own_tt h (by decide) h3, hw⟩
def CutA (w : World) (va vb : Value) (V : World) : Prop := ∃ (g5 g6 : Nat) (x y : Cfg) (P1 P2 P3 Q1 Q2 Q3 : Option Addr) (p1 p2 p3 q1 q2 q3 : Nat), va = .pointer (some ⟨g5, 0, none⟩) ∧ vb = .pointer (some ⟨g6, 0, none⟩) ∧
  Blk V g5 50 (bx x P1 P2 P3 p1 p2 p3) ∧ Blk V g6 50 (bx y Q1 Q2 Q3 q1 q2 q3) ∧ CfgAt V (.agg (bx x P1 P2 P3 p1 p2 p3)) x ∧ flt x = none ∧ CfgAt V (.agg (bx y Q1 Q2 Q3 q1 q2 q3)) y ∧ flt y = none ∧ Below w.heap.size w V
section
variable {w V V' : World} {g5 g6 Ba Bb : Nat} {x y : Cfg} {P1 P2 P3 Q1 Q2 Q3 : Option Addr} {p1 p2 p3 q1 q2 q3 : Nat} {z0 z1 z2 z3 z4 y0 y1 y2 y3 y4 : Value}
theorem cutA (hT : TT V V') (hB : Below w.heap.size w V') (b5 : Blk V' g5 50 (bx x P1 P2 P3 p1 p2 p3)) (b6 : Blk V' g6 50 (bx y Q1 Q2 Q3 q1 q2 q3)) (ha : CfgOwn V Ba (.agg (bx x P1 P2 P3 p1 p2 p3)) x) (hb : CfgOwn V Bb (.agg (bx y Q1 Q2 Q3 q1 q2 q3)) y) (fa : flt x = none) (fb : flt y = none) :
    CutA w (.pointer (some ⟨g5, 0, none⟩)) (.pointer (some ⟨g6, 0, none⟩)) V' :=
  ⟨g5, g6, x, y, P1, P2, P3, Q1, Q2, Q3, p1, p2, p3, q1, q2, q3, rfl, rfl, b5, b6, (cfg_tt hT ha).at_, fa, (cfg_tt hT hb).at_, fb, hB⟩
variable (hB : Below w.heap.size w V) (ha : CfgOwn V Ba (.agg (bx x P1 P2 P3 p1 p2 p3)) x) (hb : CfgOwn V Bb (.agg (bx y Q1 Q2 Q3 q1 q2 q3)) y) (fa : flt x = none) (fb : flt y = none)
include hB ha hb fa fb
theorem cut1 : CutA w (.pointer (some ⟨V.heap.size, 0, none⟩)) (.pointer (some ⟨V.heap.size + 1, 0, none⟩)) ((V.alloc (.cells (bx x P1 P2 P3 p1 p2 p3) 50)).alloc (.cells (bx y Q1 Q2 Q3 q1 q2 q3) 50)) :=
  cutA (((TT.refl V).alloc _).alloc _) (ba1 (ba1 hB _) _) ((Blk.new _ _ _).alloc _) (Blk.new_at (by simp) _ _) ha hb fa fb
theorem cut2 : CutA w (.pointer (some ⟨V.heap.size + 1, 0, none⟩)) (.pointer (some ⟨V.heap.size, 0, none⟩)) ((V.alloc (.cells (bx y Q1 Q2 Q3 q1 q2 q3) 50)).alloc (.cells (bx x P1 P2 P3 p1 p2 p3) 50)) :=
  cutA (((TT.refl V).alloc _).alloc _) (ba1 (ba1 hB _) _) (Blk.new_at (by simp) _ _) ((Blk.new _ _ _).alloc _) ha hb fa fb
omit hB ha hb fa fb in
theorem b5s {g : Nat} (hg : w.heap.size ≤ g) (u0 u1 u2 u3 u4 : Value) {V : World} (hB : Below w.heap.size w V) : Below w.heap.size w (set5 V g u0 u1 u2 u3 u4) := ((((hB.setCell hg _).setCell hg _).setCell hg _).setCell hg _).setCell hg _
end
section
variable {w V V' : World} {g5 g6 Ba Bb : Nat} {x y : Cfg} {P1 P2 P3 Q1 Q2 Q3 : Option Addr} {p1 p2 p3 q1 q2 q3 : Nat} {z0 z1 z2 z3 z4 y0 y1 y2 y3 y4 : Value}
theorem bl5 {V : World} {g : Nat} {o0 o1 o2 o3 o4 : Value} (h : Blk V g 50 #[o0, o1, o2, o3, o4]) (n0 n1 n2 n3 n4 : Value) : Blk (set5 V g n0 n1 n2 n3 n4) g 50 #[n0, n1, n2, n3, n4] := by
  simpa using ((((h.set_ 0 n0).set_ 1 n1).set_ 2 n2).set_ 3 n3).set_ 4 n4
theorem fa5 {V : World} {k g : Nat} {t : TypeId} {cs : Array Value} (h : Blk V k t cs) (hk : k ≠ g) (n0 n1 n2 n3 n4 : Value) : Blk (set5 V g n0 n1 n2 n3 n4) k t cs :=
  ((((h.far hk n0).far hk n1).far hk n2).far hk n3).far hk n4
variable (hB : Below w.heap.size w V) (ha : CfgOwn V Ba (.agg (bx x P1 P2 P3 p1 p2 p3)) x) (hb : CfgOwn V Bb (.agg (bx y Q1 Q2 Q3 q1 q2 q3)) y) (fa : flt x = none) (fb : flt y = none)
theorem sz5 {V : World} {g : Nat} (n0 n1 n2 n3 n4 : Value) : (set5 V g n0 n1 n2 n3 n4).heap.size = V.heap.size := by simp [set5, World.setCell]
include hB ha hb fa fb
theorem cut3 (h5 : Blk V g5 50 #[z0, z1, z2, z3, z4]) (hg : w.heap.size ≤ g5) : CutA w (.pointer (some ⟨g5, 0, none⟩)) (.pointer (some ⟨V.heap.size, 0, none⟩)) ((set5 V g5 (.int .i64 x.P) (.int .i64 x.F) (.slice P1 x.ws.length p1) (.slice P2 x.cs.length p2) (.slice P3 x.ac.length p3)).alloc (.cells (bx y Q1 Q2 Q3 q1 q2 q3) 50)) :=
  cutA (((TT.refl V).set5 h5 _ _ _ _ _).alloc _) (ba1 (b5s hg _ _ _ _ _ hB) _) ((bl5 h5 _ _ _ _ _).alloc _) (Blk.new_at (sz5 _ _ _ _ _) _ _) ha hb fa fb
theorem cut4 (h6 : Blk V g6 50 #[z0, z1, z2, z3, z4]) (hg : w.heap.size ≤ g6) : CutA w (.pointer (some ⟨V.heap.size, 0, none⟩)) (.pointer (some ⟨g6, 0, none⟩)) ((set5 V g6 (.int .i64 y.P) (.int .i64 y.F) (.slice Q1 y.ws.length q1) (.slice Q2 y.cs.length q2) (.slice Q3 y.ac.length q3)).alloc (.cells (bx x P1 P2 P3 p1 p2 p3) 50)) :=
  cutA (((TT.refl V).set5 h6 _ _ _ _ _).alloc _) (ba1 (b5s hg _ _ _ _ _ hB) _) (Blk.new_at (sz5 _ _ _ _ _) _ _) ((bl5 h6 _ _ _ _ _).alloc _) ha hb fa fb
theorem cut5 (h5 : Blk V g5 50 #[z0, z1, z2, z3, z4]) (h6 : Blk V g6 50 #[y0, y1, y2, y3, y4]) (hn : g5 ≠ g6) (hg5 : w.heap.size ≤ g5) (hg6 : w.heap.size ≤ g6) : CutA w (.pointer (some ⟨g5, 0, none⟩)) (.pointer (some ⟨g6, 0, none⟩)) (set5 (set5 V g5 (.int .i64 x.P) (.int .i64 x.F) (.slice P1 x.ws.length p1) (.slice P2 x.cs.length p2) (.slice P3 x.ac.length p3)) g6 (.int .i64 y.P) (.int .i64 y.F) (.slice Q1 y.ws.length q1) (.slice Q2 y.cs.length q2) (.slice Q3 y.ac.length q3)) :=
  cutA (((TT.refl V).set5 h5 _ _ _ _ _).set5 (fa5 h6 (Ne.symm hn) _ _ _ _ _) _ _ _ _ _) (b5s hg6 _ _ _ _ _ (b5s hg5 _ _ _ _ _ hB)) (fa5 (bl5 h5 _ _ _ _ _) hn _ _ _ _ _) (bl5 (fa5 h6 (Ne.symm hn) _ _ _ _ _) _ _ _ _ _) ha hb fa fb
theorem cut6 (h5 : Blk V g5 50 #[z0, z1, z2, z3, z4]) (h6 : Blk V g6 50 #[y0, y1, y2, y3, y4]) (hn : g5 ≠ g6) (hg5 : w.heap.size ≤ g5) (hg6 : w.heap.size ≤ g6) : CutA w (.pointer (some ⟨g5, 0, none⟩)) (.pointer (some ⟨g6, 0, none⟩)) (set5 (set5 V g6 (.int .i64 y.P) (.int .i64 y.F) (.slice Q1 y.ws.length q1) (.slice Q2 y.cs.length q2) (.slice Q3 y.ac.length q3)) g5 (.int .i64 x.P) (.int .i64 x.F) (.slice P1 x.ws.length p1) (.slice P2 x.cs.length p2) (.slice P3 x.ac.length p3)) :=
  cutA (((TT.refl V).set5 h6 _ _ _ _ _).set5 (fa5 h5 hn _ _ _ _ _) _ _ _ _ _) (b5s hg5 _ _ _ _ _ (b5s hg6 _ _ _ _ _ hB)) (bl5 (fa5 h5 hn _ _ _ _ _) _ _ _ _ _) (fa5 (bl5 h6 _ _ _ _ _) (Ne.symm hn) _ _ _ _ _) ha hb fa fb
end
/-- The act of the region: what it began with, and the slots that the region fills. -/
def fr (a : Act) (u5 u6 u13 u14 u15 u16 u17 u18 : Value) : Act := (((((((a.put (some 5) u5).put (some 6) u6).put (some 13) u13).put (some 14) u14).put (some 15) u15).put (some 16) u16).put (some 17) u17).put (some 18) u18
structure RI (w : World) (c0 c1 : Array Value) (a b : Cfg) (d : Nat → Bool) (V : World) (u5 u6 u13 u14 u15 u16 u17 u18 : Value) : Prop where
  bel : Below w.heap.size w V
  b0 : Blk V w.heap.size 50 c0
  b1 : Blk V (w.heap.size + 1) 50 c1
  p0 : d 0 = true → u13 = .agg c0
  p1 : d 1 = true → CfgAt w u14 (fw a)
  p2 : d 2 = true → ∃ (x : Cfg) (B : Nat), CfgOwn V B u15 x ∧ flt x = none
  p3 : d 3 = true → u16 = .agg c1
  p4 : d 4 = true → CfgAt w u17 (fw b)
  p5 : d 5 = true → ∃ (x : Cfg) (B : Nat), CfgOwn V B u18 x ∧ flt x = none
  p6 : d 6 = true → ∃ (g : Nat) (o0 o1 o2 o3 o4 : Value), u5 = .pointer (some ⟨g, 0, none⟩) ∧ w.heap.size + 2 ≤ g ∧ Blk V g 50 #[o0, o1, o2, o3, o4] ∧ (d 8 = true → u15 = .agg #[o0, o1, o2, o3, o4])
  p7 : d 7 = true → ∃ (g : Nat) (o0 o1 o2 o3 o4 : Value), u6 = .pointer (some ⟨g, 0, none⟩) ∧ w.heap.size + 2 ≤ g ∧ Blk V g 50 #[o0, o1, o2, o3, o4] ∧ (d 9 = true → u18 = .agg #[o0, o1, o2, o3, o4])
  ne : d 6 = true → d 7 = true → u5 ≠ u6
  m8 : d 8 = true → d 6 = true ∧ d 2 = true
  m9 : d 9 = true → d 7 = true ∧ d 5 = true
section
variable {w V V' : World} {c0 c1 : Array Value} {a b : Cfg} {d : Nat → Bool} {u5 u6 u13 u14 u15 u16 u17 u18 : Value}
/-- A store elsewhere, or what makes memory: all stays. -/
theorem RI.keep (h : RI w c0 c1 a b d V u5 u6 u13 u14 u15 u16 u17 u18) (hb : Below V.heap.size V V') : RI w c0 c1 a b d V' u5 u6 u13 u14 u15 u16 u17 u18 :=
  ⟨bt h.bel hb, h.b0.bel hb, h.b1.bel hb, h.p0, h.p1, fun e => by obtain ⟨x, B, h1, h2⟩ := h.p2 e; exact ⟨x, B, h1.below hb, h2⟩, h.p3, h.p4, fun e => by obtain ⟨x, B, h1, h2⟩ := h.p5 e; exact ⟨x, B, h1.below hb, h2⟩,
   fun e => by obtain ⟨g, o0, o1, o2, o3, o4, h1, h2, h3, h4⟩ := h.p6 e; exact ⟨g, o0, o1, o2, o3, o4, h1, h2, h3.bel hb, h4⟩, fun e => by obtain ⟨g, o0, o1, o2, o3, o4, h1, h2, h3, h4⟩ := h.p7 e; exact ⟨g, o0, o1, o2, o3, o4, h1, h2, h3.bel hb, h4⟩, h.ne, h.m8, h.m9⟩
theorem RI.end_ (h : RI w c0 c1 a b d V u5 u6 u13 u14 u15 u16 u17 u18) (hd : ∀ i, i < 10 → d i = true) : CutA w u5 u6 V := by
  obtain ⟨x, B, x1, x2⟩ := h.p2 (hd 2 (by omega))
  obtain ⟨y, B', y1, y2⟩ := h.p5 (hd 5 (by omega))
  obtain ⟨g, o0, o1, o2, o3, o4, h1, h2, h3, h4⟩ := h.p6 (hd 6 (by omega))
  obtain ⟨g', q0, q1, q2, q3, q4, k1, k2, k3, k4⟩ := h.p7 (hd 7 (by omega))
  have e1 := h4 (hd 8 (by omega))
  have e2 := k4 (hd 9 (by omega))
  obtain ⟨P1, P2, P3, p1, p2, p3, e3⟩ := few_at x1.at_
  obtain ⟨Q1, Q2, Q3, r1, r2, r3, e4⟩ := few_at y1.at_
  rw [e1] at e3
  rw [e2] at e4
  injection e3 with e3
  injection e4 with e4
  rw [e3] at h3 
  rw [e4] at k3
  rw [e1, e3] at x1
  rw [e2, e4] at y1
  subst h1 k1
  exact cutA (TT.refl V) h.bel h3 k3 x1 y1 x2 y2
theorem RI.st8 (h : RI w c0 c1 a b d V u5 u6 u13 u14 u15 u16 u17 u18) (h2 : d 2 = true) (h6 : d 6 = true) :
    ∃ (g : Nat) (x : Cfg) (P1 P2 P3 : Option Addr) (p1 p2 p3 : Nat) (z0 z1 z2 z3 z4 : Value), u5 = .pointer (some ⟨g, 0, none⟩) ∧ Blk V g 50 #[z0, z1, z2, z3, z4] ∧ u15 = .agg (bx x P1 P2 P3 p1 p2 p3) ∧ RI w c0 c1 a b (fun j => decide (j = 8) || d j) (set5 V g (.int .i64 x.P) (.int .i64 x.F) (.slice P1 x.ws.length p1) (.slice P2 x.cs.length p2) (.slice P3 x.ac.length p3)) u5 u6 u13 u14 u15 u16 u17 u18 := by
  obtain ⟨x, B, x1, x2⟩ := h.p2 h2
  obtain ⟨g, z0, z1, z2, z3, z4, e1, e2, e3, _⟩ := h.p6 h6
  obtain ⟨P1, P2, P3, p1, p2, p3, e4⟩ := few_at x1.at_
  have hT := (TT.refl V).set5 e3 (.int .i64 x.P) (.int .i64 x.F) (.slice P1 x.ws.length p1) (.slice P2 x.cs.length p2) (.slice P3 x.ac.length p3)
  refine ⟨g, x, P1, P2, P3, p1, p2, p3, z0, z1, z2, z3, z4, e1, e3, e4, ⟨b5s (by omega) _ _ _ _ _ h.bel, fa5 h.b0 (by omega) _ _ _ _ _, fa5 h.b1 (by omega) _ _ _ _ _, h.p0, h.p1, fun _ => ⟨x, B, cfg_tt hT x1, x2⟩, h.p3, h.p4, fun e => ?_, fun _ => ⟨g, _, _, _, _, _, e1, e2, bl5 e3 _ _ _ _ _, fun _ => e4⟩, fun e => ?_, h.ne, fun _ => ⟨h6, h2⟩, h.m9⟩⟩
  · obtain ⟨y, B', y1, y2⟩ := h.p5 e
    exact ⟨y, B', cfg_tt hT y1, y2⟩
  · obtain ⟨g', q0, q1, q2, q3, q4, k1, k2, k3, k4⟩ := h.p7 e
    exact ⟨g', q0, q1, q2, q3, q4, k1, k2, fa5 k3 (fun hh => h.ne h6 e (by rw [e1, k1, hh])) _ _ _ _ _, k4⟩
theorem RI.st9 (h : RI w c0 c1 a b d V u5 u6 u13 u14 u15 u16 u17 u18) (h2 : d 5 = true) (h6 : d 7 = true) :
    ∃ (g : Nat) (x : Cfg) (P1 P2 P3 : Option Addr) (p1 p2 p3 : Nat) (z0 z1 z2 z3 z4 : Value), u6 = .pointer (some ⟨g, 0, none⟩) ∧ Blk V g 50 #[z0, z1, z2, z3, z4] ∧ u18 = .agg (bx x P1 P2 P3 p1 p2 p3) ∧ RI w c0 c1 a b (fun j => decide (j = 9) || d j) (set5 V g (.int .i64 x.P) (.int .i64 x.F) (.slice P1 x.ws.length p1) (.slice P2 x.cs.length p2) (.slice P3 x.ac.length p3)) u5 u6 u13 u14 u15 u16 u17 u18 := by
  obtain ⟨x, B, x1, x2⟩ := h.p5 h2
  obtain ⟨g, z0, z1, z2, z3, z4, e1, e2, e3, _⟩ := h.p7 h6
  obtain ⟨P1, P2, P3, p1, p2, p3, e4⟩ := few_at x1.at_
  have hT := (TT.refl V).set5 e3 (.int .i64 x.P) (.int .i64 x.F) (.slice P1 x.ws.length p1) (.slice P2 x.cs.length p2) (.slice P3 x.ac.length p3)
  refine ⟨g, x, P1, P2, P3, p1, p2, p3, z0, z1, z2, z3, z4, e1, e3, e4, ⟨b5s (by omega) _ _ _ _ _ h.bel, fa5 h.b0 (by omega) _ _ _ _ _, fa5 h.b1 (by omega) _ _ _ _ _, h.p0, h.p1, fun e => ?_, h.p3, h.p4, fun _ => ⟨x, B, cfg_tt hT x1, x2⟩, fun e => ?_, fun _ => ⟨g, _, _, _, _, _, e1, e2, bl5 e3 _ _ _ _ _, fun _ => e4⟩, h.ne, h.m8, fun _ => ⟨h6, h2⟩⟩⟩
  · obtain ⟨y, B', y1, y2⟩ := h.p2 e
    exact ⟨y, B', cfg_tt hT y1, y2⟩
  · obtain ⟨g', q0, q1, q2, q3, q4, k1, k2, k3, k4⟩ := h.p6 e
    exact ⟨g', q0, q1, q2, q3, q4, k1, k2, fa5 k3 (fun hh => h.ne e h6 (by rw [e1, k1, hh])) _ _ _ _ _, k4⟩
end
def RIn (w : World) (c0 c1 : Array Value) (a b : Cfg) (a0 : Act) (d : Nat → Bool) (x : Act) (V : World) : Prop := ∃ u5 u6 u13 u14 u15 u16 u17 u18, x = fr a0 u5 u6 u13 u14 u15 u16 u17 u18 ∧ RI w c0 c1 a b d V u5 u6 u13 u14 u15 u16 u17 u18
theorem RI.start {w V : World} {c0 c1 : Array Value} {a b : Cfg} (hB : Below w.heap.size w V) (b0 : Blk V w.heap.size 50 c0) (b1 : Blk V (w.heap.size + 1) 50 c1) (u5 u6 u13 u14 u15 u16 u17 u18 : Value) :
    RI w c0 c1 a b (fun _ => false) V u5 u6 u13 u14 u15 u16 u17 u18 :=
  ⟨hB, b0, b1, fun h => (by cases h), fun h => (by cases h), fun h => (by cases h), fun h => (by cases h), fun h => (by cases h), fun h => (by cases h), fun h => (by cases h), fun h => (by cases h), fun h => (by cases h), fun h => (by cases h), fun h => (by cases h)⟩
theorem RIn.start {w V : World} {c0 c1 : Array Value} {a b : Cfg} {a0 : Act} (hf : fr a0 (a0.tmps.getD 5 undef) (a0.tmps.getD 6 undef) (a0.tmps.getD 13 undef) (a0.tmps.getD 14 undef) (a0.tmps.getD 15 undef) (a0.tmps.getD 16 undef) (a0.tmps.getD 17 undef) (a0.tmps.getD 18 undef) = a0)
    (hB : Below w.heap.size w V) (b0 : Blk V w.heap.size 50 c0) (b1 : Blk V (w.heap.size + 1) 50 c1) : RIn w c0 c1 a b a0 (fun _ => false) a0 V :=
  ⟨_, _, _, _, _, _, _, _, hf.symm, RI.start hB b0 b1 _ _ _ _ _ _ _ _⟩
set_option maxHeartbeats 40000000 in
set_option maxRecDepth 100000 in
theorem walk {w : World} {u v : Value} {a b : Cfg} (hg : Et w) (ha : CfgAt w u a) (hb : CfgAt w v b) :
    Calls Tryd.prog 10 #[u, v] w fun e w' => e = .returned (.bool true) ∧ Below w.heap.size w w' := by
  obtain ⟨A1, A2, A3, c1, c2, c3, rfl⟩ := few_at ha
  obtain ⟨B1, B2, B3, d1, d2, d3, rfl⟩ := few_at hb
  have X0 := (Blk.new w 50 #[.int .i64 a.P, .int .i64 a.F, .slice A1 a.ws.length c1, .slice A2 a.cs.length c2, .slice A3 a.ac.length c3]).alloc (.cells #[.int .i64 b.P, .int .i64 b.F, .slice B1 b.ws.length d1, .slice B2 b.cs.length d2, .slice B3 b.ac.length d3] 50)
  have X1 := Blk.new_at (w := w.alloc (.cells #[.int .i64 a.P, .int .i64 a.F, .slice A1 a.ws.length c1, .slice A2 a.cs.length c2, .slice A3 a.ac.length c3] 50)) (n := w.heap.size + 1) (by simp) 50 #[.int .i64 b.P, .int .i64 b.F, .slice B1 b.ws.length d1, .slice B2 b.cs.length d2, .slice B3 b.ac.length d3]
  have HB : Below w.heap.size w _ := ba1 (b01 w (.cells #[.int .i64 a.P, .int .i64 a.F, .slice A1 a.ws.length c1, .slice A2 a.cs.length c2, .slice A3 a.ac.length c3] 50)) (.cells #[.int .i64 b.P, .int .i64 b.F, .slice B1 b.ws.length d1, .slice B2 b.cs.length d2, .slice B3 b.ac.length d3] 50)
  have HG := Lib.hid (hg.below HB)
  have HGw := Lib.hid hg
  have HFa : Hid (∀ W : World, Calls Tryd.prog 35 #[.agg #[.int .i64 a.P, .int .i64 a.F, .slice A1 a.ws.length c1, .slice A2 a.cs.length c2, .slice A3 a.ac.length c3]] W (FewPost w a W)) := fun W => few5_any ha
  have HFb : Hid (∀ W : World, Calls Tryd.prog 35 #[.agg #[.int .i64 b.P, .int .i64 b.F, .slice B1 b.ws.length d1, .slice B2 b.cs.length d2, .slice B3 b.ac.length d3]] W (FewPost w b W)) := fun W => few5_any hb
  clear hg ha hb
  go_enter Tryd.func10, Tryd.ntmps10
  go_wp2_with fail
  refine (T.lives_any HG.out).mono ?_
  rintro e w1 ⟨rfl, hb1⟩
  have HB1 := bt HB hb1
  have X0 := X0.bel hb1
  have X1 := X1.bel hb1
  clear HB hb1
  go_upto_region 3 with fail
  have X0 : Blk w1.drew w.heap.size 50 _ := X0
  have X1 : Blk w1.drew (w.heap.size + 1) 50 _ := X1
  have HC : Below w.heap.size w w1.drew := HB1.drew
  go_cut [5, 6] (fun va vb V => CutA w va vb V)
  case first =>
    refine G.wp_region_inv0 (RIn w #[.int .i64 a.P, .int .i64 a.F, .slice A1 a.ws.length c1, .slice A2 a.cs.length c2, .slice A3 a.ac.length c3] #[.int .i64 b.P, .int .i64 b.F, .slice B1 b.ws.length d1, .slice B2 b.cs.length d2, .slice B3 b.ac.length d3] a b) (by kernel_rfl) (by kernel_rfl) (RIn.start rfl HC X0 X1) ?_ ?_
    · clear X0 X1 HC HB1
      intro d x V i o ho hd hed hI
      obtain ⟨u5, u6, u13, u14, u15, u16, u17, u18, rfl, hR⟩ := hI
      rcases i with _ | _ | _ | _ | _ | _ | _ | _ | _ | _ | i
      · change some _ = some o at ho
        obtain rfl := Option.some.inj ho
        clear ho
        clear hed
        refine G.wpOp_of rfl rfl ?_
        unfold fr
        have q0 := hR.b0.cell
        go_simp
        exact ⟨u5, u6, _, u14, u15, u16, u17, u18, rfl, ⟨hR.bel, hR.b0, hR.b1, fun _ => rfl, hR.p1, hR.p2, hR.p3, hR.p4, hR.p5, hR.p6, hR.p7, hR.ne, hR.m8, hR.m9⟩⟩
      · change some _ = some o at ho
        obtain rfl := Option.some.inj ho
        clear ho
        have e0 : d 0 = true := hed { on := 0, ground := .data } (Array.mem_of_getElem? (i := 0) rfl) rfl
        obtain rfl := hR.p0 e0
        clear hed
        refine G.wpOp_of rfl rfl ?_
        unfold fr
        go_simp
        go_at_call 35
        refine (HFa.out _).mono ?_
        rintro e w2 ⟨ua, rfl, hca, hb2⟩
        have hK := hR.keep hb2
        exact ⟨u5, u6, _, ua, u15, u16, u17, u18, rfl, ⟨hK.bel, hK.b0, hK.b1, hK.p0, fun _ => hca, hK.p2, hK.p3, hK.p4, hK.p5, hK.p6, hK.p7, hK.ne, hK.m8, hK.m9⟩⟩
      · change some _ = some o at ho
        obtain rfl := Option.some.inj ho
        clear ho
        have e0 : d 1 = true := hed { on := 1, ground := .data } (Array.mem_of_getElem? (i := 0) rfl) rfl
        have hca := (hR.p1 e0).below (hR.bel)
        clear hed
        refine G.wpOp_of rfl rfl ?_
        unfold fr
        go_simp
        go_at_call 43
        refine (good_any hca).mono ?_
        rintro e w2 ⟨va, xa, rfl, hoa, hga, hb2⟩
        have hK := hR.keep hb2
        exact ⟨u5, u6, u13, u14, va, u16, u17, u18, rfl, ⟨hK.bel, hK.b0, hK.b1, hK.p0, hK.p1, fun _ => ⟨xa, _, hoa, hga.1⟩, hK.p3, hK.p4, hK.p5, fun e => (by obtain ⟨g, o0, o1, o2, o3, o4, h1, h2, h3, h4⟩ := hK.p6 e; exact ⟨g, o0, o1, o2, o3, o4, h1, h2, h3, fun e8 => (by have := (hR.m8 e8).2; rw [hd] at this; cases this)⟩), hK.p7, hK.ne, fun e8 => ⟨(hR.m8 e8).1, rfl⟩, hK.m9⟩⟩
      · change some _ = some o at ho
        obtain rfl := Option.some.inj ho
        clear ho
        clear hed
        refine G.wpOp_of rfl rfl ?_
        unfold fr
        have q0 := hR.b1.cell
        go_simp
        exact ⟨u5, u6, u13, u14, u15, _, u17, u18, rfl, ⟨hR.bel, hR.b0, hR.b1, hR.p0, hR.p1, hR.p2, fun _ => rfl, hR.p4, hR.p5, hR.p6, hR.p7, hR.ne, hR.m8, hR.m9⟩⟩
      · change some _ = some o at ho
        obtain rfl := Option.some.inj ho
        clear ho
        have e0 : d 3 = true := hed { on := 3, ground := .data } (Array.mem_of_getElem? (i := 0) rfl) rfl
        obtain rfl := hR.p3 e0
        clear hed
        refine G.wpOp_of rfl rfl ?_
        unfold fr
        go_simp
        go_at_call 35
        refine (HFb.out _).mono ?_
        rintro e w2 ⟨ua, rfl, hca, hb2⟩
        have hK := hR.keep hb2
        exact ⟨u5, u6, u13, u14, u15, _, ua, u18, rfl, ⟨hK.bel, hK.b0, hK.b1, hK.p0, hK.p1, hK.p2, hK.p3, fun _ => hca, hK.p5, hK.p6, hK.p7, hK.ne, hK.m8, hK.m9⟩⟩
      · change some _ = some o at ho
        obtain rfl := Option.some.inj ho
        clear ho
        have e0 : d 4 = true := hed { on := 4, ground := .data } (Array.mem_of_getElem? (i := 0) rfl) rfl
        have hca := (hR.p4 e0).below (hR.bel)
        clear hed
        refine G.wpOp_of rfl rfl ?_
        unfold fr
        go_simp
        go_at_call 43
        refine (good_any hca).mono ?_
        rintro e w2 ⟨va, xa, rfl, hoa, hga, hb2⟩
        have hK := hR.keep hb2
        exact ⟨u5, u6, u13, u14, u15, u16, u17, va, rfl, ⟨hK.bel, hK.b0, hK.b1, hK.p0, hK.p1, hK.p2, hK.p3, hK.p4, fun _ => ⟨xa, _, hoa, hga.1⟩, hK.p6, fun e => (by obtain ⟨g, o0, o1, o2, o3, o4, h1, h2, h3, h4⟩ := hK.p7 e; exact ⟨g, o0, o1, o2, o3, o4, h1, h2, h3, fun e8 => (by have := (hR.m9 e8).2; rw [hd] at this; cases this)⟩), hK.ne, hK.m8, fun e8 => ⟨(hR.m9 e8).1, rfl⟩⟩⟩
      · change some _ = some o at ho
        obtain rfl := Option.some.inj ho
        clear ho
        clear hed
        refine G.wpOp_of rfl rfl ?_
        unfold fr
        go_simp
        have hz := hR.b1.lt
        have hK := hR.keep (b01 V (.cells #[.int .i64 0, .int .i64 0, .slice none 0 0, .slice none 0 0, .slice none 0 0] 50))
        refine ⟨.pointer (some ⟨V.heap.size, 0, none⟩), u6, u13, u14, u15, u16, u17, u18, rfl, ⟨hK.bel, hK.b0, hK.b1, hK.p0, hK.p1, hK.p2, hK.p3, hK.p4, hK.p5, fun _ => ⟨_, _, _, _, _, _, rfl, hz, Blk.new _ _ _, fun e8 => (by have := (hR.m8 e8).1; rw [hd] at this; cases this)⟩, hK.p7, fun _ e7 => ?_, fun e8 => ⟨rfl, (hR.m8 e8).2⟩, hK.m9⟩⟩
        obtain ⟨g, o0, o1, o2, o3, o4, h1, h2, h3, h4⟩ := hR.p7 e7
        rw [h1]
        have hg := h3.lt
        intro hh
        injection hh with hh
        injection hh with hh
        injection hh with hh
        omega
      · change some _ = some o at ho
        obtain rfl := Option.some.inj ho
        clear ho
        clear hed
        refine G.wpOp_of rfl rfl ?_
        unfold fr
        go_simp
        have hz := hR.b1.lt
        have hK := hR.keep (b01 V (.cells #[.int .i64 0, .int .i64 0, .slice none 0 0, .slice none 0 0, .slice none 0 0] 50))
        refine ⟨u5, .pointer (some ⟨V.heap.size, 0, none⟩), u13, u14, u15, u16, u17, u18, rfl, ⟨hK.bel, hK.b0, hK.b1, hK.p0, hK.p1, hK.p2, hK.p3, hK.p4, hK.p5, hK.p6, fun _ => ⟨_, _, _, _, _, _, rfl, hz, Blk.new _ _ _, fun e8 => (by have := (hR.m9 e8).1; rw [hd] at this; cases this)⟩, fun e7 _ => ?_, hK.m8, fun e8 => ⟨rfl, (hR.m9 e8).2⟩⟩⟩
        obtain ⟨g, o0, o1, o2, o3, o4, h1, h2, h3, h4⟩ := hR.p6 e7
        rw [h1]
        have hg := h3.lt
        intro hh
        injection hh with hh
        injection hh with hh
        injection hh with hh
        omega
      · change some _ = some o at ho
        obtain rfl := Option.some.inj ho
        clear ho
        obtain ⟨g, x, P1, P2, P3, p1, p2, p3, z0, z1, z2, z3, z4, rfl, hb, rfl, hK⟩ := hR.st8 (hed { on := 2, ground := .data } (Array.mem_of_getElem? (i := 1) rfl) rfl) (hed { on := 6, ground := .data } (Array.mem_of_getElem? (i := 0) rfl) rfl)
        clear hed
        refine G.wpOp_of rfl rfl ?_
        unfold fr
        have q0 := hb.cell
        have q1 := hb.frozen
        go_simp
        exact ⟨_, u6, u13, u14, _, u16, u17, u18, rfl, hK⟩
      · change some _ = some o at ho
        obtain rfl := Option.some.inj ho
        clear ho
        obtain ⟨g, x, P1, P2, P3, p1, p2, p3, z0, z1, z2, z3, z4, rfl, hb, rfl, hK⟩ := hR.st9 (hed { on := 5, ground := .data } (Array.mem_of_getElem? (i := 1) rfl) rfl) (hed { on := 7, ground := .data } (Array.mem_of_getElem? (i := 0) rfl) rfl)
        clear hed
        refine G.wpOp_of rfl rfl ?_
        unfold fr
        have q0 := hb.cell
        have q1 := hb.frozen
        go_simp
        exact ⟨u5, _, u13, u14, u15, u16, u17, _, rfl, hK⟩
      · exact absurd ho (by simp)
    · intro d x V hd hI
      obtain ⟨u5, u6, u13, u14, u15, u16, u17, u18, rfl, hR⟩ := hI
      have hE := hR.end_ (fun i hi => hd i hi)
      clear hR hd
      unfold fr
      go_simp
      go_wp2_with fail
      go_meet
      exact hE
  case rest =>
    clear X0 X1 HC HG HFa HFb HB1
    obtain ⟨g5, g6, x, y, P1, P2, P3, Q1, Q2, Q3, p1, p2, p3, r1, r2, r3, rfl, rfl, BA, BB, ha, fa, hb, fb, HBc⟩ := hcut
    have HCA := Lib.hid ha
    have HCB := Lib.hid hb
    have HE := Lib.hid (HGw.out.below HBc)
    have hex : encE x = 0 := by rw [encE, if_pos fa]
    have hey : encE y = 0 := by rw [encE, if_pos fb]
    have HX := Lib.hid (And.intro hex (And.intro hey (And.intro fa fb)))
    clear hex hey fa fb ha hb
    have nA := BA.cell
    go_upto_region 5 with (go_at_call 36; refine (encode_any HE.out HCA.out).mono ?_; rintro e w2 ⟨xa, rfl, hxa, hb2⟩; rw [HX.out.1])
    have HB2 := bt HBc hb2
    have HCA2 := Lib.hid (HCA.out.below hb2)
    have HCB2 := Lib.hid (HCB.out.below hb2)
    have HE2 := Lib.hid (HGw.out.below HB2)
    have BA2 := BA.bel hb2
    have BB2 := BB.bel hb2
    clear HCA HCB HE BA BB nA HBc hb2
    have nB := BB2.cell
    go_upto_region 6 with (go_at_call 36; refine (encode_any HE2.out HCB2.out).mono ?_; rintro e w3 ⟨xb, rfl, hxb, hb3⟩; rw [HX.out.2.1])
    have HB3 := bt HB2 hb3
    have HCA3 := Lib.hid (HCA2.out.below hb3)
    have HCB3 := Lib.hid (HCB2.out.below hb3)
    have BA3 := BA2.bel hb3
    have BB3 := BB2.bel hb3
    obtain ⟨A3, c3, rfl, hra, _, _, _⟩ := hxa.rd
    obtain ⟨A4, c4, rfl, hrb, _, _, _⟩ := hxb.rd
    have CVa : Hid (∀ V : World, Below w3.heap.size w3 V → (convert 57 9 (.slice A3 (encL x).length c3)).run Tryd.prog V = .ok (.string ⟨(encL x).toArray⟩) V) := fun V h => W.conv_any ((hra.below hb3).below h) c3
    have CVb : Hid (∀ V : World, Below w3.heap.size w3 V → (convert 57 9 (.slice A4 (encL y).length c4)).run Tryd.prog V = .ok (.string ⟨(encL y).toArray⟩) V) := fun V h => W.conv_any (hrb.below h) c4
    clear HCA2 HCB2 HE2 BA2 BB2 nB HB2 hb3 hxa hxb hra hrb
    have HS := Lib.hid HB3
    clear HB3
    by_cases hxy : x = y
    · subst hxy
      generalize encL x = L at *
      have S0 : Below w3.heap.size w3 w3.drew := (Below.refl _ _).drew
      have ca := CVa.out _ S0
      have cb := CVb.out _ S0
      have K0 := (BA3.bel S0).cell
      have K1 := (BB3.bel S0).cell
      go_region_held3 (fun V => Below w3.heap.size w3 V ∧ (∀ i, V.cell? ⟨g5, i, none⟩ = (bx x P1 P2 P3 p1 p2 p3)[i]?) ∧ (∀ i, V.cell? ⟨g6, i, none⟩ = (bx x Q1 Q2 Q3 r1 r2 r3)[i]?) ∧ (convert 57 9 (.slice A3 L.length c3)).run Tryd.prog V = .ok (.string ⟨L.toArray⟩) V ∧ (convert 57 9 (.slice A4 L.length c4)).run Tryd.prog V = .ok (.string ⟨L.toArray⟩) V) (first | exact ⟨S0, K0, K1, ca, cb⟩ | assumption)
        ((go_at_call 33; (with_reducible refine (rsame_any (HCA3.out.below S0) (HCB3.out.below S0)).mono ?_); rintro e w6 ⟨rfl, hb6⟩; rw [sam_self]; have S0 := bt S0 hb6; have ca := CVa.out _ S0; have cb := CVb.out _ S0; have K0 := (BA3.bel S0).cell; have K1 := (BB3.bel S0).cell))
      go_wp2_with fail
      go_ret
      exact ⟨rfl, bt HS.out (by assumption)⟩
    · have hs : sam x y = false := sam_ne hxy
      have hl : (encL x == encL y) = false := by
        rw [beq_eq_false_iff_ne]; exact fun h => hxy (enc_inj HX.out.2.2.1 HX.out.2.2.2 h)
      have HN := Lib.hid hs
      clear hs hxy
      generalize encL x = L at *
      generalize encL y = M at *
      have S0 : Below w3.heap.size w3 w3.drew := (Below.refl _ _).drew
      have ca := CVa.out _ S0
      have cb := CVb.out _ S0
      have K0 := (BA3.bel S0).cell
      have K1 := (BB3.bel S0).cell
      go_region_held3 (fun V => Below w3.heap.size w3 V ∧ (∀ i, V.cell? ⟨g5, i, none⟩ = (bx x P1 P2 P3 p1 p2 p3)[i]?) ∧ (∀ i, V.cell? ⟨g6, i, none⟩ = (bx y Q1 Q2 Q3 r1 r2 r3)[i]?) ∧ (convert 57 9 (.slice A3 L.length c3)).run Tryd.prog V = .ok (.string ⟨L.toArray⟩) V ∧ (convert 57 9 (.slice A4 M.length c4)).run Tryd.prog V = .ok (.string ⟨M.toArray⟩) V) (first | exact ⟨S0, K0, K1, ca, cb⟩ | assumption)
        ((go_at_call 33; (with_reducible refine (rsame_any (HCA3.out.below S0) (HCB3.out.below S0)).mono ?_); rintro e w6 ⟨rfl, hb6⟩; rw [HN.out]; have S0 := bt S0 hb6; have ca := CVa.out _ S0; have cb := CVb.out _ S0; have K0 := (BA3.bel S0).cell; have K1 := (BB3.bel S0).cell))
      go_wp2_with fail
      go_ret
      exact ⟨rfl, bt HS.out (by assumption)⟩
end Go.Proofs.YtkhcmgnocbddmaaDoor.tableApart
