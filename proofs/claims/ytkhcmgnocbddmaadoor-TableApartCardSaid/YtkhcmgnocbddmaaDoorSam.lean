/- Same of package config, and the document's own Same of configs and of numbers: contracts against one plain function. -/
import Derived.Test.YtkhcmgnocbddmaaDoorEqS
namespace Go.Proofs.YtkhcmgnocbddmaaDoor.C04
open Go.RowKit Go.Proofs.YtkhcmgnocbddmaaDoor.G

def sam (a b : Cfg) : Bool := decide (a.P = b.P ∧ a.F = b.F ∧ eqb a.ws b.ws = true ∧ eqb a.cs b.cs = true ∧ eqb a.ac b.ac = true)
theorem sam_self (a : Cfg) : sam a a = true := by simp [sam, eqb]
theorem CfgAt.row1 {w : World} {A1 A2 A3 : Option Addr} {c1 c2 c3 : Nat} {c : Cfg} (h : CfgAt w (.agg #[.int .i64 c.P, .int .i64 c.F, .slice A1 c.ws.length c1, .slice A2 c.cs.length c2, .slice A3 c.ac.length c3]) c) : Row w A1 (wvs c.ws) ∧ Row w A2 (cvs c.cs) ∧ Row w A3 (ivs c.ac) := by
  obtain ⟨B1, B2, B3, d1, d2, d3, e, h1, h2, h3, _⟩ := h
  simp only [Value.agg.injEq, Array.mk.injEq, List.cons.injEq, Value.slice.injEq, true_and, and_true] at e
  obtain ⟨⟨rfl, rfl⟩, ⟨rfl, rfl⟩, rfl, rfl⟩ := e
  exact ⟨h1, h2, h3⟩
set_option maxHeartbeats 1000000 in
theorem same_any {w : World} {u v : Value} {a b : Cfg} (ha : CfgAt w u a) (hb : CfgAt w v b) : Calls Tryd.prog 32 #[u, v] w (BoolPost (sam a b) w) := by
  obtain ⟨A1, A2, A3, c1, c2, c3, rfl, h1, h2, h3, l1, m1, l2, m2, l3, m3, _⟩ := ha
  obtain ⟨B1, B2, B3, d1, d2, d3, rfl, i1, i2, i3, j1, k1, j2, k2, j3, k3, _⟩ := hb
  have E1 : Hid (∀ W, Below w.heap.size w W → Calls Tryd.prog 72 #[.slice A1 a.ws.length c1, .slice B1 b.ws.length d1] W (QPost (eqb a.ws b.ws) W)) := fun W h => eqw_any (h1.below h) (i1.below h) (by omega) (by omega)
  have E2 : Hid (∀ W, Below w.heap.size w W → Calls Tryd.prog 73 #[.slice A2 a.cs.length c2, .slice B2 b.cs.length d2] W (QPost (eqb a.cs b.cs) W)) := fun W h => eqc_any (h2.below h) (i2.below h) (by omega) (by omega)
  have E3 : Hid (∀ W, Below w.heap.size w W → Calls Tryd.prog 74 #[.slice A3 a.ac.length c3, .slice B3 b.ac.length d3] W (QPost (eqb a.ac b.ac) W)) := fun W h => eqi_any (h3.below h) (i3.below h) (by omega) (by omega)
  clear h1 h2 h3 i1 i2 i3
  have HB : Below w.heap.size w ((w.alloc (.cells #[.int .i64 a.P, .int .i64 a.F, .slice A1 a.ws.length c1, .slice A2 a.cs.length c2, .slice A3 a.ac.length c3] 50)).alloc (.cells #[.int .i64 b.P, .int .i64 b.F, .slice B1 b.ws.length d1, .slice B2 b.cs.length d2, .slice B3 b.ac.length d3] 50)) := ba1 (b01 _ _) _
  by_cases hP : a.P = b.P
  · by_cases hF : a.F = b.F
    · have HS : Hid (sam a b = (eqb a.ws b.ws && eqb a.cs b.cs && eqb a.ac b.ac)) := by show sam a b = _; rw [Bool.eq_iff_iff]; simp only [sam, hP, hF, decide_eq_true_eq, true_and, Bool.and_eq_true, and_assoc]
      have t0 : (a.P == b.P) = true := by simpa using hP
      have t1 : (a.F == b.F) = true := by simpa using hF
      clear hP hF
      go_enter Tryd.func32, Tryd.ntmps32
      go_wp2_with (first
        | (go_at_call 72; refine (E1.out _ HB).mono ?_; rintro e w1 ⟨rfl, n1, rfl⟩)
        | (go_at_call 73; refine (E2.out _ (bn HB _)).mono ?_; rintro e w1 ⟨rfl, n2, rfl⟩)
        | (go_at_call 74; refine (E3.out _ (by simpa using bn HB _)).mono ?_; rintro e w1 ⟨rfl, n3, rfl⟩))
      all_goals
        go_ret
        refine kpost (bn HB _) ?_
        rw [HS.out]
        simp [*]
    · have HS : Hid (sam a b = false) := by show sam a b = false; simp [sam, hF]
      have t0 : (a.P == b.P) = true := by simpa using hP
      have t1 : (a.F == b.F) = false := by simpa using hF
      clear hP hF
      go_enter Tryd.func32, Tryd.ntmps32
      go_wp2
      go_ret
      exact ⟨by rw [HS.out]; rfl, HB⟩
  · have HS : Hid (sam a b = false) := by show sam a b = false; simp [sam, hP]
    have t0 : (a.P == b.P) = false := by simpa using hP
    clear hP
    go_enter Tryd.func32, Tryd.ntmps32
    go_wp2
    go_ret
    exact ⟨by rw [HS.out]; rfl, HB⟩
end Go.Proofs.YtkhcmgnocbddmaaDoor.C04
