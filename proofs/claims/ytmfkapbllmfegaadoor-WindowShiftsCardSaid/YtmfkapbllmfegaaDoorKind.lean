/- Which channels are right: package config's isOfKind and Right, and the document's own Right: contracts against one plain function. -/
import Derived.Test.YtmfkapbllmfegaaDoorCfg
namespace Go.Proofs.YtmfkapbllmfegaaDoor.C04
open Go.RowKit Go.Proofs.YtmfkapbllmfegaaDoor.G

def Chn.val (x : Chn) : Value := .agg #[.int .i64 x.k, .int .i64 x.f, .int .i64 x.t, .int .i64 x.w, .int .i64 x.r, .int .i64 x.la, .int .i64 x.d, .int .i64 x.h, .int .i64 x.li, .int .i64 x.ra, .int .i64 x.c]
def knd (x : Chn) : Bool := decide ((x.k = 0 ∧ (1 ≤ x.r ∧ x.r ≤ 65536) ∧ x.la = 0 ∧ x.d = 0 ∧ x.h = 0 ∧ x.li = 0 ∧ x.ra = 0 ∧ x.c = 0) ∨ (x.k = 1 ∧ x.r = 0 ∧ (1 ≤ x.la ∧ x.la ≤ 3) ∧ (1 ≤ x.d ∧ x.d ≤ 8) ∧ (1 ≤ x.h ∧ x.h ≤ 8) ∧ (1 ≤ x.li ∧ x.li ≤ 65536) ∧ (0 ≤ x.ra ∧ x.ra ≤ 64) ∧ (1 ≤ x.c ∧ x.c ≤ 64)))
def rgt (P : Int) (x : Chn) : Bool := decide (0 ≤ x.f ∧ x.f < P ∧ 0 ≤ x.t ∧ x.t < P ∧ x.f ≠ x.t ∧ 1 ≤ x.w ∧ x.w ≤ 4 ∧ knd x = true)
def BoolPost (b : Bool) (w : World) (e : Ending) (w' : World) : Prop := e = .returned (.bool b) ∧ Below w.heap.size w w'
theorem BoolPost.mk' {b b' : Bool} {w w' : World} (hb : Below w.heap.size w w') (h : b = b') : BoolPost b w (.returned (.bool b')) w' := ⟨by rw [h], hb⟩
theorem kpost {b b' : Bool} {w w' : World} (hb : Below w.heap.size w w') (h : b = true ↔ b' = true) : BoolPost b w (.returned (.bool b')) w' := BoolPost.mk' hb (Bool.eq_iff_iff.2 h)
set_option maxHeartbeats 1000000 in
theorem kind_any (x : Chn) (w : World) : Calls Tryd.prog 69 #[x.val] w (BoolPost (knd x) w) := by
  unfold Chn.val
  obtain ⟨k, f, t, w', r, la, d, h, li, ra, c⟩ := x
  by_cases k0 : k = 0
  · simp only
    subst k0
    go_enter Tryd.func69, Tryd.ntmps69
    go_wp2_with (go_at_call 60; refine (within_any _ _ _ _).mono ?_; rintro e w' ⟨rfl, rfl⟩)
    all_goals
      go_ret
      refine kpost (b01 _ _) ⟨fun hh => ?_, fun hh => ?_⟩ <;> simp only [wth, knd, decide_eq_true_eq, Bool.false_eq_true, true_and, not_and] at * <;> omega
  · by_cases k1 : k = 1
    · simp only
      subst k1
      go_enter Tryd.func69, Tryd.ntmps69
      go_wp2_with (go_at_call 60; refine (within_any _ _ _ _).mono ?_; rintro e w' ⟨rfl, rfl⟩)
      all_goals
        go_ret
        refine kpost (b01 _ _) ⟨fun hh => ?_, fun hh => ?_⟩ <;> simp only [wth, knd, decide_eq_true_eq, Bool.false_eq_true, true_and, not_and] at * <;> omega
    · have t0 : (k == 0) = false := by simpa using k0
      have t1 : (k == 1) = false := by simpa using k1
      have HK : Hid (¬ knd ⟨k, f, t, w', r, la, d, h, li, ra, c⟩ = true) := by show ¬ knd ⟨k, f, t, w', r, la, d, h, li, ra, c⟩ = true; simp only [knd, decide_eq_true_eq]; omega
      clear k0 k1
      go_enter Tryd.func69, Tryd.ntmps69
      go_wp2
      go_ret
      exact kpost (b01 _ _) ⟨fun h => absurd h HK.out, fun h => by cases h⟩

set_option maxHeartbeats 1000000 in
theorem right_any (P : Int) (x : Chn) (a b c d : Value) (w : World) : Calls Tryd.prog 68 #[.agg #[.int .i64 P, a, b, c, d], x.val] w (BoolPost (rgt P x) w) := by
  have HK := Lib.hid (kind_any x)
  have B0 := (Blk.new w 26 #[.int .i64 P, a, b, c, d]).alloc (.cells #[.int .i64 x.k, .int .i64 x.f, .int .i64 x.t, .int .i64 x.w, .int .i64 x.r, .int .i64 x.la, .int .i64 x.d, .int .i64 x.h, .int .i64 x.li, .int .i64 x.ra, .int .i64 x.c] 37)
  have B1 := Blk.new_at (w := w.alloc (.cells #[.int .i64 P, a, b, c, d] 26)) (n := w.heap.size + 1) (by simp) 37 #[.int .i64 x.k, .int .i64 x.f, .int .i64 x.t, .int .i64 x.w, .int .i64 x.r, .int .i64 x.la, .int .i64 x.d, .int .i64 x.h, .int .i64 x.li, .int .i64 x.ra, .int .i64 x.c]
  have HB : Below w.heap.size w ((w.alloc (.cells #[.int .i64 P, a, b, c, d] 26)).alloc (.cells #[.int .i64 x.k, .int .i64 x.f, .int .i64 x.t, .int .i64 x.w, .int .i64 x.r, .int .i64 x.la, .int .i64 x.d, .int .i64 x.h, .int .i64 x.li, .int .i64 x.ra, .int .i64 x.c] 37)) := ba1 (b01 _ _) _
  unfold Chn.val at HK ⊢
  go_enter Tryd.func68, Tryd.ntmps68
  go_wp2_with (first
    | (go_at_call 67; refine (ispart_any _ _ _ _ _ _ _).mono ?_; rintro e w1 ⟨rfl, hb⟩; have HB := bt HB hb; have B0 := B0.bel hb; have B1 := B1.bel hb; have c0 := B0.cell; have c1 := B1.cell)
    | (go_at_call 60; refine (within_any _ _ _ _).mono ?_; rintro e w' ⟨rfl, rfl⟩)
    | (go_at_call 69; refine (HK.out _).mono ?_; rintro e w' ⟨rfl, hb'⟩; have HB := bt HB hb'))
  all_goals
    go_ret
    refine kpost HB ⟨fun hh => ?_, fun hh => ?_⟩ <;> by_cases hk : knd x = true <;> simp only [rgt, isp, wth, decide_eq_true_eq, hk, and_true, and_false, Bool.and_true, Bool.and_false, bne_iff_ne, Bool.false_eq_true] at * <;> omega

/-! ### The document's own -/
set_option maxHeartbeats 2000000 in
set_option maxRecDepth 100000 in
theorem rright_any (P : Int) (hP : -9223372036854775808 < P) (hP2 : P ≤ 9223372036854775807) (x : Chn) (w : World) : Calls Tryd.prog 55 #[.int .i64 P, x.val] w (BoolPost (rgt P x) w) := by
  unfold Chn.val
  obtain ⟨k, f, t, w', r, la, d, h, li, ra, c⟩ := x
  simp only
  by_cases k0 : k = 0
  · subst k0
    go_enter Tryd.func55, Tryd.ntmps55
    go_wp2_with (go_at_call 54; refine (in_any _ _ _ _).mono ?_; rintro e w' ⟨rfl, rfl⟩)
    all_goals
      go_ret
      refine kpost (b01 _ _) ⟨fun hh => ?_, fun hh => ?_⟩ <;> simp only [rgt, wth, knd, decide_eq_true_eq, Bool.false_eq_true, true_and, Bool.and_eq_true, beq_iff_eq, Bool.not_eq_eq_eq_not, Bool.not_true, Bool.not_false, decide_eq_false_iff_not, beq_eq_false_iff_ne] at * <;> omega
  · by_cases k1 : k = 1
    · subst k1
      go_enter Tryd.func55, Tryd.ntmps55
      go_wp2_with (go_at_call 54; refine (in_any _ _ _ _).mono ?_; rintro e w' ⟨rfl, rfl⟩)
      all_goals
        go_ret
        refine kpost (b01 _ _) ⟨fun hh => ?_, fun hh => ?_⟩ <;> simp only [rgt, wth, knd, decide_eq_true_eq, Bool.false_eq_true, true_and, Bool.and_eq_true, beq_iff_eq, Bool.not_eq_eq_eq_not, Bool.not_true, Bool.not_false, decide_eq_false_iff_not, beq_eq_false_iff_ne] at * <;> omega
    · have HK : Hid (¬ rgt P ⟨k, f, t, w', r, la, d, h, li, ra, c⟩ = true) := by show ¬ rgt P ⟨k, f, t, w', r, la, d, h, li, ra, c⟩ = true; simp only [rgt, knd, decide_eq_true_eq]; omega
      have hw : wth k 0 1 = false := by simp only [wth, decide_eq_false_iff_not]; omega
      clear k0 k1
      go_enter Tryd.func55, Tryd.ntmps55
      go_wp2_with (go_at_call 54; refine (in_any _ _ _ _).mono ?_; rintro e w' ⟨rfl, rfl⟩)
      go_ret
      exact kpost (b01 _ _) ⟨fun h => absurd h HK.out, fun h => by cases h⟩
end Go.Proofs.YtmfkapbllmfegaaDoor.C04
