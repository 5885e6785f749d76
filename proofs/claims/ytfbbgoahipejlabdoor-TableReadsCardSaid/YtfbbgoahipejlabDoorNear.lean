/- The document's own 'near' (a number from one on, so many at most) and 'channel' (one that is right, made of any): contracts. -/
import Derived.Test.YtfbbgoahipejlabDoorKind
import Derived.RegionTactic
import Derived.Deep.RegionHeld3
import Derived.Deep.DrawnRows
import Derived.Deep.DeepCutAuto
import Derived.Deep.CutRange
namespace Go.Proofs.YtfbbgoahipejlabDoor.C04
open Go.RowKit Go.Proofs.YtfbbgoahipejlabDoor.G
attribute [local go_sem ↓] Go.wp_at_zero Go.wp_at_succ

def nearV (n least many : Int) : Int := least + (IntKind.u64.wrap n).tmod many
theorem nearV_bd (n least many : Int) (h0 : 0 < many) : least ≤ nearV n least many ∧ nearV n least many < least + many := by
  have q0 : 0 ≤ (IntKind.u64.wrap n).tmod many := Int.tmod_nonneg _ (by rw [IntKind.wrap_u64]; omega)
  have q1 : (IntKind.u64.wrap n).tmod many < many := Int.tmod_lt_of_pos _ h0
  unfold nearV; omega
def smallC (x : Chn) : Prop := x.r ≤ 30 ∧ x.d ≤ 4 ∧ x.h ≤ 4 ∧ x.li ≤ 60 ∧ x.ra ≤ 4 ∧ x.c ≤ 6
def ChnPost (P : Int) (w : World) (e : Ending) (w' : World) : Prop := ∃ x : Chn, e = .returned x.val ∧ rgt P x = true ∧ smallC x ∧ Below w.heap.size w w'
theorem turn_bd (f d P : Int) (h0 : 0 ≤ f) (h1 : f < P) (h2 : 1 ≤ d) (h3 : d < P) : 0 ≤ (f + d).tmod P ∧ (f + d).tmod P < P ∧ f ≠ (f + d).tmod P := by
  rw [Int.tmod_eq_emod_of_nonneg (by omega)]
  by_cases h : f + d < P
  · rw [Int.emod_eq_of_lt (by omega) h]; omega
  · have e : (f + d) % P = f + d - P := by
      rw [← Int.sub_emod_right, Int.emod_eq_of_lt (by omega) (by omega)]
    rw [e]; omega
/-- Behind a region of 'channel': its three blocks. -/
def ChCut (w : World) (g : Nat) (ck co : Array Value) (x : Chn) (W : World) : Prop := g ≠ w.heap.size ∧ g ≠ w.heap.size + 1 ∧ w.heap.size ≤ g ∧ Blk W w.heap.size 118 ck ∧ Blk W (w.heap.size + 1) 118 co ∧ Blk W g 118 x.cells.toArray ∧ Below w.heap.size w W
theorem ChCut.set_ {w W : World} {g : Nat} {ck co : Array Value} {x y : Chn} (h : ChCut w g ck co x W) (i : Nat) (z : Int) (hy : x.cells.toArray.setIfInBounds i (.int .i64 z) = y.cells.toArray) : ChCut w g ck co y (W.setCell ⟨g, i, none⟩ (.int .i64 z)) := by
  obtain ⟨n0, n1, hg, h0, h1, h2, hb⟩ := h
  exact ⟨n0, n1, hg, h0.far (p := ⟨g, i, none⟩) (by simpa using n0.symm) _, h1.far (p := ⟨g, i, none⟩) (by simpa using n1.symm) _, by rw [← hy]; exact h2.set_ i _, hb.setCell hg _⟩
theorem ChCut.drew {w W : World} {g : Nat} {ck co : Array Value} {x : Chn} (h : ChCut w g ck co x W) : ChCut w g ck co x W.drew := by
  obtain ⟨n0, n1, hg, h0, h1, h2, hb⟩ := h
  exact ⟨n0, n1, hg, h0, h1, h2, hb.drew⟩
def Cut1 (w : World) (ck co : Array Value) (x : Chn) (s5 : Value) (W : World) : Prop := ∃ g, s5 = .pointer (some ⟨g, 0, none⟩) ∧ ChCut w g ck co x W
def Cut2 (w : World) (g : Nat) (ck co : Array Value) (x : Chn) (W : World) : Prop := ChCut w g ck co x W
end Go.Proofs.YtfbbgoahipejlabDoor.C04
