/- The walk of FourAlone. -/
import Derived.Test.YthkpopphefolmaaDoorLFwd
import Derived.BigQuiet
namespace Go.Proofs.YthkpopphefolmaaDoor.fourAlone
open Go.RowKit Go.Proofs.YthkpopphefolmaaDoor.G Go.Proofs.YthkpopphefolmaaDoor.Cell Go.Proofs.YthkpopphefolmaaDoor.F4
open Go.Proofs.YthkpopphefolmaaDoor.fourForward (low_more below_only)
attribute [local go_sem ↓] Go.wp_at_zero Go.wp_at_succ
set_option maxRecDepth 100000

/-- How many accesses each made: 0 where none is under way, or as many as its count says. -/
structure AInv (s : St) (m0 m1 : Int) : Prop where
  w : ∀ x, s.wr = some x → m1 = x.k
  r : ∀ y, s.rd = some y → m0 = y.k
/-- The register, the counts in block gm, and new blocks alone. -/
structure AW (w : World) (gm br : Nat) (s : St) (m0 m1 c : Int) (F : Nat → Prop) : Prop where
  reg : RegX w br s c F
  box : Blk w gm 74 #[.int .i64 m0, .int .i64 m1]
  out : ¬ F gm
  zero : ¬ F 0 ∧ gm ≠ 0
variable {w w' : World} {gm br : Nat} {s : St} {m0 m1 c : Int} {F : Nat → Prop}
theorem AW.set_ {n0 n1 : Int} (h : AW w gm br s m0 m1 c F) (i : Nat) (u : Value) (hb : #[.int .i64 m0, .int .i64 m1].setIfInBounds i u = #[.int .i64 n0, .int .i64 n1]) : AW (w.setCell ⟨gm, i, none⟩ u) gm br s n0 n1 c F ∧ Only (FG F gm) w (w.setCell ⟨gm, i, none⟩ u) :=
  ⟨⟨h.reg.only (G := fun k => k = gm) (Only.set_ (F := fun k => k = gm) (Only.refl _ _) rfl i u) (fun k hk e => h.out (by rw [← e]; exact hk)), by rw [← hb]; exact h.box.set_ i u, h.out, h.zero⟩, Only.set_ (Only.refl _ _) (.inr rfl) i u⟩
theorem AW.below (h : AW w gm br s m0 m1 c F) (hb : Below w.heap.size w w') : AW w' gm br s m0 m1 c F := ⟨h.reg.below hb, h.box.bel hb, h.out, h.zero⟩
theorem AW.call {s' : St} {c' : Int} {F' : Nat → Prop} (h : AW w gm br s m0 m1 c F) (hr : RegX w' br s' c' F') (hm : More F F' w.heap.size) (hO : Only F w w') : AW w' gm br s' m0 m1 c' F' ∧ Only (FG F gm) w w' := by
  refine ⟨⟨hr, Only.blk h.box hO h.out, fun h1 => ?_, fun h1 => ?_, h.zero.2⟩, hO.mono fun k hk => .inl hk⟩
  · rcases hm gm h1 with h2 | h2
    · exact h.out h2
    · have := h.box.lt; omega
  · rcases hm 0 h1 with h2 | h2
    · exact h.zero.1 h2
    · have := h.box.lt; omega
def InvAl (w : World) (gm br : Nat) (W n : Nat) (i : Value) (V : World) : Prop := ∃ (k : Nat) (s : St) (m0 m1 c : Int) (F : Nat → Prop), i = .int .i64 k ∧ k ≤ n ∧ k ≤ 200 ∧ AW V gm br s m0 m1 c F ∧ s.W = W ∧ AInv s m0 m1 ∧ 0 ≤ m0 ∧ m0 ≤ 20 ∧ 0 ≤ m1 ∧ m1 ≤ 20 ∧ c ≤ k ∧ Below w.heap.size w V ∧ (∀ q, F q → w.heap.size ≤ q)
/-- The writer's Step, where one is under way. -/
theorem wstep_k {s : St} {x : Wr} (ok : Ok s) (hx : s.wr = some x) : wDone s = decide ((x.k : Int) + 1 = s.W + 4) ∧ wErr s = 0 ∧ wLeft (wStep s) = 4 + s.W - (x.k + 1) ∧ (wStep s).W = s.W ∧ (wStep s).rd = s.rd ∧ ∀ z, (wStep s).wr = some z → (z.k : Int) = x.k + 1 := by
  have hk := (ok.wr x hx).k
  have hs : wStep s = wNext s x := by simp [wStep, hx]
  have hd : wDone s = decide (x.k = 3 + s.W) := by simp [wDone, hx]
  have hE : wErr s = 0 := by simp [wErr, hx]
  refine ⟨by rw [hd]; exact decide_eq_decide.2 (by omega), hE, ?_⟩
  rw [hs]
  unfold wNext
  split
  · rename_i k0
    exact ⟨by simp [wLeft]; omega, rfl, rfl, fun z e => by obtain rfl := Option.some.inj e; show ((1 : Nat) : Int) = x.k + 1; omega⟩
  split
  · rename_i k0 k1
    exact ⟨by simp [wLeft]; omega, rfl, rfl, fun z e => by obtain rfl := Option.some.inj e; show ((2 : Nat) : Int) = x.k + 1; omega⟩
  split
  · exact ⟨by simp [wLeft], rfl, rfl, fun z e => by obtain rfl := Option.some.inj e; show ((x.k + 1 : Nat) : Int) = x.k + 1; omega⟩
  split
  · exact ⟨by simp [wLeft], rfl, rfl, fun z e => by obtain rfl := Option.some.inj e; show ((x.k + 1 : Nat) : Int) = x.k + 1; omega⟩
  · exact ⟨by simp [wLeft]; omega, rfl, rfl, fun z e => (by cases e)⟩
theorem rstep_k {s : St} {y : Rr} (ok : Ok s) (hy : s.rd = some y) : rDone s = decide ((y.k : Int) + 1 = s.W + 3) ∧ rErr s = 0 ∧ rLeft (rStep s) = 3 + s.W - (y.k + 1) ∧ (rStep s).W = s.W ∧ (rStep s).wr = s.wr ∧ ∀ z, (rStep s).rd = some z → (z.k : Int) = y.k + 1 := by
  have hk := (ok.rd y hy).k
  have hw := ok.w1
  have hs : rStep s = rNext s y := by simp [rStep, hy]
  have hd : rDone s = decide (y.k = 2 + s.W) := by simp [rDone, hy]
  have hE : rErr s = 0 := by simp [rErr, hy]
  refine ⟨by rw [hd]; exact decide_eq_decide.2 (by omega), hE, ?_⟩
  rw [hs]
  unfold rNext
  split
  · rename_i k0
    exact ⟨by simp [rLeft]; omega, rfl, rfl, fun z e => by obtain rfl := Option.some.inj e; show ((1 : Nat) : Int) = y.k + 1; omega⟩
  split
  · rename_i k0 k1
    exact ⟨by simp [rLeft]; omega, rfl, rfl, fun z e => by obtain rfl := Option.some.inj e; show ((2 : Nat) : Int) = y.k + 1; omega⟩
  split
  · rename_i k0 k1 k2
    exact ⟨by simp [rLeft]; omega, rfl, rfl, fun z e => by obtain rfl := Option.some.inj e; show ((3 : Nat) : Int) = y.k + 1; omega⟩
  split
  · exact ⟨by simp [rLeft], rfl, rfl, fun z e => by obtain rfl := Option.some.inj e; show ((y.k + 1 : Nat) : Int) = y.k + 1; omega⟩
  · exact ⟨by simp [rLeft]; omega, rfl, rfl, fun z e => (by cases e)⟩
end Go.Proofs.YthkpopphefolmaaDoor.fourAlone
