/- Ahead of stage 13's walks. -/
import Derived.Test.YtmfkapbllmfegaaDoorWn12
import Derived.Test.YtmfkapbllmfegaaDoorFew13
import Derived.Test.YtmfkapbllmfegaaDoorGood
namespace Go.Proofs.YtmfkapbllmfegaaDoor.W13
open Go.RowKit Go.Proofs.YtmfkapbllmfegaaDoor.G Go.Proofs.YtmfkapbllmfegaaDoor.C04 Go.Proofs.YtmfkapbllmfegaaDoor.Sat
theorem agg_of {w : World} {v : Value} {c : Cfg} (h : CfgAt w v c) : ∃ (A1 A2 A3 : Option Addr) (c1 c2 c3 : Nat), v = .agg #[.int .i64 c.P, .int .i64 c.F, .slice A1 c.ws.length c1, .slice A2 c.cs.length c2, .slice A3 c.ac.length c3] := by
  obtain ⟨A1, A2, A3, c1, c2, c3, e, _⟩ := h
  exact ⟨A1, A2, A3, c1, c2, c3, e⟩
theorem no_win {P F : Int} {cs : List Chn} {ac : List Int} : flt ⟨P, F, [], cs, ac⟩ ≠ none := fun h => by
  have := (flt_none h).2.2.1.1
  simp at this
theorem cfg_nowin {w : World} {g : Cfg} {Q1 Q2 Q3 : Option Addr} {q1 q2 q3 : Nat} (h : CfgAt w (.agg #[.int .i64 g.P, .int .i64 g.F, .slice Q1 g.ws.length q1, .slice Q2 g.cs.length q2, .slice Q3 g.ac.length q3]) g) : CfgAt w (.agg #[.int .i64 g.P, .int .i64 g.F, .slice none 0 0, .slice Q2 g.cs.length q2, .slice Q3 g.ac.length q3]) ⟨g.P, g.F, [], g.cs, g.ac⟩ := by
  obtain ⟨B1, B2, B3, d1, d2, d3, e, h1, h2, h3, l1, m1, l2, m2, l3, m3, hw⟩ := h
  simp only [Value.agg.injEq, Array.mk.injEq, List.cons.injEq, Value.slice.injEq, true_and, and_true] at e
  obtain ⟨⟨rfl, rfl⟩, ⟨rfl, rfl⟩, rfl, rfl⟩ := e
  exact ⟨none, Q2, Q3, 0, q2, q3, rfl, Row.none_, h2, h3, Nat.le_refl _, by omega, l2, m2, l3, m3, fun k x hx => by simp at hx⟩
end Go.Proofs.YtmfkapbllmfegaaDoor.W13
