/- The first check of every statement of stage 10 ('lives'): two messages, in lanes 1 and 0. -/
import Derived.Test.YtmfkapbllmfegaaQ19
namespace Go.Proofs.Ytmfkapbllmfegaa.L10
open Go.RowKit Go.Proofs.Ytmfkapbllmfegaa.G
set_option maxRecDepth 100000
variable {w w' : World} {b L P : Nat} {r : Value} {d : List MV}
theorem St.nil_ (L P : Nat) (hL : L ≤ 3) (hP : P ≤ 8) : St L P [] := ⟨hL, hP, List.Pairwise.nil, fun x hx => absurd hx (by simp), fun k => Nat.zero_le _⟩
/-- A message without words. -/
def mk0 (ln lt sq : Int) : MV := ⟨none, [], 0, ln, 0, lt, sq⟩
theorem wr0 (ln lt sq : Int) (w : World) : Wr w (mk0 ln lt sq) := ⟨Row.none_, Nat.le_refl _, by show (0 : Nat) ≤ _; omega⟩
theorem pl_mk {m : MV} {ln lt sq : Int} (h : m.pl = (mk0 ln lt sq).pl) : ∃ a c, m = ⟨a, [], c, ln, 0, lt, sq⟩ := by
  obtain ⟨a, ws, c, l, s, t, q⟩ := m
  simp only [MV.pl, mk0, Pm.mk.injEq] at h
  obtain ⟨rfl, rfl, rfl, rfl, rfl⟩ := h
  exact ⟨a, c, rfl⟩
theorem insL_nil (m : MV) : insL [] m = [m] := rfl
/-- What lanes have, and what is theirs, behind a call. -/
structure Lv (w0 w : World) (b L P : Nat) (r : Value) (d : List MV) : Prop where
  ln : Ln w b L P r d
  ab : Ab w0.heap.size b r
  bl : Below w0.heap.size w0 w
theorem Lv.below {w0 : World} (h : Lv w0 w b L P r d) (hb : Below w.heap.size w w') : Lv w0 w' b L P r d := ⟨h.ln.below hb, h.ab, bt h.bl hb⟩
theorem Lv.step {w0 : World} {r' : Value} {d' : List MV} (h : Lv w0 w b L P r d) (hl : Ln w' b L P r' d') (ho : Only (FL b r) w w') (hn : Nw w.heap.size r r') : Lv w0 w' b L P r' d' :=
  ⟨hl, h.ab.of hn h.bl.size, Only.to_below h.bl ho h.ab h.bl.size⟩
theorem Lv.out {w0 : World} {r' : Value} {d' : List MV} (h : Lv w0 w b L P r d) (hl : Ln w' b L P r' d') (ho : Only (fun k => k = b) w w') (hn : ∀ q, r'.ownBlock = some q → w.heap.size ≤ q) : Lv w0 w' b L P r' d' :=
  h.step hl (ho.mono fun k hk => .inl hk) (.inr hn)
end Go.Proofs.Ytmfkapbllmfegaa.L10
