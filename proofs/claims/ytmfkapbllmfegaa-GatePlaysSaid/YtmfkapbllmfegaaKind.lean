/- Which channels are right: package config's isOfKind and Right, and the document's own Right: contracts against one plain function. -/
import Derived.Test.YtmfkapbllmfegaaCfg
namespace Go.Proofs.Ytmfkapbllmfegaa.C04
open Go.RowKit Go.Proofs.Ytmfkapbllmfegaa.G

def Chn.val (x : Chn) : Value := .agg #[.int .i64 x.k, .int .i64 x.f, .int .i64 x.t, .int .i64 x.w, .int .i64 x.r, .int .i64 x.la, .int .i64 x.d, .int .i64 x.h, .int .i64 x.li, .int .i64 x.ra, .int .i64 x.c]
def knd (x : Chn) : Bool := decide ((x.k = 0 ∧ (1 ≤ x.r ∧ x.r ≤ 65536) ∧ x.la = 0 ∧ x.d = 0 ∧ x.h = 0 ∧ x.li = 0 ∧ x.ra = 0 ∧ x.c = 0) ∨ (x.k = 1 ∧ x.r = 0 ∧ (1 ≤ x.la ∧ x.la ≤ 3) ∧ (1 ≤ x.d ∧ x.d ≤ 8) ∧ (1 ≤ x.h ∧ x.h ≤ 8) ∧ (1 ≤ x.li ∧ x.li ≤ 65536) ∧ (0 ≤ x.ra ∧ x.ra ≤ 64) ∧ (1 ≤ x.c ∧ x.c ≤ 64)))
def rgt (P : Int) (x : Chn) : Bool := decide (0 ≤ x.f ∧ x.f < P ∧ 0 ≤ x.t ∧ x.t < P ∧ x.f ≠ x.t ∧ 1 ≤ x.w ∧ x.w ≤ 4 ∧ knd x = true)
def BoolPost (b : Bool) (w : World) (e : Ending) (w' : World) : Prop := e = .returned (.bool b) ∧ Below w.heap.size w w'
theorem BoolPost.mk' {b b' : Bool} {w w' : World} (hb : Below w.heap.size w w') (h : b = b') : BoolPost b w (.returned (.bool b')) w' := ⟨by rw [h], hb⟩
theorem kpost {b b' : Bool} {w w' : World} (hb : Below w.heap.size w w') (h : b = true ↔ b' = true) : BoolPost b w (.returned (.bool b')) w' := BoolPost.mk' hb (Bool.eq_iff_iff.2 h)
/-! ### The document's own -/
end Go.Proofs.Ytmfkapbllmfegaa.C04
