/- A channel's box is stored to: eleven cells. -/
import Derived.Test.YtmfkapbllmfegaaAFst
namespace Go.Proofs.Ytmfkapbllmfegaa.A12
open Go.RowKit Go.Proofs.Ytmfkapbllmfegaa.G Go.Proofs.Ytmfkapbllmfegaa.L10 Go.Proofs.Ytmfkapbllmfegaa.C04
set_option maxRecDepth 100000
variable {V w : World} {ks B : Nat}
theorem put11 {z0 z1 z2 z3 z4 z5 z6 z7 z8 z9 z10 : Value} (h : Blk V ks 23 #[z0, z1, z2, z3, z4, z5, z6, z7, z8, z9, z10]) (u0 u1 u2 u3 u4 u5 u6 u7 u8 u9 u10 : Value) : Blk (((((((((((V.setCell ⟨ks, 0, none⟩ u0).setCell ⟨ks, 1, none⟩ u1).setCell ⟨ks, 2, none⟩ u2).setCell ⟨ks, 3, none⟩ u3).setCell ⟨ks, 4, none⟩ u4).setCell ⟨ks, 5, none⟩ u5).setCell ⟨ks, 6, none⟩ u6).setCell ⟨ks, 7, none⟩ u7).setCell ⟨ks, 8, none⟩ u8).setCell ⟨ks, 9, none⟩ u9).setCell ⟨ks, 10, none⟩ u10) ks 23 #[u0, u1, u2, u3, u4, u5, u6, u7, u8, u9, u10] := by
  have h' := (((((((((((h.set_ 0 u0).set_ 1 u1).set_ 2 u2).set_ 3 u3).set_ 4 u4).set_ 5 u5).set_ 6 u6).set_ 7 u7).set_ 8 u8).set_ 9 u9).set_ 10 u10)
  simpa only [List.setIfInBounds_toArray, List.set_cons_zero, List.set_cons_succ] using h'
theorem bel11 (h : Below B w V) (hq : B ≤ ks) (u0 u1 u2 u3 u4 u5 u6 u7 u8 u9 u10 : Value) : Below B w (((((((((((V.setCell ⟨ks, 0, none⟩ u0).setCell ⟨ks, 1, none⟩ u1).setCell ⟨ks, 2, none⟩ u2).setCell ⟨ks, 3, none⟩ u3).setCell ⟨ks, 4, none⟩ u4).setCell ⟨ks, 5, none⟩ u5).setCell ⟨ks, 6, none⟩ u6).setCell ⟨ks, 7, none⟩ u7).setCell ⟨ks, 8, none⟩ u8).setCell ⟨ks, 9, none⟩ u9).setCell ⟨ks, 10, none⟩ u10) := (((((((((((h.setCell (p := ⟨ks, 0, none⟩) hq u0).setCell (p := ⟨ks, 1, none⟩) hq u1).setCell (p := ⟨ks, 2, none⟩) hq u2).setCell (p := ⟨ks, 3, none⟩) hq u3).setCell (p := ⟨ks, 4, none⟩) hq u4).setCell (p := ⟨ks, 5, none⟩) hq u5).setCell (p := ⟨ks, 6, none⟩) hq u6).setCell (p := ⟨ks, 7, none⟩) hq u7).setCell (p := ⟨ks, 8, none⟩) hq u8).setCell (p := ⟨ks, 9, none⟩) hq u9).setCell (p := ⟨ks, 10, none⟩) hq u10)
end Go.Proofs.Ytmfkapbllmfegaa.A12
