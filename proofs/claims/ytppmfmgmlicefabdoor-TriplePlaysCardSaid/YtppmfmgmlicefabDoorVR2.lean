/- The document's register of three slots: the write's access of a word: contracts. -/
import Derived.Test.YtppmfmgmlicefabDoorVR1
import Derived.StillTailTactics
import Derived.Deep.RegionHeld3
namespace Go.Proofs.YtppmfmgmlicefabDoor.T3
open Go.RowKit Go.Proofs.YtppmfmgmlicefabDoor.G Go.Proofs.YtppmfmgmlicefabDoor.Cell
set_option maxRecDepth 100000
variable {w : World} {W m b f k : Int} {A0 A1 A2 Ai Ao : Option Addr} {n0 n1 n2 ni no c0 c1 c2 ci co : Nat} {ws rs ak fr : Bool}
theorem LF.drew_ {N : Nat → Prop} {v : Value} {l : List Int} (h : LF w N v l) : LF w.drew N v l := h.bel (Below.refl _ _).drew
/-- Fourteen cells put, of one block. -/
abbrev put14 (w : World) (b : Nat) (u0 u1 u2 u3 u4 u5 u6 u7 u8 u9 ua ub uc ud : Value) : World := (((((((((((((w.setCell ⟨b, 0, none⟩ u0).setCell ⟨b, 1, none⟩ u1).setCell ⟨b, 2, none⟩ u2).setCell ⟨b, 3, none⟩ u3).setCell ⟨b, 4, none⟩ u4).setCell ⟨b, 5, none⟩ u5).setCell ⟨b, 6, none⟩ u6).setCell ⟨b, 7, none⟩ u7).setCell ⟨b, 8, none⟩ u8).setCell ⟨b, 9, none⟩ u9).setCell ⟨b, 10, none⟩ ua).setCell ⟨b, 11, none⟩ ub).setCell ⟨b, 12, none⟩ uc).setCell ⟨b, 13, none⟩ ud
theorem only14 (w : World) (b : Nat) {u0 u1 u2 u3 u4 u5 u6 u7 u8 u9 ua ub uc ud : Value} : Only (fun x => x = b) w (put14 w b u0 u1 u2 u3 u4 u5 u6 u7 u8 u9 ua ub uc ud) :=
  have hb : (fun x => x = b) b := rfl
  (((((((((((((((Only.refl (fun x => x = b) w).set_ hb 0 u0).set_ hb 1 u1).set_ hb 2 u2).set_ hb 3 u3).set_ hb 4 u4).set_ hb 5 u5).set_ hb 6 u6).set_ hb 7 u7).set_ hb 8 u8).set_ hb 9 u9).set_ hb 10 ua).set_ hb 11 ub).set_ hb 12 uc).set_ hb 13 ud)
theorem bel_only {a w w' : World} {F : Nat → Prop} (h : Below a.heap.size a w) (hO : Only F w w') (hF : ∀ b, F b → a.heap.size ≤ b) : Below a.heap.size a w' := Only.to_below h hO hF h.size
/-- A new list, in blocks that are new. -/
def OwnP (w : World) (l : List Int) (g : Option Addr → Nat → Value) (e : Ending) (w' : World) : Prop := ∃ A c, e = .returned (g A c) ∧ (∀ N : Nat → Prop, (∀ g, w.heap.size ≤ g → N g) → LF w' N (.slice A l.length c) l) ∧ Below w.heap.size w w'
end Go.Proofs.YtppmfmgmlicefabDoor.T3
