/- Rows of numbers in memory, and the document's own Same of numbers: contracts. -/
import Derived.Test.YtmfkapbllmfegaaDoorGen
import Derived.Laws.StructEq
import Derived.Deep.QuietTactic
import Derived.BigQuiet
namespace Go.Proofs.YtmfkapbllmfegaaDoor.C04
open Go.RowKit Go.Proofs.YtmfkapbllmfegaaDoor.G

def iv (z : Int) : Value := .int .i64 z
def ivs (l : List Int) : List Value := l.map iv
theorem ivs_len (l : List Int) : (ivs l).length = l.length := by simp [ivs]
theorem ivs_one (l : List Int) : ∀ u ∈ ivs l, u.oneCell' = true := by
  intro u hu; obtain ⟨x, _, rfl⟩ := List.mem_map.1 hu; rfl
theorem ivs_app (l r : List Int) : ivs (l ++ r) = ivs l ++ ivs r := List.map_append
theorem row_int {w : World} {A : Option Addr} {l : List Int} (h : Row w A (ivs l)) {k : Nat} {x : Int} (hx : l[k]? = some x) : ∃ b o : Nat, A = some ⟨b, o, none⟩ ∧ b < w.heap.size ∧ w.cell? ⟨b, o + k, none⟩ = some (.int .i64 x) := by
  have hk := (List.getElem?_eq_some_iff.1 hx).1
  obtain ⟨b, o, e, hlt, hc⟩ := h (by rw [ivs_len]; omega)
  exact ⟨b, o, e, hlt, hc k _ (by simp [ivs, iv, hx])⟩

theorem drop_cons {α : Type} {l : List α} {k : Nat} (h : k < l.length) : ∃ x, l[k]? = some x ∧ l.drop k = x :: l.drop (k + 1) := ⟨l[k], List.getElem?_eq_getElem h, List.drop_eq_getElem_cons h⟩
def QPost (b : Bool) (w : World) (e : Ending) (w' : World) : Prop := e = .returned (.bool b) ∧ ∃ n, w' = w.drewN n
def eqb {α : Type} [DecidableEq α] (l r : List α) : Bool := decide (l = r)
theorem drop_eq {α : Type} {l r : List α} {k : Nat} (hk : k < l.length) (hl : l.length = r.length) (h : l.take k = r.take k) {x y : α} (hx : l[k]? = some x) (hy : r[k]? = some y) (e : x = y) : l.take (k + 1) = r.take (k + 1) := by
  rw [List.take_add_one, List.take_add_one, h, hx, hy, e]
def InvE {α : Type} (w : World) (l r : List α) (i : Value) (wr : World) : Prop := ∃ k m : Nat, i = .int .i64 k ∧ k ≤ l.length ∧ l.take k = r.take k ∧ wr = w.drewN m

end Go.Proofs.YtmfkapbllmfegaaDoor.C04
