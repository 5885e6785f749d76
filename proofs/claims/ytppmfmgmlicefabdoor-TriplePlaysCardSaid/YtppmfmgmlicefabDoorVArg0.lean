/- What the statements read of their arguments: slices of numbers, such slices in structs. -/
import Derived.Test.YtppmfmgmlicefabDoorGArgs
import Derived.Test.YtppmfmgmlicefabDoorV1
namespace Go.Proofs.YtppmfmgmlicefabDoor.T3
open Go.ChangeShapes Go.WideShapes Go.RowKit Go.Proofs.YtppmfmgmlicefabDoor.G Go.Proofs.YtppmfmgmlicefabDoor.C04
set_option maxRecDepth 100000
variable {H : Type} {enc : TypeId × Value → H} {V0 : World}
theorem num_read (fuel : Nat) (cs : List Value) (x : DataW H × List MemPlace) (h : DataW.trod enc Tryd.prog V0 0 (fun _ => true) true fuel 3 cs = some x) : ∃ a : Int, cs = [.int .i64 a] ∧ -9223372036854775808 ≤ a ∧ a ≤ 9223372036854775807 := by
  obtain ⟨m, hm, _, hw⟩ := DataW.trod_int Tryd.underlying3 h
  exact ⟨m, hm, bounds_i64 hw⟩
theorem iv'_flat (l : List Int) : (l.flatMap fun z => [Value.int .i64 z]) = iv' l := by
  induction l with
  | nil => rfl
  | cons a l ih => rw [List.flatMap_cons, ih]; rfl
theorem open_nums {base : Nat} {v : Value} {d : DataW H} {p : List MemPlace} (hok : Value.okWide Tryd.prog V0 .any base 27 v) (h : DataW.Trod enc Tryd.prog V0 0 (fun _ => true) true 27 v d p) :
    ∃ (A : Option Addr) (l : List Int) (c : Nat), v = .slice A l.length c ∧ l.length ≤ c ∧ c ≤ 9223372036854775807 ∧ Row V0 A (iv' l) := by
  obtain ⟨A, n, c, rfl⟩ := WideShapes.okWide_slice Tryd.underlying27 hok
  obtain ⟨fuel, hf⟩ := h
  obtain ⟨A', c', l, e, h1, h2, h3, _⟩ := open_rows (fun z : Int => [Value.int .i64 z]) (fun a => -9223372036854775808 ≤ a ∧ a ≤ 9223372036854775807) 0 Tryd.underlying27 (by kernel_rfl : Tryd.prog.cellsOf 3 = 1) (by omega) (fun _ => rfl) num_read hf
  have e' : [Value.slice A n c] = [.slice A' l.length c'] := e
  injection e' with e1 _
  exact ⟨A', l, c', e1, h1, h2, by rw [iv'_flat] at h3; exact h3⟩
/-- A slice that lies in a slice: where it lies, what it holds, its room. -/
abbrev Sl := Option Addr × List Int × Nat
def scell (x : Sl) : List Value := [.slice x.1 x.2.1.length x.2.2]
def SlOk (V0 : World) (x : Sl) : Prop := x.2.1.length ≤ x.2.2 ∧ x.2.2 ≤ 9223372036854775807 ∧ Row V0 x.1 (iv' x.2.1)
theorem sl_read (fuel : Nat) (cs : List Value) (x : DataW H × List MemPlace) (h : DataW.trod enc Tryd.prog V0 0 (fun _ => true) true fuel 27 cs = some x) : ∃ a : Sl, cs = scell a ∧ SlOk V0 a := by
  obtain ⟨A', c', l, e, h1, h2, h3, _⟩ := open_rows (fun z : Int => [Value.int .i64 z]) (fun a => -9223372036854775808 ≤ a ∧ a ≤ 9223372036854775807) 0 Tryd.underlying27 (by kernel_rfl : Tryd.prog.cellsOf 3 = 1) (by omega) (fun _ => rfl) num_read h
  exact ⟨(A', l, c'), e, h1, h2, by rw [iv'_flat] at h3; exact h3⟩
theorem sls_at {A : Option Addr} {l : List Sl} {w : World} (h : Row w A (l.flatMap scell)) {k : Nat} {u : Sl} (hk : l[k]? = some u) : ∃ b o : Nat, A = some ⟨b, o, none⟩ ∧ b < w.heap.size ∧ w.cell? ⟨b, o + k, none⟩ = some (.slice u.1 u.2.1.length u.2.2) := by
  have hlt := (List.getElem?_eq_some_iff.1 hk).1
  have h1 := flat_at (f := scell) (m := 1) (fun _ => rfl) l k 0 u hk (by omega)
  rw [Nat.mul_one, Nat.add_zero] at h1
  obtain ⟨b, o, e, hb, hc⟩ := h (by rw [flat_len (m := 1) (fun _ => rfl)]; omega)
  exact ⟨b, o, e, hb, hc k _ h1⟩
end Go.Proofs.YtppmfmgmlicefabDoor.T3
