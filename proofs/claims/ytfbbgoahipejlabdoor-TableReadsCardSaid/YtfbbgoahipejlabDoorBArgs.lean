/- A row of bytes as a statement's argument: from the row's conditions to memory. -/
import Derived.Test.YtfbbgoahipejlabDoorArgs
import Derived.Test.YtfbbgoahipejlabDoorBTurn
namespace Go.Proofs.YtfbbgoahipejlabDoor.T
open Go.ChangeShapes Go.WideShapes Go.RowKit Go.Proofs.YtfbbgoahipejlabDoor.G Go.Proofs.YtfbbgoahipejlabDoor.C04
variable {H : Type} {enc : TypeId × Value → H} {V0 : World}
set_option maxRecDepth 100000 in
theorem u8_read (fuel : Nat) (cs : List Value) (x : DataW H × List MemPlace) (h : DataW.trod enc Tryd.prog V0 0 (fun _ => true) true fuel 5 cs = some x) : ∃ a : UInt8, cs = [.int .u8 (a.toNat : Int)] ∧ True := by
  obtain ⟨m, hm, _, hw⟩ := DataW.trod_int Tryd.underlying5 h
  have hb := bounds_u8 hw
  exact ⟨W.by_ m, by rw [hm, W.by_nat m (by omega) (by omega)], trivial⟩
theorem rd_row {A : Option Addr} {l : List UInt8} (h : Row V0 A (l.flatMap fun x => [Value.int .u8 (x.toNat : Int)])) : W.Rd V0 A l := by
  intro h0
  have e : (l.flatMap fun x => [Value.int .u8 (x.toNat : Int)]) = l.map fun x => Value.int .u8 (x.toNat : Int) := by
    clear h h0
    induction l with
    | nil => rfl
    | cons a l ih => rw [List.flatMap_cons, ih]; rfl
  rw [e] at h
  obtain ⟨b, o, hA, hlt, hc⟩ := h (by simpa using h0)
  refine ⟨b, o, hA, hlt, fun j hj => hc j _ ?_⟩
  simp [hj, W.nth]
set_option maxRecDepth 100000 in
theorem open_bytes {base : Nat} {v : Value} {d : DataW H} {p : List MemPlace} (hok : Value.okWide Tryd.prog V0 .any base 22 v) (h : DataW.Trod enc Tryd.prog V0 0 (fun _ => true) true 22 v d p) :
    ∃ (A : Option Addr) (l : List UInt8) (c : Nat), v = .slice A l.length c ∧ l.length ≤ c ∧ c ≤ 9223372036854775807 ∧ W.Rd V0 A l := by
  obtain ⟨A, n, c, rfl⟩ := WideShapes.okWide_slice Tryd.underlying22 hok
  obtain ⟨fuel, hf⟩ := h
  obtain ⟨A', c', l, e, h1, h2, h3, _⟩ := open_rows (fun x : UInt8 => [Value.int .u8 (x.toNat : Int)]) (fun _ => True) 0 Tryd.underlying22 (by kernel_rfl : Tryd.prog.cellsOf 5 = 1) (by omega) (fun _ => rfl) u8_read hf
  have e' : [Value.slice A n c] = [.slice A' l.length c'] := e
  injection e' with e1 _
  exact ⟨A', l, c', e1, h1, h2, rd_row h3⟩
end Go.Proofs.YtfbbgoahipejlabDoor.T
