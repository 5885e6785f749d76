/- What the statements of stage 7 read of their arguments: rows of turns, of bools, of numbers. -/
import Derived.Test.YtdablfanmlmjkaaDoorGArgs
import Derived.Test.YtdablfanmlmjkaaDoorV1
namespace Go.Proofs.YtdablfanmlmjkaaDoor.T3
open Go.ChangeShapes Go.WideShapes Go.RowKit Go.Proofs.YtdablfanmlmjkaaDoor.G Go.Proofs.YtdablfanmlmjkaaDoor.C04
set_option maxRecDepth 100000
variable {H : Type} {enc : TypeId × Value → H} {V0 : World}
def bvs (l : List Bool) : List Value := l.flatMap fun b => [Value.bool b]
theorem bool_read (fuel : Nat) (cs : List Value) (x : DataW H × List MemPlace) (h : DataW.trod enc Tryd.prog V0 0 (fun _ => true) true fuel 4 cs = some x) : ∃ a : Bool, cs = [.bool a] ∧ True := by
  obtain ⟨m, hm, _⟩ := DataW.trod_bool Tryd.underlying4 h
  exact ⟨m, hm, trivial⟩
theorem open_bools_ {base : Nat} {v : Value} {d : DataW H} {p : List MemPlace} (hok : Value.okWide Tryd.prog V0 .any base 60 v) (h : DataW.Trod enc Tryd.prog V0 0 (fun _ => true) true 60 v d p) :
    ∃ (A : Option Addr) (l : List Bool) (c : Nat), v = .slice A l.length c ∧ l.length ≤ c ∧ c ≤ 9223372036854775807 ∧ Row V0 A (bvs l) := by
  obtain ⟨A, n, c, rfl⟩ := WideShapes.okWide_slice Tryd.underlying60 hok
  obtain ⟨fuel, hf⟩ := h
  obtain ⟨A', c', l, e, h1, h2, h3, _⟩ := open_rows (fun b : Bool => [Value.bool b]) (fun _ => True) false Tryd.underlying60 (by kernel_rfl : Tryd.prog.cellsOf 4 = 1) (by omega) (fun _ => rfl) bool_read hf
  have e' : [Value.slice A n c] = [.slice A' l.length c'] := e
  injection e' with e1 _
  exact ⟨A', l, c', e1, h1, h2, h3⟩
/-- A turn: of the writer?, dropped? -/
abbrev Tn := Bool × Bool
def tcells (t : Tn) : List Value := [.bool t.1, .bool t.2]
def tvs (l : List Tn) : List Value := l.flatMap tcells
theorem turn_read (fuel : Nat) (cs : List Value) (x : DataW H × List MemPlace) (h : DataW.trod enc Tryd.prog V0 0 (fun _ => true) true fuel 58 cs = some x) : ∃ a : Tn, cs = tcells a ∧ True := by
  have hu : Tryd.prog.underlying 58 = some (.struct (Tryd.prog.fieldsOf 58)) := by kernel_rfl
  have hone : Deep.oneCellFields Tryd.prog (Tryd.prog.fieldsOf 58) = true := by kernel_rfl
  obtain ⟨xs, n, _, _, hlen, hxl, hf⟩ := DataW.trod_struct hu h
  have hC : Tryd.prog.cellsOf 58 = 2 := by kernel_rfl
  rw [hC] at hlen
  have key : ∀ i, i < 2 → ((Tryd.prog.fieldsOf 58)[i]?).map (·.type) = some 4 → ∃ m : Bool, cs[i]? = some (.bool m) := by
    intro i hi hT
    obtain ⟨f, hfi, hft⟩ := Option.map_eq_some_iff.1 hT
    obtain ⟨ho, hk'⟩ := Deep.hone_of hone i f hfi
    have h1 := hf i f hfi
    rw [ho, hk', hft, List.getElem?_eq_getElem (by have : xs.length = 2 := hxl.trans (by kernel_rfl); omega)] at h1
    obtain ⟨m, hm, _⟩ := DataW.trod_bool Tryd.underlying4 h1
    refine ⟨m, ?_⟩
    have := congrArg (·[0]?) hm
    simpa [List.getElem?_take] using this
  obtain ⟨m0, e0⟩ := key 0 (by omega) (by kernel_rfl)
  obtain ⟨m1, e1⟩ := key 1 (by omega) (by kernel_rfl)
  refine ⟨(m0, m1), ?_, trivial⟩
  apply List.ext_getElem?
  intro i
  rcases i with _ | _ | i
  · rw [e0]; rfl
  · rw [e1]; rfl
  · rw [List.getElem?_eq_none (by omega), List.getElem?_eq_none (by simp [tcells])]
theorem open_turns {base : Nat} {v : Value} {d : DataW H} {p : List MemPlace} (hok : Value.okWide Tryd.prog V0 .any base 53 v) (h : DataW.Trod enc Tryd.prog V0 0 (fun _ => true) true 53 v d p) :
    ∃ (A : Option Addr) (l : List Tn) (c : Nat), v = .slice A l.length c ∧ l.length ≤ c ∧ c ≤ 9223372036854775807 ∧ Row V0 A (tvs l) := by
  obtain ⟨A, n, c, rfl⟩ := WideShapes.okWide_slice Tryd.underlying53 hok
  obtain ⟨fuel, hf⟩ := h
  obtain ⟨A', c', l, e, h1, h2, h3, _⟩ := open_rows tcells (fun _ => True) (false, false) Tryd.underlying53 (by kernel_rfl : Tryd.prog.cellsOf 58 = 2) (by omega) (fun _ => rfl) turn_read hf
  have e' : [Value.slice A n c] = [.slice A' l.length c'] := e
  injection e' with e1 _
  exact ⟨A', l, c', e1, h1, h2, h3⟩
theorem num_read (fuel : Nat) (cs : List Value) (x : DataW H × List MemPlace) (h : DataW.trod enc Tryd.prog V0 0 (fun _ => true) true fuel 3 cs = some x) : ∃ a : Int, cs = [.int .i64 a] ∧ -9223372036854775808 ≤ a ∧ a ≤ 9223372036854775807 := by
  obtain ⟨m, hm, _, hw⟩ := DataW.trod_int Tryd.underlying3 h
  exact ⟨m, hm, bounds_i64 hw⟩
theorem iv'_flat (l : List Int) : (l.flatMap fun z => [Value.int .i64 z]) = iv' l := by
  induction l with
  | nil => rfl
  | cons a l ih => rw [List.flatMap_cons, ih]; rfl
theorem open_nums {base : Nat} {v : Value} {d : DataW H} {p : List MemPlace} (hok : Value.okWide Tryd.prog V0 .any base 26 v) (h : DataW.Trod enc Tryd.prog V0 0 (fun _ => true) true 26 v d p) :
    ∃ (A : Option Addr) (l : List Int) (c : Nat), v = .slice A l.length c ∧ l.length ≤ c ∧ c ≤ 9223372036854775807 ∧ Row V0 A (iv' l) := by
  obtain ⟨A, n, c, rfl⟩ := WideShapes.okWide_slice Tryd.underlying26 hok
  obtain ⟨fuel, hf⟩ := h
  obtain ⟨A', c', l, e, h1, h2, h3, _⟩ := open_rows (fun z : Int => [Value.int .i64 z]) (fun a => -9223372036854775808 ≤ a ∧ a ≤ 9223372036854775807) 0 Tryd.underlying26 (by kernel_rfl : Tryd.prog.cellsOf 3 = 1) (by omega) (fun _ => rfl) num_read hf
  have e' : [Value.slice A n c] = [.slice A' l.length c'] := e
  injection e' with e1 _
  exact ⟨A', l, c', e1, h1, h2, by rw [iv'_flat] at h3; exact h3⟩
/-- A slice that lies in a slice: where it lies, what it holds, its room. -/
abbrev Sl := Option Addr × List Int × Nat
def scell (x : Sl) : List Value := [.slice x.1 x.2.1.length x.2.2]
def SlOk (V0 : World) (x : Sl) : Prop := x.2.1.length ≤ x.2.2 ∧ x.2.2 ≤ 9223372036854775807 ∧ Row V0 x.1 (iv' x.2.1)
theorem sl_read (fuel : Nat) (cs : List Value) (x : DataW H × List MemPlace) (h : DataW.trod enc Tryd.prog V0 0 (fun _ => true) true fuel 26 cs = some x) : ∃ a : Sl, cs = scell a ∧ SlOk V0 a := by
  obtain ⟨A', c', l, e, h1, h2, h3, _⟩ := open_rows (fun z : Int => [Value.int .i64 z]) (fun a => -9223372036854775808 ≤ a ∧ a ≤ 9223372036854775807) 0 Tryd.underlying26 (by kernel_rfl : Tryd.prog.cellsOf 3 = 1) (by omega) (fun _ => rfl) num_read h
  exact ⟨(A', l, c'), e, h1, h2, by rw [iv'_flat] at h3; exact h3⟩
theorem open_lists {base : Nat} {v : Value} {d : DataW H} {p : List MemPlace} (hok : Value.okWide Tryd.prog V0 .any base 63 v) (h : DataW.Trod enc Tryd.prog V0 0 (fun _ => true) true 63 v d p) :
    ∃ (A : Option Addr) (l : List Sl) (c : Nat), v = .slice A l.length c ∧ l.length ≤ c ∧ c ≤ 9223372036854775807 ∧ Row V0 A (l.flatMap scell) ∧ ∀ (k : Nat) (y : Sl), l[k]? = some y → SlOk V0 y := by
  obtain ⟨A, n, c, rfl⟩ := WideShapes.okWide_slice Tryd.underlying63 hok
  obtain ⟨fuel, hf⟩ := h
  obtain ⟨A', c', l, e, h1, h2, h3, h4⟩ := open_rows scell (SlOk V0) (none, [], 0) Tryd.underlying63 (by kernel_rfl : Tryd.prog.cellsOf 26 = 1) (by omega) (fun _ => rfl) sl_read hf
  have e' : [Value.slice A n c] = [.slice A' l.length c'] := e
  injection e' with e1 _
  exact ⟨A', l, c', e1, h1, h2, h3, h4⟩
theorem sls_at {A : Option Addr} {l : List Sl} {w : World} (h : Row w A (l.flatMap scell)) {k : Nat} {u : Sl} (hk : l[k]? = some u) : ∃ b o : Nat, A = some ⟨b, o, none⟩ ∧ b < w.heap.size ∧ w.cell? ⟨b, o + k, none⟩ = some (.slice u.1 u.2.1.length u.2.2) := by
  have hlt := (List.getElem?_eq_some_iff.1 hk).1
  have h1 := flat_at (f := scell) (m := 1) (fun _ => rfl) l k 0 u hk (by omega)
  rw [Nat.mul_one, Nat.add_zero] at h1
  obtain ⟨b, o, e, hb, hc⟩ := h (by rw [flat_len (m := 1) (fun _ => rfl)]; omega)
  exact ⟨b, o, e, hb, hc k _ h1⟩
theorem bvs_at {A : Option Addr} {l : List Bool} {w : World} (h : Row w A (bvs l)) {k : Nat} {u : Bool} (hk : l[k]? = some u) : ∃ b o : Nat, A = some ⟨b, o, none⟩ ∧ b < w.heap.size ∧ w.cell? ⟨b, o + k, none⟩ = some (.bool u) := by
  have hlt := (List.getElem?_eq_some_iff.1 hk).1
  have h1 := flat_at (f := fun b : Bool => [Value.bool b]) (m := 1) (fun _ => rfl) l k 0 u hk (by omega)
  rw [Nat.mul_one, Nat.add_zero] at h1
  obtain ⟨b, o, e, hb, hc⟩ := h (by unfold bvs; rw [flat_len (m := 1) (fun _ => rfl)]; omega)
  exact ⟨b, o, e, hb, hc k _ h1⟩
theorem tvs_at {A : Option Addr} {l : List Tn} {w : World} (h : Row w A (tvs l)) {k : Nat} {u : Tn} (hk : l[k]? = some u) : ∃ b o : Nat, A = some ⟨b, o, none⟩ ∧ b < w.heap.size ∧ w.cell? ⟨b, o + k * 2, none⟩ = some (.bool u.1) ∧ w.cell? ⟨b, o + k * 2 + 1, none⟩ = some (.bool u.2) := by
  have hlt := (List.getElem?_eq_some_iff.1 hk).1
  have h0 := flat_at (f := tcells) (m := 2) (fun _ => rfl) l k 0 u hk (by omega)
  have h1 := flat_at (f := tcells) (m := 2) (fun _ => rfl) l k 1 u hk (by omega)
  obtain ⟨b, o, e, hb, hc⟩ := h (by unfold tvs; rw [flat_len (m := 2) (fun _ => rfl)]; omega)
  exact ⟨b, o, e, hb, hc _ _ h0, by rw [Nat.add_assoc]; exact hc _ _ h1⟩
end Go.Proofs.YtdablfanmlmjkaaDoor.T3
