/- What the statements of stage 10 read of their arguments: messages. -/
import Derived.Test.YtmfkapbllmfegaaGArgs
import Derived.Test.YtmfkapbllmfegaaQLive
namespace Go.Proofs.Ytmfkapbllmfegaa.L10
open Go.ChangeShapes Go.WideShapes Go.RowKit Go.Proofs.Ytmfkapbllmfegaa.G Go.Proofs.Ytmfkapbllmfegaa.C04
set_option maxRecDepth 100000
section
variable {H : Type} {enc : TypeId × Value → H} {V0 : World}
theorem num_read (fuel : Nat) (cs : List Value) (x : DataW H × List MemPlace) (h : DataW.trod enc Try.prog V0 0 (fun _ => true) true fuel 3 cs = some x) : ∃ a : Int, cs = [.int .i64 a] ∧ -9223372036854775808 ≤ a ∧ a ≤ 9223372036854775807 := by
  obtain ⟨m, hm, _, hw⟩ := DataW.trod_int Try.underlying3 h
  exact ⟨m, hm, bounds_i64 hw⟩
theorem iv_flat (l : List Int) : (l.flatMap fun z => [Value.int .i64 z]) = iv l := by
  induction l with
  | nil => rfl
  | cons a l ih => rw [List.flatMap_cons, ih]; rfl
theorem sl_read (fuel : Nat) (cs : List Value) (x : DataW H × List MemPlace) (h : DataW.trod enc Try.prog V0 0 (fun _ => true) true fuel 38 cs = some x) : ∃ (A : Option Addr) (l : List Int) (c : Nat), cs = [.slice A l.length c] ∧ l.length ≤ c ∧ c ≤ 9223372036854775807 ∧ Row V0 A (iv l) := by
  obtain ⟨A', c', l, e, h1, h2, h3, _⟩ := open_rows (fun z : Int => [Value.int .i64 z]) (fun a => -9223372036854775808 ≤ a ∧ a ≤ 9223372036854775807) 0 Try.underlying38 (by kernel_rfl : Try.prog.cellsOf 3 = 1) (by omega) (fun _ => rfl) num_read h
  exact ⟨A', l, c', e, h1, h2, by rw [iv_flat] at h3; exact h3⟩
/-- A number that is an int. -/
def i64 (z : Int) : Prop := -9223372036854775808 ≤ z ∧ z ≤ 9223372036854775807
/-- A message that is read: its words can be, its numbers are ints. -/
structure MOk (w : World) (m : MV) : Prop where
  wr : Wr w m
  ln : i64 m.ln
  st : i64 m.st
  lt : i64 m.lt
  sq : i64 m.sq
theorem msg_read (fuel : Nat) (cs : List Value) (x : DataW H × List MemPlace) (h : DataW.trod enc Try.prog V0 0 (fun _ => true) true fuel 43 cs = some x) : ∃ m : MV, cs = m.cells ∧ MOk V0 m := by
  have hu : Try.prog.underlying 43 = some (.struct (Try.prog.fieldsOf 43)) := by kernel_rfl
  have hone : Deep.oneCellFields Try.prog (Try.prog.fieldsOf 43) = true := by kernel_rfl
  obtain ⟨xs, n, _, _, hlen, hxl, hf⟩ := DataW.trod_struct hu h
  have hC : Try.prog.cellsOf 43 = 5 := by kernel_rfl
  rw [hC] at hlen
  have key : ∀ i, i < 5 → ((Try.prog.fieldsOf 43)[i]?).map (·.type) = some 3 → ∃ m : Int, cs[i]? = some (.int .i64 m) ∧ i64 m := by
    intro i hi hT
    obtain ⟨f, hfi, hft⟩ := Option.map_eq_some_iff.1 hT
    obtain ⟨ho, hk'⟩ := Deep.hone_of hone i f hfi
    have h1 := hf i f hfi
    rw [ho, hk', hft] at h1
    have hxi : i < xs.length := by
      have : xs.length = 5 := hxl.trans (by kernel_rfl)
      omega
    rw [List.getElem?_eq_getElem hxi] at h1
    obtain ⟨m, hm, hb⟩ := num_read _ _ _ h1
    refine ⟨m, ?_, hb⟩
    have := congrArg (·[0]?) hm
    simpa [List.getElem?_take] using this
  obtain ⟨m1, e1, b1⟩ := key 1 (by omega) (by kernel_rfl)
  obtain ⟨m2, e2, b2⟩ := key 2 (by omega) (by kernel_rfl)
  obtain ⟨m3, e3, b3⟩ := key 3 (by omega) (by kernel_rfl)
  obtain ⟨m4, e4, b4⟩ := key 4 (by omega) (by kernel_rfl)
  have key2 : ∃ (A : Option Addr) (l : List Int) (c : Nat), cs[0]? = some (.slice A l.length c) ∧ l.length ≤ c ∧ c ≤ 9223372036854775807 ∧ Row V0 A (iv l) := by
    obtain ⟨f, hfi, hft⟩ := Option.map_eq_some_iff.1 (show ((Try.prog.fieldsOf 43)[0]?).map (·.type) = some 38 by kernel_rfl)
    obtain ⟨ho, hk'⟩ := Deep.hone_of hone 0 f hfi
    have h1 := hf 0 f hfi
    rw [ho, hk', hft] at h1
    have hxi : 0 < xs.length := by
      have : xs.length = 5 := hxl.trans (by kernel_rfl)
      omega
    rw [List.getElem?_eq_getElem hxi] at h1
    obtain ⟨A, l, c, ha, hb⟩ := sl_read _ _ _ h1
    refine ⟨A, l, c, ?_, hb⟩
    have := congrArg (·[0]?) ha
    simpa [List.getElem?_take] using this
  obtain ⟨A, l, c, e0, b0, b5, b6⟩ := key2
  refine ⟨⟨A, l, c, m1, m2, m3, m4⟩, ?_, ⟨b6, b0, b5⟩, b1, b2, b3, b4⟩
  apply List.ext_getElem?
  intro i
  rcases i with _ | _ | _ | _ | _ | i
  · rw [e0]; rfl
  · rw [e1]; rfl
  · rw [e2]; rfl
  · rw [e3]; rfl
  · rw [e4]; rfl
  · rw [List.getElem?_eq_none (by omega), List.getElem?_eq_none (by simp [MV.cells])]
theorem open_msg {base : Nat} {v : Value} {d : DataW H} {p : List MemPlace} (hok : Value.okWide Try.prog V0 .any base 43 v) (h : DataW.Trod enc Try.prog V0 0 (fun _ => true) true 43 v d p) : ∃ m : MV, v = m.val ∧ MOk V0 m := by
  obtain ⟨cs, rfl, hsz⟩ := okWide_struct Try.underlying43 hok
  obtain ⟨fuel, hf⟩ := h
  obtain ⟨m, hm, ho⟩ := msg_read fuel _ _ hf
  refine ⟨m, ?_, ho⟩
  have e : cs.toList = m.cells := hm
  have : cs = ⟨m.cells⟩ := by rw [← e]
  rw [this]; rfl
end
end Go.Proofs.Ytmfkapbllmfegaa.L10
