/- What the statements of stage 14 read of their arguments: rows of steps, rows of numbers; a step's kind, the first 80. -/
import Derived.Test.YtoomdjkojddpdaaGArgs
import Derived.Test.YtoomdjkojddpdaaH10
import Derived.Laws.IdiomArrays
namespace Go.Proofs.Ytoomdjkojddpdaa.H14
open Go.ChangeShapes Go.WideShapes Go.RowKit Go.Proofs.Ytoomdjkojddpdaa.G Go.Proofs.Ytoomdjkojddpdaa.C04
set_option maxRecDepth 100000
/-- A step: its kind, its key, its number. -/
structure Sp where
  kd : Int
  key : Int
  n : Int
instance : Inhabited Sp := ⟨⟨0, 0, 0⟩⟩
def Sp.cells (x : Sp) : List Value := [.int .i64 x.kd, .int .i64 x.key, .int .i64 x.n]
theorem Sp.cells_len (x : Sp) : x.cells.length = 3 := rfl
section
variable {H : Type} {enc : TypeId × Value → H} {V0 : World}
theorem three_read {t : TypeId} {fs : Array Field} (hu : Try.prog.underlying t = some (.struct fs)) (hone : Deep.oneCellFields Try.prog fs = true) (hC : Try.prog.cellsOf t = 3) (hk : fs.size = 3) (h0 : (fs[0]?).map (·.type) = some 3) (h1 : (fs[1]?).map (·.type) = some 3) (h2 : (fs[2]?).map (·.type) = some 3)
    {fuel : Nat} {cs : List Value} {x : DataW H × List MemPlace} (h : DataW.trod enc Try.prog V0 0 (fun _ => true) true fuel t cs = some x) :
    ∃ a b c : Int, cs = [.int .i64 a, .int .i64 b, .int .i64 c] ∧ H14.Ir b := by
  obtain ⟨xs, n, _, _, hlen, hxl, hf⟩ := DataW.trod_struct hu h
  rw [hC] at hlen
  have key : ∀ i, i < 3 → (fs[i]?).map (·.type) = some 3 → ∃ m : Int, cs[i]? = some (.int .i64 m) ∧ -9223372036854775808 ≤ m ∧ m ≤ 9223372036854775807 := by
    intro i hi hT
    obtain ⟨f, hfi, hft⟩ := Option.map_eq_some_iff.1 hT
    obtain ⟨ho, hk'⟩ := Deep.hone_of hone i f hfi
    have h1 := hf i f hfi
    rw [ho, hk', hft] at h1
    have hxi : i < xs.length := by omega
    rw [List.getElem?_eq_getElem hxi] at h1
    obtain ⟨m, hm, _, hw⟩ := DataW.trod_int Try.underlying3 h1
    refine ⟨m, ?_, bounds_i64 hw⟩
    have := congrArg (·[0]?) hm
    simpa [List.getElem?_take] using this
  obtain ⟨m0, e0, _⟩ := key 0 (by omega) h0
  obtain ⟨m1, e1, b1⟩ := key 1 (by omega) h1
  obtain ⟨m2, e2, _⟩ := key 2 (by omega) h2
  refine ⟨m0, m1, m2, ?_, b1⟩
  apply List.ext_getElem?
  intro i
  rcases i with _ | _ | _ | i
  · rw [e0]; rfl
  · rw [e1]; rfl
  · rw [e2]; rfl
  · rw [List.getElem?_eq_none (by omega), List.getElem?_eq_none (by simp)]
theorem sp_read (fuel : Nat) (cs : List Value) (x : DataW H × List MemPlace) (h : DataW.trod enc Try.prog V0 0 (fun _ => true) true fuel 29 cs = some x) : ∃ a : Sp, cs = a.cells ∧ H14.Ir a.key := by
  obtain ⟨a, b, c, e, hb⟩ := three_read (show Try.prog.underlying 29 = some (.struct (Try.prog.fieldsOf 29)) by kernel_rfl) (by kernel_rfl) (by kernel_rfl) (by kernel_rfl) (by kernel_rfl) (by kernel_rfl) (by kernel_rfl) h
  exact ⟨⟨a, b, c⟩, e, hb⟩
theorem open_steps {base : Nat} {v : Value} {d : DataW H} {p : List MemPlace} (hok : Value.okWide Try.prog V0 .any base 22 v) (h : DataW.Trod enc Try.prog V0 0 (fun _ => true) true 22 v d p) :
    ∃ (A : Option Addr) (l : List Sp) (c : Nat), v = .slice A l.length c ∧ l.length ≤ c ∧ c ≤ 9223372036854775807 ∧ Row V0 A (l.flatMap Sp.cells) ∧ ∀ (k : Nat) (y : Sp), l[k]? = some y → H14.Ir y.key := by
  obtain ⟨A, n, c, rfl⟩ := WideShapes.okWide_slice Try.underlying22 hok
  obtain ⟨fuel, hf⟩ := h
  obtain ⟨A', c', l, e, h1, h2, h3, h4⟩ := open_rows Sp.cells (fun y => H14.Ir y.key) default Try.underlying22 (by kernel_rfl : Try.prog.cellsOf 29 = 3) (by omega) Sp.cells_len sp_read hf
  have e' : [Value.slice A n c] = [.slice A' l.length c'] := e
  injection e' with e1 _
  exact ⟨A', l, c', e1, h1, h2, h3, h4⟩
theorem int_read (fuel : Nat) (cs : List Value) (x : DataW H × List MemPlace) (h : DataW.trod enc Try.prog V0 0 (fun _ => true) true fuel 3 cs = some x) : ∃ a : Int, cs = [.int .i64 a] ∧ H14.Ir a := by
  obtain ⟨m, hm, _, hw⟩ := DataW.trod_int Try.underlying3 h
  exact ⟨m, hm, bounds_i64 hw⟩
theorem open_ints {base : Nat} {v : Value} {d : DataW H} {p : List MemPlace} (hok : Value.okWide Try.prog V0 .any base 36 v) (h : DataW.Trod enc Try.prog V0 0 (fun _ => true) true 36 v d p) :
    ∃ (A : Option Addr) (l : List Int) (c : Nat), v = .slice A l.length c ∧ l.length ≤ c ∧ c ≤ 9223372036854775807 ∧ Row V0 A (H14.iv l) ∧ ∀ (k : Nat) (y : Int), l[k]? = some y → H14.Ir y := by
  obtain ⟨A, n, c, rfl⟩ := WideShapes.okWide_slice Try.underlying36 hok
  obtain ⟨fuel, hf⟩ := h
  obtain ⟨A', c', l, e, h1, h2, h3, h4⟩ := open_rows (fun z : Int => [Value.int .i64 z]) H14.Ir 0 Try.underlying36 (by kernel_rfl : Try.prog.cellsOf 3 = 1) (by omega) (fun _ => rfl) int_read hf
  have e' : [Value.slice A n c] = [.slice A' l.length c'] := e
  injection e' with e1 _
  refine ⟨A', l, c', e1, h1, h2, ?_, h4⟩
  have e2 : l.flatMap (fun z : Int => [Value.int .i64 z]) = H14.iv l := by
    exact (List.map_eq_flatMap ..).symm
  rw [← e2]; exact h3
end
theorem sps_at {A : Option Addr} {l : List Sp} {w : World} (h : Row w A (l.flatMap Sp.cells)) {k : Nat} {u : Sp} (hk : l[k]? = some u) : ∃ b o : Nat, A = some ⟨b, o, none⟩ ∧ b < w.heap.size ∧ w.cell? ⟨b, o + k * 3, none⟩ = some (.int .i64 u.kd) ∧ w.cell? ⟨b, o + k * 3 + 1, none⟩ = some (.int .i64 u.key) ∧ w.cell? ⟨b, o + k * 3 + 2, none⟩ = some (.int .i64 u.n) := by
  have hlt := (List.getElem?_eq_some_iff.1 hk).1
  have hf := fun j (hj : j < 3) => flat_at Sp.cells_len l k j u hk hj
  obtain ⟨b, o, e, hb, hc⟩ := h (by rw [flat_len Sp.cells_len]; omega)
  have hq := fun j (hj : j < 3) (v : Value) (hv : u.cells[j]? = some v) => hc (k * 3 + j) v (by rw [hf j hj]; exact hv)
  exact ⟨b, o, e, hb, hq 0 (by omega) _ rfl, by have := hq 1 (by omega) _ rfl; rwa [← Nat.add_assoc] at this, by have := hq 2 (by omega) _ rfl; rwa [← Nat.add_assoc] at this⟩
theorem ints_row {A : Option Addr} {l : List Int} {w : World} (h : Row w A (H14.iv l)) {k : Nat} {u : Int} (hk : l[k]? = some u) : ∃ b o : Nat, A = some ⟨b, o, none⟩ ∧ b < w.heap.size ∧ w.cell? ⟨b, o + k, none⟩ = some (.int .i64 u) := by
  have hlt := (List.getElem?_eq_some_iff.1 hk).1
  obtain ⟨b, o, e, hb, hc⟩ := h (by rw [H14.iv_len]; omega)
  exact ⟨b, o, e, hb, hc k _ (H14.iv_at hk)⟩
def modU (n f : Int) : Int := (IntKind.u64.wrap n).tmod f
theorem modU_bd (n f : Int) (h : 0 < f) : 0 ≤ modU n f ∧ modU n f < f :=
  ⟨Int.tmod_nonneg _ (by rw [IntKind.wrap_u64]; omega), Int.tmod_lt_of_pos _ h⟩
theorem kind_any (x y z : Int) (w : World) : Calls Try.prog 11 #[.agg #[.int .i64 x, .int .i64 y, .int .i64 z]] w fun e w' => e = .returned (.int .i64 (modU x 6)) ∧ Below w.heap.size w w' := by
  obtain ⟨q, hq, q0, q1, q2⟩ : ∃ q, (IntKind.u64.wrap x).tmod 6 = q ∧ 0 ≤ q ∧ q < 6 ∧ modU x 6 = q := ⟨_, rfl, (modU_bd x 6 (by decide)).1, (modU_bd x 6 (by decide)).2, rfl⟩
  have HQ := Lib.hid q2; clear q2
  go_enter Try.func11, Try.ntmps11
  go_wp2
  go_ret
  exact ⟨by rw [HQ.out]; rfl, b01 w _⟩
def EmPost (A : Option Addr) (m : Nat) (w : World) (e : Ending) (w' : World) : Prop := (∃ c', e = .returned (.slice A m c')) ∧ w = w'
theorem early_any {A : Option Addr} (n c : Nat) (hn : n ≤ c) (_hc : c ≤ 9223372036854775807) (w : World) :
    Calls Try.prog 10 #[.slice A n c] w (EmPost A (min n 80) w) := by
  have h0 : decide (0 ≤ min (n : Int) 80) = true := decide_eq_true (by omega)
  go_enter Try.func10, Try.ntmps10
  go_wp2
  go_ret
  refine ⟨⟨c, ?_⟩, rfl⟩
  show Ending.returned (Value.slice A (min (n : Int) 80).toNat c) = _
  rw [show (min (n : Int) 80).toNat = min n 80 from by omega]
theorem early_m {A : Option Addr} {n c m : Nat} (hn : n ≤ c) (hc : c ≤ 9223372036854775807) (hm : min n 80 = m) (w : World) : Calls Try.prog 10 #[.slice A n c] w (EmPost A m w) := by
  subst hm
  exact early_any n c hn hc w
end Go.Proofs.Ytoomdjkojddpdaa.H14
