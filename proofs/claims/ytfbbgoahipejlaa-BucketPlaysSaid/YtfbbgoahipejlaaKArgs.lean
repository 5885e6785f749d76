/- What the statements of stage 11 read of their arguments: rows of steps; their kinds, the first 100. -/
import Derived.Test.YtfbbgoahipejlaaGArgs
import Derived.Test.YtfbbgoahipejlaaK0
import Derived.Laws.IdiomArrays
namespace Go.Proofs.Ytfbbgoahipejlaa.K11
open Go.ChangeShapes Go.WideShapes Go.RowKit Go.Proofs.Ytfbbgoahipejlaa.G Go.Proofs.Ytfbbgoahipejlaa.C04
set_option maxRecDepth 100000
section
variable {H : Type} {enc : TypeId × Value → H} {V0 : World}
theorem list3 {α : Type} (l : List α) (h : (⟨l⟩ : Array α).size = 3) : ∃ a b c, l = [a, b, c] := by
  match l, h with
  | [a, b, c], _ => exact ⟨a, b, c, rfl⟩
theorem open_arr3 {base : Nat} {v : Value} {d : DataW H} {p : List MemPlace} (hok : Value.okWide Try.prog V0 .any base 46 v) (h : DataW.Trod enc Try.prog V0 0 (fun _ => true) true 46 v d p) : ∃ x y z : Int, v = .agg #[.int .i64 x, .int .i64 y, .int .i64 z] := by
  obtain ⟨cs, rfl, hsz, _⟩ : ∃ cs, v = .agg cs ∧ cs.size = Try.prog.cellsOf 46 ∧ Row.okWide Try.prog V0 .any base 46 cs := by
    have := hok
    simpa [Value.okWide, Try.underlying46] using this
  have cells3 : Try.prog.cellsOf 3 = 1 := by kernel_rfl
  have cellsA : Try.prog.cellsOf 46 = 3 := by kernel_rfl
  rw [cellsA] at hsz
  obtain ⟨l⟩ := cs
  obtain ⟨c0, c1, c2, rfl⟩ := list3 l hsz
  obtain ⟨fuel, hf⟩ := h
  obtain ⟨y0, y1, y2, m, hx, hy0, hy1, hy2⟩ := trod_array3 Try.underlying46 cells3 hf
  obtain ⟨x0, e0, _, w0⟩ := DataW.trod_int Try.underlying3 hy0
  obtain ⟨x1, e1, _, w1⟩ := DataW.trod_int Try.underlying3 hy1
  obtain ⟨x2, e2, _, w2⟩ := DataW.trod_int Try.underlying3 hy2
  simp at e0 e1 e2
  subst e0 e1 e2
  exact ⟨x0, x1, x2, rfl⟩
/-- A step: its kind, its round. -/
abbrev Sp := Int × Int
def pcell (x : Sp) : List Value := [.int .i64 x.1, .int .i64 x.2]
def SpOk (x : Sp) : Prop := -9223372036854775808 ≤ x.2 ∧ x.2 ≤ 9223372036854775807
theorem two_read {t : TypeId} {fs : Array Field} (hu : Try.prog.underlying t = some (.struct fs)) (hone : Deep.oneCellFields Try.prog fs = true) (hC : Try.prog.cellsOf t = 2) (hk : fs.size = 2) (h0 : (fs[0]?).map (·.type) = some 3) (h1 : (fs[1]?).map (·.type) = some 3)
    {fuel : Nat} {cs : List Value} {x : DataW H × List MemPlace} (h : DataW.trod enc Try.prog V0 0 (fun _ => true) true fuel t cs = some x) :
    ∃ a b : Int, cs = [.int .i64 a, .int .i64 b] ∧ -9223372036854775808 ≤ b ∧ b ≤ 9223372036854775807 := by
  obtain ⟨xs, n, _, _, hlen, hxl, hf⟩ := DataW.trod_struct hu h
  rw [hC] at hlen
  have key : ∀ i, i < 2 → (fs[i]?).map (·.type) = some 3 → ∃ m : Int, cs[i]? = some (.int .i64 m) ∧ -9223372036854775808 ≤ m ∧ m ≤ 9223372036854775807 := by
    intro i hi hT
    obtain ⟨f, hfi, hft⟩ := Option.map_eq_some_iff.1 hT
    obtain ⟨ho, hk'⟩ := Deep.hone_of hone i f hfi
    have h1 := hf i f hfi
    rw [ho, hk', hft] at h1
    have hxi : i < xs.length := by omega
    rw [List.getElem?_eq_getElem hxi] at h1
    obtain ⟨m, hm, _, hw⟩ := DataW.trod_int Try.underlying3 h1
    refine ⟨m, ?_, bounds_i64 hw⟩
    have := congrArg (·[0]?) hm
    simpa [List.getElem?_take] using this
  obtain ⟨m0, e0, _⟩ := key 0 (by omega) h0
  obtain ⟨m1, e1, b1⟩ := key 1 (by omega) h1
  refine ⟨m0, m1, ?_, b1⟩
  apply List.ext_getElem?
  intro i
  rcases i with _ | _ | i
  · rw [e0]; rfl
  · rw [e1]; rfl
  · rw [List.getElem?_eq_none (by omega), List.getElem?_eq_none (by simp)]
theorem sp_read (fuel : Nat) (cs : List Value) (x : DataW H × List MemPlace) (h : DataW.trod enc Try.prog V0 0 (fun _ => true) true fuel 31 cs = some x) : ∃ a : Sp, cs = pcell a ∧ SpOk a := by
  obtain ⟨a, b, e, hb⟩ := two_read (show Try.prog.underlying 31 = some (.struct (Try.prog.fieldsOf 31)) by kernel_rfl) (by kernel_rfl) (by kernel_rfl) (by kernel_rfl) (by kernel_rfl) (by kernel_rfl) h
  exact ⟨(a, b), e, hb⟩
theorem open_steps {base : Nat} {v : Value} {d : DataW H} {p : List MemPlace} (hok : Value.okWide Try.prog V0 .any base 22 v) (h : DataW.Trod enc Try.prog V0 0 (fun _ => true) true 22 v d p) :
    ∃ (A : Option Addr) (l : List Sp) (c : Nat), v = .slice A l.length c ∧ l.length ≤ c ∧ c ≤ 9223372036854775807 ∧ Row V0 A (l.flatMap pcell) ∧ ∀ (k : Nat) (y : Sp), l[k]? = some y → SpOk y := by
  obtain ⟨A, n, c, rfl⟩ := WideShapes.okWide_slice Try.underlying22 hok
  obtain ⟨fuel, hf⟩ := h
  obtain ⟨A', c', l, e, h1, h2, h3, h4⟩ := open_rows pcell SpOk (0, 0) Try.underlying22 (by kernel_rfl : Try.prog.cellsOf 31 = 2) (by omega) (fun _ => rfl) sp_read hf
  have e' : [Value.slice A n c] = [.slice A' l.length c'] := e
  injection e' with e1 _
  exact ⟨A', l, c', e1, h1, h2, h3, h4⟩
end
theorem sps_at {A : Option Addr} {l : List Sp} {w : World} (h : Row w A (l.flatMap pcell)) {k : Nat} {u : Sp} (hk : l[k]? = some u) : ∃ b o : Nat, A = some ⟨b, o, none⟩ ∧ b < w.heap.size ∧ w.cell? ⟨b, o + k * 2, none⟩ = some (.int .i64 u.1) ∧ w.cell? ⟨b, o + k * 2 + 1, none⟩ = some (.int .i64 u.2) := by
  have hlt := (List.getElem?_eq_some_iff.1 hk).1
  have h0 := flat_at (f := pcell) (m := 2) (fun _ => rfl) l k 0 u hk (by omega)
  have h1 := flat_at (f := pcell) (m := 2) (fun _ => rfl) l k 1 u hk (by omega)
  obtain ⟨b, o, e, hb, hc⟩ := h (by rw [flat_len (m := 2) (fun _ => rfl)]; omega)
  exact ⟨b, o, e, hb, hc _ _ h0, by rw [Nat.add_assoc]; exact hc _ _ h1⟩
def modU (n f : Int) : Int := (IntKind.u64.wrap n).tmod f
theorem modU_bd (n f : Int) (h : 0 < f) : 0 ≤ modU n f ∧ modU n f < f :=
  ⟨Int.tmod_nonneg _ (by rw [IntKind.wrap_u64]; omega), Int.tmod_lt_of_pos _ h⟩
theorem kind_any (x y : Int) (w : World) : Calls Try.prog 13 #[.agg #[.int .i64 x, .int .i64 y]] w fun e w' => e = .returned (.int .i64 (modU x 6)) ∧ Below w.heap.size w w' := by
  obtain ⟨q, hq, q0, q1, q2⟩ : ∃ q, (IntKind.u64.wrap x).tmod 6 = q ∧ 0 ≤ q ∧ q < 6 ∧ modU x 6 = q := ⟨_, rfl, (modU_bd x 6 (by decide)).1, (modU_bd x 6 (by decide)).2, rfl⟩
  have HQ := Lib.hid q2; clear q2
  go_enter Try.func13, Try.ntmps13
  go_wp2
  go_ret
  exact ⟨by rw [HQ.out]; rfl, b01 w _⟩
def EaPost (A : Option Addr) (n : Nat) (w : World) (e : Ending) (w' : World) : Prop := (∃ c', e = .returned (.slice A (min n 100) c')) ∧ w = w'
theorem early_any {A : Option Addr} (n c : Nat) (hn : n ≤ c) (hc : c ≤ 9223372036854775807) (w : World) :
    Calls Try.prog 12 #[.slice A n c] w (EaPost A n w) := by
  by_cases h : n ≤ 100
  · have HM : Hid (min n 100 = n) := by show min n 100 = n; omega
    go_enter Try.func12, Try.ntmps12
    go_wp2
    go_ret
    exact ⟨⟨c, by rw [HM.out]; rfl⟩, rfl⟩
  · have HM : Hid (min n 100 = 100) := by show min n 100 = 100; omega
    go_enter Try.func12, Try.ntmps12
    go_wp2
    go_ret
    exact ⟨⟨c, by rw [HM.out]; rfl⟩, rfl⟩
def EmPost (A : Option Addr) (m : Nat) (w : World) (e : Ending) (w' : World) : Prop := (∃ c', e = .returned (.slice A m c')) ∧ w = w'
theorem early_m {A : Option Addr} {n c m : Nat} (hn : n ≤ c) (hc : c ≤ 9223372036854775807) (hm : min n 100 = m) (w : World) : Calls Try.prog 12 #[.slice A n c] w (EmPost A m w) := by
  subst hm
  exact early_any n c hn hc w
end Go.Proofs.Ytfbbgoahipejlaa.K11
