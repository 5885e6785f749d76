/- What the statements of stage 9 read of their arguments: rows of steps; their kinds, the first 80. -/
import Derived.Test.YtppmfmgmlicefaaGArgs
import Derived.Test.YtppmfmgmlicefaaPC7
namespace Go.Proofs.Ytppmfmgmlicefaa.P9
open Go.ChangeShapes Go.WideShapes Go.RowKit Go.Proofs.Ytppmfmgmlicefaa.G Go.Proofs.Ytppmfmgmlicefaa.C04
set_option maxRecDepth 100000
section
variable {H : Type} {enc : TypeId × Value → H} {V0 : World}
/-- A step: its kind, its slot, its owner. -/
abbrev Sp := Int × Int × Int
def pcell (x : Sp) : List Value := [.int .i64 x.1, .int .i64 x.2.1, .int .i64 x.2.2]
theorem sp_read (fuel : Nat) (cs : List Value) (x : DataW H × List MemPlace) (h : DataW.trod enc Try.prog V0 0 (fun _ => true) true fuel 33 cs = some x) : ∃ a : Sp, cs = pcell a ∧ True := by
  obtain ⟨z, hl, hz⟩ := ints_read (k := 3) (show Try.prog.underlying 33 = some (.struct (Try.prog.fieldsOf 33)) by kernel_rfl) (by kernel_rfl) (by kernel_rfl) (by kernel_rfl) (fun i hi => by
    rcases i with _ | _ | _ | i
    · exact ⟨_, rfl, Try.underlying3⟩
    · exact ⟨_, rfl, Try.underlying3⟩
    · exact ⟨_, rfl, Try.underlying3⟩
    · omega) h
  refine ⟨(z 0, z 1, z 2), ?_, trivial⟩
  apply List.ext_getElem?
  intro i
  rcases i with _ | _ | _ | i
  · rw [(hz 0 (by omega)).1]; rfl
  · rw [(hz 1 (by omega)).1]; rfl
  · rw [(hz 2 (by omega)).1]; rfl
  · rw [List.getElem?_eq_none (by omega), List.getElem?_eq_none (by simp [pcell])]
theorem open_steps {base : Nat} {v : Value} {d : DataW H} {p : List MemPlace} (hok : Value.okWide Try.prog V0 .any base 22 v) (h : DataW.Trod enc Try.prog V0 0 (fun _ => true) true 22 v d p) :
    ∃ (A : Option Addr) (l : List Sp) (c : Nat), v = .slice A l.length c ∧ l.length ≤ c ∧ c ≤ 9223372036854775807 ∧ Row V0 A (l.flatMap pcell) := by
  obtain ⟨A, n, c, rfl⟩ := WideShapes.okWide_slice Try.underlying22 hok
  obtain ⟨fuel, hf⟩ := h
  obtain ⟨A', c', l, e, h1, h2, h3, _⟩ := open_rows pcell (fun _ => True) (0, 0, 0) Try.underlying22 (by kernel_rfl : Try.prog.cellsOf 33 = 3) (by omega) (fun _ => rfl) sp_read hf
  have e' : [Value.slice A n c] = [.slice A' l.length c'] := e
  injection e' with e1 _
  exact ⟨A', l, c', e1, h1, h2, h3⟩
end
theorem sps_at {A : Option Addr} {l : List Sp} {w : World} (h : Row w A (l.flatMap pcell)) {k : Nat} {u : Sp} (hk : l[k]? = some u) : ∃ b o : Nat, A = some ⟨b, o, none⟩ ∧ b < w.heap.size ∧ w.cell? ⟨b, o + k * 3, none⟩ = some (.int .i64 u.1) ∧ w.cell? ⟨b, o + k * 3 + 1, none⟩ = some (.int .i64 u.2.1) ∧ w.cell? ⟨b, o + k * 3 + 2, none⟩ = some (.int .i64 u.2.2) := by
  have hlt := (List.getElem?_eq_some_iff.1 hk).1
  have h0 := flat_at (f := pcell) (m := 3) (fun _ => rfl) l k 0 u hk (by omega)
  have h1 := flat_at (f := pcell) (m := 3) (fun _ => rfl) l k 1 u hk (by omega)
  have h2 := flat_at (f := pcell) (m := 3) (fun _ => rfl) l k 2 u hk (by omega)
  obtain ⟨b, o, e, hb, hc⟩ := h (by rw [flat_len (m := 3) (fun _ => rfl)]; omega)
  exact ⟨b, o, e, hb, hc _ _ h0, by rw [Nat.add_assoc]; exact hc _ _ h1, by rw [Nat.add_assoc]; exact hc _ _ h2⟩
def modU (n f : Int) : Int := (IntKind.u64.wrap n).tmod f
theorem modU_bd (n f : Int) (h : 0 < f) : 0 ≤ modU n f ∧ modU n f < f :=
  ⟨Int.tmod_nonneg _ (by rw [IntKind.wrap_u64]; omega), Int.tmod_lt_of_pos _ h⟩
theorem kind_any (x y z : Int) (w : World) : Calls Try.prog 13 #[.agg #[.int .i64 x, .int .i64 y, .int .i64 z]] w fun e w' => e = .returned (.int .i64 (modU x 4)) ∧ Below w.heap.size w w' := by
  obtain ⟨q, hq, q0, q1, q2⟩ : ∃ q, (IntKind.u64.wrap x).tmod 4 = q ∧ 0 ≤ q ∧ q < 4 ∧ modU x 4 = q := ⟨_, rfl, (modU_bd x 4 (by decide)).1, (modU_bd x 4 (by decide)).2, rfl⟩
  have HQ := Lib.hid q2; clear q2
  go_enter Try.func13, Try.ntmps13
  go_wp2
  go_ret
  exact ⟨by rw [HQ.out]; rfl, b01 w _⟩
def EaPost (A : Option Addr) (n : Nat) (w : World) (e : Ending) (w' : World) : Prop := (∃ c', e = .returned (.slice A (min n 80) c')) ∧ w = w'
theorem early_any {A : Option Addr} (n c : Nat) (hn : n ≤ c) (hc : c ≤ 9223372036854775807) (w : World) :
    Calls Try.prog 12 #[.slice A n c] w (EaPost A n w) := by
  by_cases h : n ≤ 80
  · have HM : Hid (min n 80 = n) := by show min n 80 = n; omega
    go_enter Try.func12, Try.ntmps12
    go_wp2
    go_ret
    exact ⟨⟨c, by rw [HM.out]; rfl⟩, rfl⟩
  · have HM : Hid (min n 80 = 80) := by show min n 80 = 80; omega
    go_enter Try.func12, Try.ntmps12
    go_wp2
    go_ret
    exact ⟨⟨c, by rw [HM.out]; rfl⟩, rfl⟩
end Go.Proofs.Ytppmfmgmlicefaa.P9
