/- What TriplePlays reads of its script: steps of two numbers and a list; their kinds, their words, the first 150. -/
import Derived.Test.YtppmfmgmlicefabDoorVArg0
import Derived.Test.YtppmfmgmlicefabDoorV1
namespace Go.Proofs.YtppmfmgmlicefabDoor.T3
open Go.ChangeShapes Go.WideShapes Go.RowKit Go.Proofs.YtppmfmgmlicefabDoor.G Go.Proofs.YtppmfmgmlicefabDoor.C04
set_option maxRecDepth 100000
section
variable {H : Type} {enc : TypeId × Value → H} {V0 : World}
/-- A step: its kind, its number, its list. -/
abbrev Sp := Int × Int × Sl
def pcell (x : Sp) : List Value := [.int .i64 x.1, .int .i64 x.2.1, .slice x.2.2.1 x.2.2.2.1.length x.2.2.2.2]
def SpOk (V0 : World) (x : Sp) : Prop := (-9223372036854775808 ≤ x.2.1 ∧ x.2.1 ≤ 9223372036854775807) ∧ SlOk V0 x.2.2
theorem sp_read (fuel : Nat) (cs : List Value) (x : DataW H × List MemPlace) (h : DataW.trod enc Tryd.prog V0 0 (fun _ => true) true fuel 64 cs = some x) : ∃ a : Sp, cs = pcell a ∧ SpOk V0 a := by
  have hu : Tryd.prog.underlying 64 = some (.struct (Tryd.prog.fieldsOf 64)) := by kernel_rfl
  have hone : Deep.oneCellFields Tryd.prog (Tryd.prog.fieldsOf 64) = true := by kernel_rfl
  obtain ⟨xs, n, _, _, hlen, hxl, hf⟩ := DataW.trod_struct hu h
  have hC : Tryd.prog.cellsOf 64 = 3 := by kernel_rfl
  rw [hC] at hlen
  have hxs : xs.length = 3 := hxl.trans (by kernel_rfl)
  have key : ∀ i, i < 2 → ((Tryd.prog.fieldsOf 64)[i]?).map (·.type) = some 3 → ∃ m : Int, cs[i]? = some (.int .i64 m) ∧ -9223372036854775808 ≤ m ∧ m ≤ 9223372036854775807 := by
    intro i hi hT
    obtain ⟨f, hfi, hft⟩ := Option.map_eq_some_iff.1 hT
    obtain ⟨ho, hk'⟩ := Deep.hone_of hone i f hfi
    have h1 := hf i f hfi
    rw [ho, hk', hft, List.getElem?_eq_getElem (by omega)] at h1
    obtain ⟨m, hm, hb⟩ := num_read _ _ _ h1
    refine ⟨m, ?_, hb⟩
    have := congrArg (·[0]?) hm
    simpa [List.getElem?_take] using this
  obtain ⟨m0, e0, b0⟩ := key 0 (by omega) (by kernel_rfl)
  obtain ⟨m1, e1, b1⟩ := key 1 (by omega) (by kernel_rfl)
  have key2 : ∃ a : Sl, cs[2]? = some (.slice a.1 a.2.1.length a.2.2) ∧ SlOk V0 a := by
    obtain ⟨f, hfi, hft⟩ := Option.map_eq_some_iff.1 (show ((Tryd.prog.fieldsOf 64)[2]?).map (·.type) = some 27 by kernel_rfl)
    obtain ⟨ho, hk'⟩ := Deep.hone_of hone 2 f hfi
    have h1 := hf 2 f hfi
    rw [ho, hk', hft, List.getElem?_eq_getElem (by omega)] at h1
    obtain ⟨a, ha, hb⟩ := sl_read _ _ _ h1
    refine ⟨a, ?_, hb⟩
    have := congrArg (·[0]?) ha
    simpa [List.getElem?_take, scell] using this
  obtain ⟨a, e2, b2⟩ := key2
  refine ⟨(m0, m1, a), ?_, b1, b2⟩
  apply List.ext_getElem?
  intro i
  rcases i with _ | _ | _ | i
  · rw [e0]; rfl
  · rw [e1]; rfl
  · rw [e2]; rfl
  · rw [List.getElem?_eq_none (by omega), List.getElem?_eq_none (by simp [pcell])]
theorem open_steps {base : Nat} {v : Value} {d : DataW H} {p : List MemPlace} (hok : Value.okWide Tryd.prog V0 .any base 56 v) (h : DataW.Trod enc Tryd.prog V0 0 (fun _ => true) true 56 v d p) :
    ∃ (A : Option Addr) (l : List Sp) (c : Nat), v = .slice A l.length c ∧ l.length ≤ c ∧ c ≤ 9223372036854775807 ∧ Row V0 A (l.flatMap pcell) ∧ ∀ (k : Nat) (y : Sp), l[k]? = some y → SpOk V0 y := by
  obtain ⟨A, n, c, rfl⟩ := WideShapes.okWide_slice Tryd.underlying56 hok
  obtain ⟨fuel, hf⟩ := h
  obtain ⟨A', c', l, e, h1, h2, h3, h4⟩ := open_rows pcell (SpOk V0) (0, 0, none, [], 0) Tryd.underlying56 (by kernel_rfl : Tryd.prog.cellsOf 64 = 3) (by omega) (fun _ => rfl) sp_read hf
  have e' : [Value.slice A n c] = [.slice A' l.length c'] := e
  injection e' with e1 _
  exact ⟨A', l, c', e1, h1, h2, h3, h4⟩
end
theorem sps_at {A : Option Addr} {l : List Sp} {w : World} (h : Row w A (l.flatMap pcell)) {k : Nat} {u : Sp} (hk : l[k]? = some u) : ∃ b o : Nat, A = some ⟨b, o, none⟩ ∧ b < w.heap.size ∧ w.cell? ⟨b, o + k * 3, none⟩ = some (.int .i64 u.1) ∧ w.cell? ⟨b, o + k * 3 + 1, none⟩ = some (.int .i64 u.2.1) ∧ w.cell? ⟨b, o + k * 3 + 2, none⟩ = some (.slice u.2.2.1 u.2.2.2.1.length u.2.2.2.2) := by
  have hlt := (List.getElem?_eq_some_iff.1 hk).1
  have h0 := flat_at (f := pcell) (m := 3) (fun _ => rfl) l k 0 u hk (by omega)
  have h1 := flat_at (f := pcell) (m := 3) (fun _ => rfl) l k 1 u hk (by omega)
  have h2 := flat_at (f := pcell) (m := 3) (fun _ => rfl) l k 2 u hk (by omega)
  obtain ⟨b, o, e, hb, hc⟩ := h (by rw [flat_len (m := 3) (fun _ => rfl)]; omega)
  exact ⟨b, o, e, hb, hc _ _ h0, by rw [Nat.add_assoc]; exact hc _ _ h1, by rw [Nat.add_assoc]; exact hc _ _ h2⟩
def modU (n f : Int) : Int := (IntKind.u64.wrap n).tmod f
theorem modU_bd (n f : Int) (h : 0 < f) : 0 ≤ modU n f ∧ modU n f < f :=
  ⟨Int.tmod_nonneg _ (by rw [IntKind.wrap_u64]; omega), Int.tmod_lt_of_pos _ h⟩
def spv (x : Sp) : Value := .agg #[.int .i64 x.1, .int .i64 x.2.1, .slice x.2.2.1 x.2.2.2.1.length x.2.2.2.2]
theorem kind7_any (x n : Int) (A : Option Addr) (m c : Nat) (w : World) : Calls Tryd.prog 30 #[.agg #[.int .i64 x, .int .i64 n, .slice A m c]] w fun e w' => e = .returned (.int .i64 (modU x 8)) ∧ Below w.heap.size w w' := by
  obtain ⟨q, hq, q0, q1, q2⟩ : ∃ q, (IntKind.u64.wrap x).tmod 8 = q ∧ 0 ≤ q ∧ q < 8 ∧ modU x 8 = q := ⟨_, rfl, (modU_bd x 8 (by decide)).1, (modU_bd x 8 (by decide)).2, rfl⟩
  have HQ := Lib.hid q2; clear q2
  go_enter Tryd.func30, Tryd.ntmps30
  go_wp2
  go_ret
  exact ⟨by rw [HQ.out]; rfl, b01 w _⟩
theorem words7_any (x n : Int) (A : Option Addr) (m c : Nat) (hm : m ≤ c) (hc : c ≤ 9223372036854775807) (w : World) : Calls Tryd.prog 32 #[.agg #[.int .i64 x, .int .i64 n, .slice A m c]] w fun e w' => e = .returned (.slice A (min m 8) c) ∧ Below w.heap.size w w' := by
  by_cases h : m ≤ 8
  · have HM : Hid (min m 8 = m) := by show min m 8 = m; omega
    go_enter Tryd.func32, Tryd.ntmps32
    go_wp2
    go_ret
    exact ⟨by rw [HM.out]; rfl, b01 w _⟩
  · have HM : Hid (min m 8 = 8) := by show min m 8 = 8; omega
    go_enter Tryd.func32, Tryd.ntmps32
    go_wp2
    go_ret
    exact ⟨by rw [HM.out]; rfl, b01 w _⟩
def EaPost (A : Option Addr) (n : Nat) (w : World) (e : Ending) (w' : World) : Prop := (∃ c', e = .returned (.slice A (min n 150) c')) ∧ w = w'
theorem early7_any {A : Option Addr} (n c : Nat) (hn : n ≤ c) (hc : c ≤ 9223372036854775807) (w : World) :
    Calls Tryd.prog 29 #[.slice A n c] w (EaPost A n w) := by
  by_cases h : n ≤ 150
  · have HM : Hid (min n 150 = n) := by show min n 150 = n; omega
    go_enter Tryd.func29, Tryd.ntmps29
    go_wp2
    go_ret
    exact ⟨⟨c, by rw [HM.out]; rfl⟩, rfl⟩
  · have HM : Hid (min n 150 = 150) := by show min n 150 = 150; omega
    go_enter Tryd.func29, Tryd.ntmps29
    go_wp2
    go_ret
    exact ⟨⟨c, by rw [HM.out]; rfl⟩, rfl⟩
end Go.Proofs.YtppmfmgmlicefabDoor.T3
