/- What the statements of stage 12 read of their arguments: channels, steps, rows of them, rows of numbers; a step's kind, its words; the first 80. -/
import Derived.Test.YtmfkapbllmfegaaQStep
import Derived.Test.YtmfkapbllmfegaaKind
namespace Go.Proofs.Ytmfkapbllmfegaa.A12
open Go.ChangeShapes Go.WideShapes Go.RowKit Go.Proofs.Ytmfkapbllmfegaa.G Go.Proofs.Ytmfkapbllmfegaa.L10 Go.Proofs.Ytmfkapbllmfegaa.C04
set_option maxRecDepth 100000
/-- A step: its kind, its mode, its lane, its number, its round, its words. -/
structure Sp where
  k : Int
  md : Int
  ln : Int
  n : Int
  r : Int
  a : Option Addr
  ws : List Int
  c : Nat
def Sp.cells (x : Sp) : List Value := [.int .i64 x.k, .int .i64 x.md, .int .i64 x.ln, .int .i64 x.n, .int .i64 x.r, .slice x.a x.ws.length x.c]
def Sp.val (x : Sp) : Value := .agg #[.int .i64 x.k, .int .i64 x.md, .int .i64 x.ln, .int .i64 x.n, .int .i64 x.r, .slice x.a x.ws.length x.c]
def sca (x : Sp) : Array Value := #[.int .i64 x.k, .int .i64 x.md, .int .i64 x.ln, .int .i64 x.n, .int .i64 x.r, .slice x.a x.ws.length x.c]
def sps (l : List Sp) : List Value := l.flatMap Sp.cells
theorem Sp.cells_len (x : Sp) : x.cells.length = 6 := rfl
structure SpOk (w : World) (x : Sp) : Prop where
  row : Row w x.a (L10.iv x.ws)
  le : x.ws.length ≤ x.c
  top : x.c ≤ 9223372036854775807
  n : i64 x.n
  r : i64 x.r
  ln : i64 x.ln
  md : i64 x.md
section
variable {H : Type} {enc : TypeId × Value → H} {V0 : World}
theorem chn_read (fuel : Nat) (cs : List Value) (x : DataW H × List MemPlace) (h : DataW.trod enc Try.prog V0 0 (fun _ => true) true fuel 23 cs = some x) : ∃ a : Chn, cs = a.cells := by
  obtain ⟨z, hl, hz⟩ := ints_read (k := 11) Try.underlying23 (by kernel_rfl) (by kernel_rfl) (by kernel_rfl) (fun i hi => by
    rcases i with _ | _ | _ | _ | _ | _ | _ | _ | _ | _ | _ | i
    all_goals first | exact ⟨_, rfl, Try.underlying3⟩ | omega) h
  refine ⟨⟨z 0, z 1, z 2, z 3, z 4, z 5, z 6, z 7, z 8, z 9, z 10⟩, ?_⟩
  apply List.ext_getElem?
  intro i
  by_cases hi : i < 11
  · rw [(hz i hi).1]
    rcases i with _ | _ | _ | _ | _ | _ | _ | _ | _ | _ | _ | i
    all_goals first | rfl | omega
  · rw [List.getElem?_eq_none (by omega), List.getElem?_eq_none (by simp [Chn.cells]; omega)]
theorem open_chn {base : Nat} {v : Value} {d : DataW H} {p : List MemPlace} (hok : Value.okWide Try.prog V0 .any base 23 v) (h : DataW.Trod enc Try.prog V0 0 (fun _ => true) true 23 v d p) : ∃ k : Chn, v = k.val := by
  obtain ⟨cs, rfl, hsz⟩ := okWide_struct Try.underlying23 hok
  obtain ⟨fuel, hf⟩ := h
  obtain ⟨m, hm⟩ := chn_read fuel _ _ hf
  refine ⟨m, ?_⟩
  have e : cs.toList = m.cells := hm
  have : cs = ⟨m.cells⟩ := by rw [← e]
  rw [this]; rfl
theorem sp_read (fuel : Nat) (cs : List Value) (x : DataW H × List MemPlace) (h : DataW.trod enc Try.prog V0 0 (fun _ => true) true fuel 40 cs = some x) : ∃ a : Sp, cs = a.cells ∧ SpOk V0 a := by
  have hu : Try.prog.underlying 40 = some (.struct (Try.prog.fieldsOf 40)) := by kernel_rfl
  have hone : Deep.oneCellFields Try.prog (Try.prog.fieldsOf 40) = true := by kernel_rfl
  obtain ⟨xs, n, _, _, hlen, hxl, hf⟩ := DataW.trod_struct hu h
  have hC : Try.prog.cellsOf 40 = 6 := by kernel_rfl
  rw [hC] at hlen
  have key : ∀ i, i < 6 → ((Try.prog.fieldsOf 40)[i]?).map (·.type) = some 3 → ∃ m : Int, cs[i]? = some (.int .i64 m) ∧ i64 m := by
    intro i hi hT
    obtain ⟨f, hfi, hft⟩ := Option.map_eq_some_iff.1 hT
    obtain ⟨ho, hk'⟩ := Deep.hone_of hone i f hfi
    have h1 := hf i f hfi
    rw [ho, hk', hft] at h1
    have hxi : i < xs.length := by
      have : xs.length = 6 := hxl.trans (by kernel_rfl)
      omega
    rw [List.getElem?_eq_getElem hxi] at h1
    obtain ⟨m, hm, hb⟩ := num_read _ _ _ h1
    refine ⟨m, ?_, hb⟩
    have := congrArg (·[0]?) hm
    simpa [List.getElem?_take] using this
  obtain ⟨m0, e0, b0⟩ := key 0 (by omega) (by kernel_rfl)
  obtain ⟨m1, e1, b1⟩ := key 1 (by omega) (by kernel_rfl)
  obtain ⟨m2, e2, b2⟩ := key 2 (by omega) (by kernel_rfl)
  obtain ⟨m3, e3, b3⟩ := key 3 (by omega) (by kernel_rfl)
  obtain ⟨m4, e4, b4⟩ := key 4 (by omega) (by kernel_rfl)
  have key2 : ∃ (A : Option Addr) (l : List Int) (c : Nat), cs[5]? = some (.slice A l.length c) ∧ l.length ≤ c ∧ c ≤ 9223372036854775807 ∧ Row V0 A (L10.iv l) := by
    obtain ⟨f, hfi, hft⟩ := Option.map_eq_some_iff.1 (show ((Try.prog.fieldsOf 40)[5]?).map (·.type) = some 38 by kernel_rfl)
    obtain ⟨ho, hk'⟩ := Deep.hone_of hone 5 f hfi
    have h1 := hf 5 f hfi
    rw [ho, hk', hft] at h1
    have hxi : 5 < xs.length := by
      have : xs.length = 6 := hxl.trans (by kernel_rfl)
      omega
    rw [List.getElem?_eq_getElem hxi] at h1
    obtain ⟨A, l, c, ha, hb⟩ := sl_read _ _ _ h1
    refine ⟨A, l, c, ?_, hb⟩
    have := congrArg (·[0]?) ha
    simpa [List.getElem?_take] using this
  obtain ⟨A, l, c, e5, c0, c1, c2⟩ := key2
  refine ⟨⟨m0, m1, m2, m3, m4, A, l, c⟩, ?_, c2, c0, c1, b3, b4, b2, b1⟩
  apply List.ext_getElem?
  intro i
  rcases i with _ | _ | _ | _ | _ | _ | i
  · rw [e0]; rfl
  · rw [e1]; rfl
  · rw [e2]; rfl
  · rw [e3]; rfl
  · rw [e4]; rfl
  · rw [e5]; rfl
  · rw [List.getElem?_eq_none (by omega), List.getElem?_eq_none (by simp [Sp.cells])]
theorem open_step {base : Nat} {v : Value} {d : DataW H} {p : List MemPlace} (hok : Value.okWide Try.prog V0 .any base 40 v) (h : DataW.Trod enc Try.prog V0 0 (fun _ => true) true 40 v d p) : ∃ x : Sp, v = x.val ∧ SpOk V0 x := by
  obtain ⟨cs, rfl, hsz⟩ := okWide_struct Try.underlying40 hok
  obtain ⟨fuel, hf⟩ := h
  obtain ⟨m, hm, ho⟩ := sp_read fuel _ _ hf
  refine ⟨m, ?_, ho⟩
  have e : cs.toList = m.cells := hm
  have : cs = ⟨m.cells⟩ := by rw [← e]
  rw [this]; rfl
theorem open_steps {base : Nat} {v : Value} {d : DataW H} {p : List MemPlace} (hok : Value.okWide Try.prog V0 .any base 24 v) (h : DataW.Trod enc Try.prog V0 0 (fun _ => true) true 24 v d p) :
    ∃ (A : Option Addr) (l : List Sp) (c : Nat), v = .slice A l.length c ∧ l.length ≤ c ∧ c ≤ 9223372036854775807 ∧ Row V0 A (sps l) ∧ ∀ (k : Nat) (y : Sp), l[k]? = some y → SpOk V0 y := by
  obtain ⟨A, n, c, rfl⟩ := WideShapes.okWide_slice Try.underlying24 hok
  obtain ⟨fuel, hf⟩ := h
  obtain ⟨A', c', l, e, h1, h2, h3, h4⟩ := open_rows Sp.cells (SpOk V0) ⟨0, 0, 0, 0, 0, none, [], 0⟩ Try.underlying24 (by kernel_rfl : Try.prog.cellsOf 40 = 6) (by omega) (fun _ => rfl) sp_read hf
  have e' : [Value.slice A n c] = [.slice A' l.length c'] := e
  injection e' with e1 _
  exact ⟨A', l, c', e1, h1, h2, h3, h4⟩
theorem open_ints {base : Nat} {v : Value} {d : DataW H} {p : List MemPlace} (hok : Value.okWide Try.prog V0 .any base 38 v) (h : DataW.Trod enc Try.prog V0 0 (fun _ => true) true 38 v d p) :
    ∃ (A : Option Addr) (l : List Int) (c : Nat), v = .slice A l.length c ∧ l.length ≤ c ∧ c ≤ 9223372036854775807 ∧ Row V0 A (L10.iv l) := by
  obtain ⟨A, n, c, rfl⟩ := WideShapes.okWide_slice Try.underlying38 hok
  obtain ⟨fuel, hf⟩ := h
  obtain ⟨A', l, c', e, h1⟩ := sl_read fuel _ _ hf
  have e' : [Value.slice A n c] = [.slice A' l.length c'] := e
  injection e' with e1 _
  exact ⟨A', l, c', e1, h1⟩
end
variable {w w' : World}
theorem SpOk.below {x : Sp} (h : SpOk w x) (hb : Below w.heap.size w w') : SpOk w' x := ⟨h.row.below hb, h.le, h.top, h.n, h.r, h.ln, h.md⟩
theorem sps_at {A : Option Addr} {l : List Sp} (h : Row w A (sps l)) {k : Nat} {u : Sp} (hk : l[k]? = some u) : ∃ b o : Nat, A = some ⟨b, o, none⟩ ∧ b < w.heap.size ∧ w.cell? ⟨b, o + k * 6, none⟩ = some (.int .i64 u.k) ∧ w.cell? ⟨b, o + k * 6 + 1, none⟩ = some (.int .i64 u.md) ∧ w.cell? ⟨b, o + k * 6 + 2, none⟩ = some (.int .i64 u.ln) ∧ w.cell? ⟨b, o + k * 6 + 3, none⟩ = some (.int .i64 u.n) ∧ w.cell? ⟨b, o + k * 6 + 4, none⟩ = some (.int .i64 u.r) ∧ w.cell? ⟨b, o + k * 6 + 5, none⟩ = some (.slice u.a u.ws.length u.c) := by
  have hlt := (List.getElem?_eq_some_iff.1 hk).1
  have hf := fun j (hj : j < 6) => flat_at Sp.cells_len l k j u hk hj
  obtain ⟨b, o, e, hb, hc⟩ := h (by unfold sps; rw [flat_len Sp.cells_len]; omega)
  have hq := fun j (hj : j < 6) (v : Value) (hv : u.cells[j]? = some v) => hc (k * 6 + j) v (by unfold sps; rw [hf j hj]; exact hv)
  refine ⟨b, o, e, hb, ?_, ?_, ?_, ?_, ?_, ?_⟩
  · exact hq 0 (by omega) _ rfl
  · have := hq 1 (by omega) _ rfl; rwa [← Nat.add_assoc] at this
  · have := hq 2 (by omega) _ rfl; rwa [← Nat.add_assoc] at this
  · have := hq 3 (by omega) _ rfl; rwa [← Nat.add_assoc] at this
  · have := hq 4 (by omega) _ rfl; rwa [← Nat.add_assoc] at this
  · have := hq 5 (by omega) _ rfl; rwa [← Nat.add_assoc] at this
theorem ints_at {A : Option Addr} {l : List Int} (h : Row w A (L10.iv l)) {k : Nat} {u : Int} (hk : l[k]? = some u) : ∃ b o : Nat, A = some ⟨b, o, none⟩ ∧ b < w.heap.size ∧ w.cell? ⟨b, o + k, none⟩ = some (.int .i64 u) := by
  have hlt := (List.getElem?_eq_some_iff.1 hk).1
  obtain ⟨b, o, e, hb, hc⟩ := h (by rw [iv_len]; omega)
  exact ⟨b, o, e, hb, hc k _ (by simp [L10.iv, hk])⟩
/-- A step's words: at most 8. -/
def Sp.w8 (x : Sp) : List Int := x.ws.take 8
theorem Sp.w8_len (x : Sp) : x.w8.length ≤ 8 := by unfold Sp.w8; rw [List.length_take]; omega
theorem SpOk.w8 {x : Sp} (h : SpOk w x) : Row w x.a (L10.iv x.w8) ∧ x.w8.length ≤ x.c ∧ x.w8.length ≤ 1000 := by
  have h8 : x.w8.length = min 8 x.ws.length := List.length_take
  have := h.le
  refine ⟨?_, by omega, by omega⟩
  rw [show L10.iv x.w8 = (L10.iv x.ws).take 8 by unfold L10.iv Sp.w8; rw [List.map_take]]
  exact h.row.take 8
theorem words_any (x : Sp) (hc : x.ws.length ≤ x.c) (hc2 : x.c ≤ 9223372036854775807) (w : World) : Calls Try.prog 11 #[x.val] w fun e w' => e = .returned (.slice x.a x.w8.length x.c) ∧ Below w.heap.size w w' := by
  have h8 : x.w8.length = min 8 x.ws.length := List.length_take
  unfold Sp.val
  rw [h8]
  clear h8
  by_cases h : x.ws.length ≤ 8
  · have HM : Hid (min 8 x.ws.length = x.ws.length) := by show min 8 x.ws.length = x.ws.length; omega
    go_enter Try.func11, Try.ntmps11
    go_wp2
    go_ret
    exact ⟨by rw [HM.out]; rfl, b01 _ _⟩
  · have HM : Hid (min 8 x.ws.length = 8) := by show min 8 x.ws.length = 8; omega
    go_enter Try.func11, Try.ntmps11
    go_wp2
    go_ret
    exact ⟨by rw [HM.out]; rfl, b01 _ _⟩
theorem kind_any (x : Sp) (w : World) : Calls Try.prog 9 #[x.val] w fun e w' => e = .returned (.int .i64 (modU x.k 8)) ∧ Below w.heap.size w w' := by
  obtain ⟨q, hq, q0, q1, q2⟩ : ∃ q, (IntKind.u64.wrap x.k).tmod 8 = q ∧ 0 ≤ q ∧ q < 8 ∧ modU x.k 8 = q := ⟨_, rfl, (modU_bd x.k 8 (by decide)).1, (modU_bd x.k 8 (by decide)).2, rfl⟩
  have HQ := Lib.hid q2; clear q2
  unfold Sp.val
  go_enter Try.func9, Try.ntmps9
  go_wp2
  go_ret
  exact ⟨by rw [HQ.out]; rfl, b01 w _⟩
def EaPost (A : Option Addr) (n : Nat) (w : World) (e : Ending) (w' : World) : Prop := (∃ c', e = .returned (.slice A (min n 80) c')) ∧ w = w'
theorem early_any {A : Option Addr} (n c : Nat) (hn : n ≤ c) (hc : c ≤ 9223372036854775807) (w : World) :
    Calls Try.prog 8 #[.slice A n c] w (EaPost A n w) := by
  by_cases h : n ≤ 80
  · have HM : Hid (min n 80 = n) := by show min n 80 = n; omega
    go_enter Try.func8, Try.ntmps8
    go_wp2
    go_ret
    exact ⟨⟨c, by rw [HM.out]; rfl⟩, rfl⟩
  · have HM : Hid (min n 80 = 80) := by show min n 80 = 80; omega
    go_enter Try.func8, Try.ntmps8
    go_wp2
    go_ret
    exact ⟨⟨c, by rw [HM.out]; rfl⟩, rfl⟩
end Go.Proofs.Ytmfkapbllmfegaa.A12
