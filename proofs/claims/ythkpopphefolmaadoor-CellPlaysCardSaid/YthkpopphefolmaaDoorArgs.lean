/- What the statements of stage 4 read of their arguments (configs, numbers): from the rows' conditions to memory; the library's variable. -/
import Derived.Test.YthkpopphefolmaaDoorLive
import Derived.Deep.Slices
import Derived.Deep.Fields
import Derived.ChangeSame
import Derived.ChangeVars
import Derived.JoinedOf
import Derived.LaidLaws
import Derived.LaidHandle
import Derived.Stop.Joined
import Derived.Carry
namespace Go.Proofs.YthkpopphefolmaaDoor.C04
open Go.ChangeShapes Go.WideShapes Go.RowKit Go.Proofs.YthkpopphefolmaaDoor.G

theorem own : ownKnob Tryd.prog.godebug = none := by kernel_rfl
theorem etNamed : Tryd.prog.globalNamed "errors.errorType" = some 0 := by kernel_rfl
theorem rtNamed : (Tryd.prog.cutTypes.find? (·.1 == "internal/reflectlite.rtype")).map (·.2) = some 214 := by kernel_rfl
theorem oneRow : ((List.range 274).filter fun t => Tryd.prog.rowNamed t [101, 114, 114, 111, 114]) = [117] := by kernel_rfl
theorem typesSize : Tryd.prog.types.size = 274 := by kernel_rfl
def laidL : List (String × DataW Unit) := [("errors.errorType", Rows.laid_errors_errorType)]
theorem et_of_laid {W : World} (h : laidMetH Tryd.prog laidL W) : Et W := by
  have h' : laidMet Tryd.prog [] W ∧ handlesMet Tryd.prog laidL W := h
  obtain ⟨name, u, ty, e1, e2, e3, e4, e5⟩ := h'.2 _ (List.mem_singleton.2 rfl)
  have en : name = [101, 114, 114, 111, 114] := (Option.some.inj e1).symm
  subst en
  obtain rfl := Option.some.inj (rtNamed.symm.trans e2)
  have hm : ty ∈ (List.range 274).filter fun t => Tryd.prog.rowNamed t [101, 114, 114, 111, 114] := List.mem_filter.2 ⟨List.mem_range.2 (by rw [← typesSize]; exact e3), e4⟩
  rw [oneRow] at hm
  obtain rfl := List.mem_singleton.1 hm
  have hh : typeHandle Tryd.prog 117 = .pointer (some ⟨4, 117, none⟩) := by kernel_rfl
  rw [hh] at e5
  unfold Et; simpa using World.var?_cell etNamed e5 0
noncomputable def laidWorld (os : Os) : World :=
  let w0 := World.holding Tryd.prog os ⟨#[], #[], []⟩
  { w0 with heap := w0.heap.modify 0 fun
      | .cells _ t frozen => .cells #[.iface 214 (.agg #[.pointer (some ⟨4, 117, none⟩)])] t frozen
      | o => o }
theorem laidWorld_met (os : Os) (args : Array Value) : laidMetH Tryd.prog laidL ((laidWorld os).forCall (fun _ _ => 0) ⟨#[], args, []⟩).memory :=
  laidMetH_of_parts (laidMet_nil _ _) (by kernel_rfl)

section
variable {H : Type} {enc : TypeId × Value → H} {P : Program} {W : World}
/-- A struct whose fields are all numbers. -/
theorem ints_read {t : TypeId} {fs : Array Field} {k : Nat} (hu : P.underlying t = some (.struct fs)) (hone : Deep.oneCellFields P fs = true) (hC : P.cellsOf t = k) (hk : fs.size = k) (ht : ∀ i, i < k → ∃ f, fs[i]? = some f ∧ P.underlying f.type = some (.int .i64))
    {sp : Nat → Bool} {held : Bool} {fuel : Nat} {cs : List Value} {x : DataW H × List MemPlace} (h : DataW.trod enc P W 0 sp held fuel t cs = some x) :
    ∃ z : Nat → Int, cs.length = k ∧ ∀ i, i < k → cs[i]? = some (.int .i64 (z i)) ∧ z i ≤ 9223372036854775807 := by
  obtain ⟨xs, n, _, _, hlen, hxl, hf⟩ := DataW.trod_struct hu h
  rw [hC] at hlen
  have key : ∀ i, ∃ m : Int, i < k → cs[i]? = some (.int .i64 m) ∧ m ≤ 9223372036854775807 := by
    intro i
    by_cases hi : i < k
    · obtain ⟨f, hfi, hfu⟩ := ht i hi
      obtain ⟨ho, hk'⟩ := Deep.hone_of hone i f hfi
      have h1 := hf i f hfi
      rw [ho, hk', List.getElem?_eq_getElem (by omega)] at h1
      obtain ⟨m, hm, _, hw⟩ := DataW.trod_int hfu h1
      refine ⟨m, fun _ => ⟨?_, (bounds_i64 hw).2⟩⟩
      have := congrArg (·[0]?) hm
      simpa [List.getElem?_take] using this
    · exact ⟨0, fun h => absurd h hi⟩
  exact ⟨fun i => Classical.choose (key i), hlen, fun i hi => Classical.choose_spec (key i) hi⟩
/-- A slice of elements that read alike. -/
theorem open_rows {α : Type} {t e : TypeId} {m : Nat} (g : α → List Value) (ok : α → Prop) (d0 : α) (hu : P.underlying t = some (.slice e)) (hC : P.cellsOf e = m) (hm0 : 0 < m) (hg : ∀ x, (g x).length = m)
    (hread : ∀ (fuel : Nat) (cs : List Value) (x : DataW H × List MemPlace), DataW.trod enc P W 0 (fun _ => true) true fuel e cs = some x → ∃ a : α, cs = g a ∧ ok a)
    {fuel : Nat} {cs : List Value} {x : DataW H × List MemPlace} (h : DataW.trod enc P W 0 (fun _ => true) true fuel t cs = some x) :
    ∃ (A : Option Addr) (c : Nat) (l : List α), cs = [.slice A l.length c] ∧ l.length ≤ c ∧ c ≤ 9223372036854775807 ∧ Row W A (l.flatMap g) ∧ ∀ (k : Nat) (y : α), l[k]? = some y → ok y := by
  rcases Deep.open_slice hu h with ⟨hcs, _⟩ | ⟨a, len, cap, n, k, D, Pl, hcs, _, hl, hm, hmm, _, hi⟩
  · exact ⟨none, 0, [], hcs, by simp, by omega, Row.none_, fun k y hy => by simp at hy⟩
  · rw [if_pos rfl] at hmm
    subst hmm
    rw [hC] at hi
    unfold maxLen at hm
    have hs : ∀ j : Nat, ∃ s : α, j < len → ok s ∧ ∀ i, i < m → W.cell? ((a.add (j * m)).add i) = (g s)[i]? := by
      intro j
      by_cases hj : j < len
      · obtain ⟨cs', h1, h2⟩ := hi j (by omega)
        obtain ⟨s, rfl, hok'⟩ := hread _ _ _ h2
        obtain ⟨_, _, h3⟩ := World.cells?_some h1
        exact ⟨s, fun _ => ⟨hok', fun i hi' => h3 i hi'⟩⟩
      · exact ⟨d0, fun h => absurd h hj⟩
    obtain ⟨S, hS⟩ : ∃ S : Nat → α, ∀ j, j < len → ok (S j) ∧ ∀ i, i < m → W.cell? ((a.add (j * m)).add i) = (g (S j))[i]? := ⟨fun j => Classical.choose (hs j), fun j hj => Classical.choose_spec (hs j) hj⟩
    clear hs
    have hlen : (List.ofFn fun j : Fin len => S j).length = len := by simp
    refine ⟨some a, _, List.ofFn fun j : Fin len => S j, by rw [hlen]; exact hcs, by rw [hlen]; exact hl, hm, fun h0 => ?_, fun k y hy => ?_⟩
    · rw [flat_len hg, hlen] at h0
      have hl0 : 0 < len := by
        rcases Nat.eq_zero_or_pos len with h1 | h1
        · rw [h1, Nat.zero_mul] at h0; omega
        · exact h1
      have hc0 := (hS 0 hl0).2 0 hm0
      have hg0 : (g (S 0))[0]? = some ((g (S 0))[0]'(by rw [hg]; exact hm0)) := List.getElem?_eq_getElem _
      rw [hg0, Nat.zero_mul] at hc0
      have hc1 : W.cell? (a.add 0) = some ((g (S 0))[0]'(by rw [hg]; exact hm0)) := by
        obtain ⟨ab, ao, asp⟩ := a
        cases asp <;> simpa [Addr.add] using hc0
      obtain ⟨b, o, rfl⟩ := plain_addr hc1
      have hlt : b < W.heap.size := by
        have := World.block_lt_of_cell? W _ hc1
        simpa [Addr.add_lit] using this
      refine ⟨b, o, rfl, hlt, fun j u hj => ?_⟩
      have hjl : j < len * m := by
        have := (List.getElem?_eq_some_iff.1 hj).1
        rwa [flat_len hg, hlen] at this
      have hq : j / m < len := Nat.div_lt_of_lt_mul (by rwa [Nat.mul_comm])
      have hr : j % m < m := Nat.mod_lt _ hm0
      have hj' : j / m * m + j % m = j := by rw [Nat.mul_comm]; exact Nat.div_add_mod j m
      have hx : (List.ofFn fun j : Fin len => S j)[j / m]? = some (S (j / m)) := by
        rw [List.getElem?_eq_getElem (by rw [hlen]; exact hq)]; simp
      have h5 := flat_at hg _ (j / m) (j % m) _ hx hr
      rw [hj', hj] at h5
      have h6 := (hS (j / m) hq).2 (j % m) hr
      rw [← h5] at h6
      rw [← h6]
      congr 1
      simp [Addr.add_lit, Nat.add_assoc, hj']
    · have hk : k < len := by
        have := (List.getElem?_eq_some_iff.1 hy).1
        rwa [hlen] at this
      rw [List.getElem?_eq_getElem (by rw [hlen]; exact hk)] at hy
      simp at hy
      subst hy
      exact (hS k hk).1
end
section
variable {H : Type} {enc : TypeId × Value → H} {W : World}
set_option maxRecDepth 100000 in
theorem win_read (fuel : Nat) (cs : List Value) (x : DataW H × List MemPlace) (h : DataW.trod enc Tryd.prog W 0 (fun _ => true) true fuel 54 cs = some x) : ∃ a : Win, cs = a.cells ∧ a.s ≤ 9223372036854775807 := by
  obtain ⟨z, hl, hz⟩ := ints_read (k := 3) Tryd.underlying54 (by kernel_rfl) (by kernel_rfl) (by kernel_rfl) (fun i hi => by
    rcases i with _ | _ | _ | i
    · exact ⟨_, rfl, Tryd.underlying3⟩
    · exact ⟨_, rfl, Tryd.underlying3⟩
    · exact ⟨_, rfl, Tryd.underlying3⟩
    · omega) h
  refine ⟨⟨z 0, z 1, z 2⟩, ?_, (hz 1 (by omega)).2⟩
  apply List.ext_getElem?
  intro i
  by_cases hi : i < 3
  · rw [(hz i hi).1]
    rcases i with _ | _ | _ | i
    · rfl
    · rfl
    · rfl
    · omega
  · rw [List.getElem?_eq_none (by omega), List.getElem?_eq_none (by simp [Win.cells]; omega)]
set_option maxRecDepth 100000 in
theorem chn_read (fuel : Nat) (cs : List Value) (x : DataW H × List MemPlace) (h : DataW.trod enc Tryd.prog W 0 (fun _ => true) true fuel 56 cs = some x) : ∃ a : Chn, cs = a.cells ∧ True := by
  obtain ⟨z, hl, hz⟩ := ints_read (k := 11) Tryd.underlying56 (by kernel_rfl) (by kernel_rfl) (by kernel_rfl) (fun i hi => by
    rcases i with _ | _ | _ | _ | _ | _ | _ | _ | _ | _ | _ | i
    all_goals first | exact ⟨_, rfl, Tryd.underlying3⟩ | omega) h
  refine ⟨⟨z 0, z 1, z 2, z 3, z 4, z 5, z 6, z 7, z 8, z 9, z 10⟩, ?_, trivial⟩
  apply List.ext_getElem?
  intro i
  by_cases hi : i < 11
  · rw [(hz i hi).1]
    rcases i with _ | _ | _ | _ | _ | _ | _ | _ | _ | _ | _ | i
    all_goals first | rfl | omega
  · rw [List.getElem?_eq_none (by omega), List.getElem?_eq_none (by simp [Chn.cells]; omega)]
set_option maxRecDepth 100000 in
theorem int_read (fuel : Nat) (cs : List Value) (x : DataW H × List MemPlace) (h : DataW.trod enc Tryd.prog W 0 (fun _ => true) true fuel 3 cs = some x) : ∃ a : Int, cs = [iv a] ∧ True := by
  obtain ⟨m, hm, _⟩ := DataW.trod_int Tryd.underlying3 h
  exact ⟨m, hm, trivial⟩
theorem ivs_flat (l : List Int) : (l.flatMap fun z => [iv z]) = ivs l := by
  induction l with
  | nil => rfl
  | cons a l ih => rw [List.flatMap_cons, ih]; rfl
set_option maxRecDepth 100000 in
theorem open_cfg {base : Nat} {v : Value} {d : DataW H} {p : List MemPlace} (hok : Value.okWide Tryd.prog W .any base 50 v) (h : DataW.Trod enc Tryd.prog W 0 (fun _ => true) true 50 v d p) : ∃ c, CfgAt W v c := by
  obtain ⟨cs, rfl, hsz⟩ := okWide_struct Tryd.underlying50 hok
  have h5 : cs.size = 5 := hsz.trans (by kernel_rfl)
  obtain ⟨l⟩ := cs
  have hone : Deep.oneCellFields Tryd.prog (Tryd.prog.fieldsOf 50) = true := by kernel_rfl
  have hu : Tryd.prog.underlying 50 = some (.struct (Tryd.prog.fieldsOf 50)) := by kernel_rfl
  match l, h5 with
  | [a0, a1, a2, a3, a4], _ =>
    obtain ⟨fuel, hf⟩ := h
    obtain ⟨xs, n, _, _, _, hxl, hg⟩ := DataW.trod_struct hu hf
    have hx5 : xs.length = 5 := hxl.trans (by kernel_rfl)
    have key : ∀ (i : Nat) (T : TypeId) (a : Value), ((Tryd.prog.fieldsOf 50)[i]?).map (·.type) = some T → [a0, a1, a2, a3, a4][i]? = some a → i < 5 → ∃ x, DataW.trod enc Tryd.prog W 0 (fun _ => true) true n T [a] = some x := by
      intro i T a hT ha hi
      obtain ⟨f, hfi, rfl⟩ := Option.map_eq_some_iff.1 hT
      obtain ⟨ho, hk⟩ := Deep.hone_of hone i f hfi
      have h1 := hg i f hfi
      rw [ho, hk, List.getElem?_eq_getElem (by omega)] at h1
      have e : ((Value.agg ⟨[a0, a1, a2, a3, a4]⟩).cells.toList.drop i).take 1 = [a] := by
        rcases i with _ | _ | _ | _ | _ | i
        all_goals first | (simp at ha; subst ha; rfl) | omega
      exact ⟨_, by rw [← e]; exact h1⟩
    obtain ⟨x0, t0⟩ := key 0 3 a0 (by kernel_rfl) rfl (by omega)
    obtain ⟨x1, t1⟩ := key 1 3 a1 (by kernel_rfl) rfl (by omega)
    obtain ⟨x2, t2⟩ := key 2 47 a2 (by kernel_rfl) rfl (by omega)
    obtain ⟨x3, t3⟩ := key 3 48 a3 (by kernel_rfl) rfl (by omega)
    obtain ⟨x4, t4⟩ := key 4 26 a4 (by kernel_rfl) rfl (by omega)
    obtain ⟨z0, e0, _⟩ := DataW.trod_int Tryd.underlying3 t0
    obtain ⟨z1, e1, _⟩ := DataW.trod_int Tryd.underlying3 t1
    obtain ⟨A2, c2, l2, e2, g2, m2, r2, k2⟩ := open_rows Win.cells (fun x => x.s ≤ 9223372036854775807) ⟨0, 0, 0⟩ Tryd.underlying47 (by kernel_rfl : Tryd.prog.cellsOf 54 = 3) (by omega) Win.cells_len win_read t2
    obtain ⟨A3, c3, l3, e3, g3, m3, r3, k3⟩ := open_rows Chn.cells (fun _ => True) ⟨0, 0, 0, 0, 0, 0, 0, 0, 0, 0, 0⟩ Tryd.underlying48 (by kernel_rfl : Tryd.prog.cellsOf 56 = 11) (by omega) Chn.cells_len chn_read t3
    obtain ⟨A4, c4, l4, e4, g4, m4, r4, k4⟩ := open_rows (fun z => [iv z]) (fun _ => True) 0 Tryd.underlying26 (by kernel_rfl : Tryd.prog.cellsOf 3 = 1) (by omega) (fun _ => rfl) int_read t4
    injection e0 with e0 _
    injection e1 with e1 _
    injection e2 with e2 _
    injection e3 with e3 _
    injection e4 with e4 _
    subst e0 e1 e2 e3 e4
    rw [ivs_flat] at r4
    exact ⟨⟨z0, z1, l2, l3, l4⟩, A2, A3, A4, c2, c3, c4, rfl, r2, r3, r4, g2, m2, g3, m3, g4, m4, k2⟩
end
end Go.Proofs.YthkpopphefolmaaDoor.C04
