/- What the statements of stage 4 read of their arguments (configs, numbers): from the rows' conditions to memory; the library's variable. -/
import Derived.Test.YtmfkapbllmfegaaDoorLiv
import Derived.Test.YtmfkapbllmfegaaDoorGArgs
import Derived.Deep.Slices
import Derived.Deep.Fields
import Derived.ChangeSame
import Derived.ChangeVars
import Derived.JoinedOf
import Derived.LaidLaws
import Derived.LaidHandle
import Derived.Stop.Joined
import Derived.Carry
namespace Go.Proofs.YtmfkapbllmfegaaDoor.C04
open Go.ChangeShapes Go.WideShapes Go.RowKit Go.Proofs.YtmfkapbllmfegaaDoor.G

section
variable {H : Type} {enc : TypeId × Value → H} {W : World}
set_option maxRecDepth 100000 in
theorem win_read (fuel : Nat) (cs : List Value) (x : DataW H × List MemPlace) (h : DataW.trod enc Tryd.prog W 0 (fun _ => true) true fuel 41 cs = some x) : ∃ a : Win, cs = a.cells ∧ a.s ≤ 9223372036854775807 := by
  obtain ⟨z, hl, hz⟩ := ints_read (k := 3) Tryd.underlying41 (by kernel_rfl) (by kernel_rfl) (by kernel_rfl) (fun i hi => by
    rcases i with _ | _ | _ | i
    · exact ⟨_, rfl, Tryd.underlying3⟩
    · exact ⟨_, rfl, Tryd.underlying3⟩
    · exact ⟨_, rfl, Tryd.underlying3⟩
    · omega) h
  refine ⟨⟨z 0, z 1, z 2⟩, ?_, (hz 1 (by omega)).2⟩
  apply List.ext_getElem?
  intro i
  by_cases hi : i < 3
  · rw [(hz i hi).1]
    rcases i with _ | _ | _ | i
    · rfl
    · rfl
    · rfl
    · omega
  · rw [List.getElem?_eq_none (by omega), List.getElem?_eq_none (by simp [Win.cells]; omega)]
set_option maxRecDepth 100000 in
theorem chn_read (fuel : Nat) (cs : List Value) (x : DataW H × List MemPlace) (h : DataW.trod enc Tryd.prog W 0 (fun _ => true) true fuel 37 cs = some x) : ∃ a : Chn, cs = a.cells ∧ True := by
  obtain ⟨z, hl, hz⟩ := ints_read (k := 11) Tryd.underlying37 (by kernel_rfl) (by kernel_rfl) (by kernel_rfl) (fun i hi => by
    rcases i with _ | _ | _ | _ | _ | _ | _ | _ | _ | _ | _ | i
    all_goals first | exact ⟨_, rfl, Tryd.underlying3⟩ | omega) h
  refine ⟨⟨z 0, z 1, z 2, z 3, z 4, z 5, z 6, z 7, z 8, z 9, z 10⟩, ?_, trivial⟩
  apply List.ext_getElem?
  intro i
  by_cases hi : i < 11
  · rw [(hz i hi).1]
    rcases i with _ | _ | _ | _ | _ | _ | _ | _ | _ | _ | _ | i
    all_goals first | rfl | omega
  · rw [List.getElem?_eq_none (by omega), List.getElem?_eq_none (by simp [Chn.cells]; omega)]
set_option maxRecDepth 100000 in
theorem int_read (fuel : Nat) (cs : List Value) (x : DataW H × List MemPlace) (h : DataW.trod enc Tryd.prog W 0 (fun _ => true) true fuel 3 cs = some x) : ∃ a : Int, cs = [iv a] ∧ True := by
  obtain ⟨m, hm, _⟩ := DataW.trod_int Tryd.underlying3 h
  exact ⟨m, hm, trivial⟩
theorem ivs_flat (l : List Int) : (l.flatMap fun z => [iv z]) = ivs l := by
  induction l with
  | nil => rfl
  | cons a l ih => rw [List.flatMap_cons, ih]; rfl
set_option maxRecDepth 100000 in
theorem open_cfg {base : Nat} {v : Value} {d : DataW H} {p : List MemPlace} (hok : Value.okWide Tryd.prog W .any base 26 v) (h : DataW.Trod enc Tryd.prog W 0 (fun _ => true) true 26 v d p) : ∃ c, CfgAt W v c := by
  obtain ⟨cs, rfl, hsz⟩ := okWide_struct Tryd.underlying26 hok
  have h5 : cs.size = 5 := hsz.trans (by kernel_rfl)
  obtain ⟨l⟩ := cs
  have hone : Deep.oneCellFields Tryd.prog (Tryd.prog.fieldsOf 26) = true := by kernel_rfl
  have hu : Tryd.prog.underlying 26 = some (.struct (Tryd.prog.fieldsOf 26)) := by kernel_rfl
  match l, h5 with
  | [a0, a1, a2, a3, a4], _ =>
    obtain ⟨fuel, hf⟩ := h
    obtain ⟨xs, n, _, _, _, hxl, hg⟩ := DataW.trod_struct hu hf
    have hx5 : xs.length = 5 := hxl.trans (by kernel_rfl)
    have key : ∀ (i : Nat) (T : TypeId) (a : Value), ((Tryd.prog.fieldsOf 26)[i]?).map (·.type) = some T → [a0, a1, a2, a3, a4][i]? = some a → i < 5 → ∃ x, DataW.trod enc Tryd.prog W 0 (fun _ => true) true n T [a] = some x := by
      intro i T a hT ha hi
      obtain ⟨f, hfi, rfl⟩ := Option.map_eq_some_iff.1 hT
      obtain ⟨ho, hk⟩ := Deep.hone_of hone i f hfi
      have h1 := hg i f hfi
      rw [ho, hk, List.getElem?_eq_getElem (by omega)] at h1
      have e : ((Value.agg ⟨[a0, a1, a2, a3, a4]⟩).cells.toList.drop i).take 1 = [a] := by
        rcases i with _ | _ | _ | _ | _ | i
        all_goals first | (simp at ha; subst ha; rfl) | omega
      exact ⟨_, by rw [← e]; exact h1⟩
    obtain ⟨x0, t0⟩ := key 0 3 a0 (by kernel_rfl) rfl (by omega)
    obtain ⟨x1, t1⟩ := key 1 3 a1 (by kernel_rfl) rfl (by omega)
    obtain ⟨x2, t2⟩ := key 2 22 a2 (by kernel_rfl) rfl (by omega)
    obtain ⟨x3, t3⟩ := key 3 23 a3 (by kernel_rfl) rfl (by omega)
    obtain ⟨x4, t4⟩ := key 4 24 a4 (by kernel_rfl) rfl (by omega)
    obtain ⟨z0, e0, _⟩ := DataW.trod_int Tryd.underlying3 t0
    obtain ⟨z1, e1, _⟩ := DataW.trod_int Tryd.underlying3 t1
    obtain ⟨A2, c2, l2, e2, g2, m2, r2, k2⟩ := open_rows Win.cells (fun x => x.s ≤ 9223372036854775807) ⟨0, 0, 0⟩ Tryd.underlying22 (by kernel_rfl : Tryd.prog.cellsOf 41 = 3) (by omega) Win.cells_len win_read t2
    obtain ⟨A3, c3, l3, e3, g3, m3, r3, k3⟩ := open_rows Chn.cells (fun _ => True) ⟨0, 0, 0, 0, 0, 0, 0, 0, 0, 0, 0⟩ Tryd.underlying23 (by kernel_rfl : Tryd.prog.cellsOf 37 = 11) (by omega) Chn.cells_len chn_read t3
    obtain ⟨A4, c4, l4, e4, g4, m4, r4, k4⟩ := open_rows (fun z => [iv z]) (fun _ => True) 0 Tryd.underlying24 (by kernel_rfl : Tryd.prog.cellsOf 3 = 1) (by omega) (fun _ => rfl) int_read t4
    injection e0 with e0 _
    injection e1 with e1 _
    injection e2 with e2 _
    injection e3 with e3 _
    injection e4 with e4 _
    subst e0 e1 e2 e3 e4
    rw [ivs_flat] at r4
    exact ⟨⟨z0, z1, l2, l3, l4⟩, A2, A3, A4, c2, c3, c4, rfl, r2, r3, r4, g2, m2, g3, m3, g4, m4, k2⟩
end
end Go.Proofs.YtmfkapbllmfegaaDoor.C04
