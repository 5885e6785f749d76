/- What may be has room in its bytes. -/
import Derived.Test.YtfbbgoahipejlabDoorPW6
import Derived.Test.YtfbbgoahipejlabDoorReach
import Derived.Test.YtfbbgoahipejlabDoorOne0
namespace Go.Proofs.YtfbbgoahipejlabDoor.T
open Go.RowKit Go.Proofs.YtfbbgoahipejlabDoor.G Go.Proofs.YtfbbgoahipejlabDoor.C04

theorem in1 {v : Int} (h0 : 0 ≤ v) (h1 : v < 256) : W.inN 1 v = true := decide_eq_true ⟨h0, by show v < 256; exact h1⟩
theorem in4 {v : Int} (h0 : 0 ≤ v) (h1 : v < 4294967296) : W.inN 4 v = true := decide_eq_true ⟨h0, by show v < 4294967296; exact h1⟩
theorem wbad_none {P F : Int} : ∀ (ws : List Win) (i : Nat) (e : Int), wbad P F i e ws = none → 0 ≤ e → ∀ x ∈ ws, ∃ e', 0 ≤ e' ∧ wok P F e' x = true
  | [], _, _, _, _, x, hx => by cases hx
  | y :: r, i, e, h, he, x, hx => by
    rw [wbad] at h
    by_cases hy : wok P F e y = true
    · rw [if_pos hy] at h
      rcases List.mem_cons.1 hx with rfl | hx
      · exact ⟨e, he, hy⟩
      · refine wbad_none r (i + 1) _ h ?_ x hx
        simp only [wok, decide_eq_true_eq] at hy
        omega
    · rw [if_neg hy] at h; cases h
theorem abad_none : ∀ (ac : List Int) (i : Nat), abad i ac = none → ∀ x ∈ ac, wth x 0 2 = true
  | [], _, _, x, hx => by cases hx
  | y :: r, i, h, x, hx => by
    rw [abad] at h
    by_cases hy : wth y 0 2 = true
    · rw [if_pos hy] at h
      rcases List.mem_cons.1 hx with rfl | hx
      · exact hy
      · exact abad_none r (i + 1) h x hx
    · rw [if_neg hy] at h; cases h
theorem chnOk_of {P : Int} (hP : P ≤ 4) {x : Chn} (h : rgt P x = true) : ChnOk x := by
  simp only [rgt, knd, decide_eq_true_eq] at h
  constructor
  · intro z hz
    simp only [List.mem_cons, List.not_mem_nil, or_false] at hz
    rcases hz with rfl | rfl | rfl | rfl <;> exact in1 (by omega) (by omega)
  · exact in4 (by omega) (by omega)
  · intro z hz
    simp only [List.mem_cons, List.not_mem_nil, or_false] at hz
    rcases hz with rfl | rfl | rfl <;> exact in1 (by omega) (by omega)
  · exact in4 (by omega) (by omega)
  · intro z hz
    simp only [List.mem_cons, List.not_mem_nil, or_false] at hz
    rcases hz with rfl | rfl <;> exact in1 (by omega) (by omega)
theorem cfgOk_of {c : Cfg} (h : flt c = none) : CfgOk c := by
  obtain ⟨h1, h2, h3, h4, h5, h6, h7, h8⟩ := flt_none h
  refine ⟨fun z hz => ?_, fun x hx => ?_, fun x hx => chnOk_of h1.2 (cbad_none _ _ h6 x hx), fun x hx => ?_, by omega, h5, by omega⟩
  · simp only [List.mem_cons, List.not_mem_nil, or_false] at hz
    rcases hz with rfl | rfl <;> exact in1 (by omega) (by omega)
  · obtain ⟨e, he, hw⟩ := wbad_none _ _ _ h4 (by omega) x hx
    simp only [wok, decide_eq_true_eq] at hw
    refine ⟨fun z hz => ?_, by omega⟩
    simp only [List.mem_cons, List.not_mem_nil, or_false] at hz
    rcases hz with rfl | rfl | rfl
    · unfold ow; split <;> exact in1 (by omega) (by omega)
    · exact in1 (by omega) (by omega)
    · exact in1 (by omega) (by omega)
  · have := wth_yes (abad_none _ _ h8 x hx)
    exact in1 (by omega) (by omega)
end Go.Proofs.YtfbbgoahipejlabDoor.T
