/- Ahead of ConfigOne: what is told of a config of which one number has been made one that may never be; storing into rows of one's own. -/
import Derived.Test.YtmfkapbllmfegaaDoorGood0
import Derived.Test.YtmfkapbllmfegaaDoorChk3
namespace Go.Proofs.YtmfkapbllmfegaaDoor.C04
open Go.RowKit Go.Proofs.YtmfkapbllmfegaaDoor.G

theorem wbad_set {P F : Int} {y : Win} : ∀ (ws : List Win) (k i : Nat) (e : Int), wbad P F i e ws = none → k < ws.length → y.l = 0 → wbad P F i e (ws.set k y) = some (i + k)
  | [], k, _, _, _, h, _ => absurd h (by simp)
  | x :: r, 0, i, e, _, _, hy => by
    rw [List.set_cons_zero, wbad, if_neg (by simp only [wok, decide_eq_true_eq]; omega)]; rfl
  | x :: r, k + 1, i, e, h, hk, hy => by
    rw [wbad] at h
    by_cases hx : wok P F e x = true
    · rw [if_pos hx] at h
      rw [List.set_cons_succ, wbad, if_pos hx, wbad_set r k (i + 1) _ h (by simpa using hk) hy]
      congr 1; omega
    · rw [if_neg hx] at h; cases h
theorem cbad_set {P : Int} {y : Chn} (hy : rgt P y = false) : ∀ (cs : List Chn) (k i : Nat), cbad P i cs = none → k < cs.length → cbad P i (cs.set k y) = some (i + k)
  | [], k, _, _, h => absurd h (by simp)
  | x :: r, 0, i, _, _ => by rw [List.set_cons_zero, cbad, if_neg (by rw [hy]; decide)]; rfl
  | x :: r, k + 1, i, h, hk => by
    rw [cbad] at h
    by_cases hx : rgt P x = true
    · rw [if_pos hx] at h
      rw [List.set_cons_succ, cbad, if_pos hx, cbad_set hy r k (i + 1) h (by simpa using hk)]
      congr 1; omega
    · rw [if_neg hx] at h; cases h
theorem abad_set {y : Int} (hy : wth y 0 2 = false) : ∀ (ac : List Int) (k i : Nat), abad i ac = none → k < ac.length → abad i (ac.set k y) = some (i + k)
  | [], k, _, _, h => absurd h (by simp)
  | x :: r, 0, i, _, _ => by rw [List.set_cons_zero, abad, if_neg (by rw [hy]; decide)]; rfl
  | x :: r, k + 1, i, h, hk => by
    rw [abad] at h
    by_cases hx : wth x 0 2 = true
    · rw [if_pos hx] at h
      rw [List.set_cons_succ, abad, if_pos hx, abad_set hy r k (i + 1) h (by simpa using hk)]
      congr 1; omega
    · rw [if_neg hx] at h; cases h
/-- What a config that may be is made of. -/
theorem flt_none {c : Cfg} (h : flt c = none) : (1 ≤ c.P ∧ c.P ≤ 4) ∧ (1 ≤ c.F ∧ c.F ≤ 64) ∧ (1 ≤ c.ws.length ∧ c.ws.length ≤ 8) ∧ wbad c.P c.F 0 0 c.ws = none ∧ c.cs.length ≤ 6 ∧ cbad c.P 0 c.cs = none ∧ (c.ac.length : Int) = c.P ∧ abad 0 c.ac = none := by
  unfold flt at h
  split at h
  · rename_i hP
    split at h
    · rename_i hF
      split at h
      · cases h
      · rename_i hw
        split at h
        · cases h
        · rename_i hc
          have h1 := wth_yes hP
          have h2 := wth_yes hF
          unfold wflt at hw
          unfold cflt at hc
          unfold aflt at h
          split at hw
          · rename_i hl
            split at hc
            · rename_i hm
              split at h
              · rename_i ha
                have h3 := wth_yes hl
                have k1 : wbad c.P c.F 0 0 c.ws = none := by
                  rcases hx : wbad c.P c.F 0 0 c.ws with _ | a
                  · rfl
                  · rw [hx] at hw; cases hw
                have k2 : cbad c.P 0 c.cs = none := by
                  rcases hx : cbad c.P 0 c.cs with _ | a
                  · rfl
                  · rw [hx] at hc; cases hc
                have k3 : abad 0 c.ac = none := by
                  rcases hx : abad 0 c.ac with _ | a
                  · rfl
                  · rw [hx] at h; cases h
                exact ⟨h1, h2, by omega, k1, hm, k2, ha, k3⟩
              · cases h
            · cases hc
          · cases hw
    · cases h
  · cases h
theorem one_P {c : Cfg} (hP : c.P = 5) : flt c = some (1, 0) := by rw [flt, if_neg (by simp only [wth, hP, decide_eq_true_eq]; omega)]
theorem one_F {c : Cfg} (h1 : 1 ≤ c.P ∧ c.P ≤ 4) (hF : c.F = 0) : flt c = some (2, 0) := by
  rw [flt, if_pos (by simp only [wth, decide_eq_true_eq]; omega), if_neg (by simp only [wth, hF, decide_eq_true_eq]; omega)]
theorem one_W {P F : Int} {ws : List Win} {cs : List Chn} {ac : List Int} (h : flt ⟨P, F, ws, cs, ac⟩ = none) {k : Nat} (hk : k < ws.length) {y : Win} (hy : y.l = 0) : flt ⟨P, F, ws.set k y, cs, ac⟩ = some (3, (k : Int)) := by
  obtain ⟨h1, h2, h3, h4, _⟩ := flt_none h
  have e := wbad_set ws k 0 0 h4 hk hy
  rw [Nat.zero_add] at e
  have ew : wflt ⟨P, F, ws.set k y, cs, ac⟩ = some (3, (k : Int)) := by
    simp only [wflt, List.length_set, e]
    rw [if_pos (by simp only [wth, decide_eq_true_eq]; simp only at h3; omega)]; rfl
  rw [flt, if_pos (by simpa only [wth, decide_eq_true_eq] using h1), if_pos (by simpa only [wth, decide_eq_true_eq] using h2), ew]
theorem one_C {P F : Int} {ws : List Win} {cs : List Chn} {ac : List Int} (h : flt ⟨P, F, ws, cs, ac⟩ = none) {k : Nat} (hk : k < cs.length) {y : Chn} (hy : rgt P y = false) : flt ⟨P, F, ws, cs.set k y, ac⟩ = some (4, (k : Int)) := by
  obtain ⟨h1, h2, h3, h4, h5, h6, _⟩ := flt_none h
  have e := cbad_set hy cs k 0 h6 hk
  rw [Nat.zero_add] at e
  have ew : wflt ⟨P, F, ws, cs.set k y, ac⟩ = none := by
    simp only [wflt, h4]
    rw [if_pos (by simp only [wth, decide_eq_true_eq]; simp only at h3; omega)]; rfl
  have ec : cflt ⟨P, F, ws, cs.set k y, ac⟩ = some (4, (k : Int)) := by
    simp only [cflt, List.length_set, e]
    rw [if_pos h5]; rfl
  rw [flt, if_pos (by simpa only [wth, decide_eq_true_eq] using h1), if_pos (by simpa only [wth, decide_eq_true_eq] using h2), ew]
  simp only [ec]
theorem one_A {P F : Int} {ws : List Win} {cs : List Chn} {ac : List Int} (h : flt ⟨P, F, ws, cs, ac⟩ = none) {k : Nat} (hk : k < ac.length) {y : Int} (hy : wth y 0 2 = false) : flt ⟨P, F, ws, cs, ac.set k y⟩ = some (5, (k : Int)) := by
  obtain ⟨h1, h2, h3, h4, h5, h6, h7, h8⟩ := flt_none h
  have e := abad_set hy ac k 0 h8 hk
  rw [Nat.zero_add] at e
  have ew : wflt ⟨P, F, ws, cs, ac.set k y⟩ = none := by
    simp only [wflt, h4]
    rw [if_pos (by simp only [wth, decide_eq_true_eq]; simp only at h3; omega)]; rfl
  have ec : cflt ⟨P, F, ws, cs, ac.set k y⟩ = none := by
    simp only [cflt, h6]
    rw [if_pos h5]; rfl
  have ea : aflt ⟨P, F, ws, cs, ac.set k y⟩ = some (5, (k : Int)) := by
    simp only [aflt, List.length_set, e]
    rw [if_pos h7]; rfl
  rw [flt, if_pos (by simpa only [wth, decide_eq_true_eq] using h1), if_pos (by simpa only [wth, decide_eq_true_eq] using h2), ew]
  simp only [ec, ea]

/-! ### Storing into a row of one's own -/
theorem own_set {w : World} {B g : Nat} {t : TypeId} {m n c : Nat} {xs : List Value} (h : Own w B t m (.slice (some ⟨g, 0, none⟩) n c) n xs) (j : Nat) (hj : j < xs.length) (u : Value) : Own (w.setCell ⟨g, j, none⟩ u) B t m (.slice (some ⟨g, 0, none⟩) n c) n (xs.set j u) := by
  refine ⟨by rw [List.length_set]; exact h.1, ?_⟩
  rcases h.2 with ⟨e, _⟩ | ⟨g', cap, cur, e, hB, hh, hle, hm, hs, ht⟩
  · cases e
  · injection e with e1 e2 e3
    injection e1 with e1
    injection e1 with e1
    subst e1
    refine .inr ⟨g, cap, cur.setIfInBounds j u, by rw [← e3], hB, ?_, hle, hm, by simpa using hs, ?_⟩
    · have := Blk.set_ (w := w) (g := g) (t := t) (cs := cur) hh j u
      exact this
    · have hl : xs.length = n * m := h.1
      rw [Array.toList_setIfInBounds, List.take_set, ht]
theorem wvs_set (ws : List Win) (k : Nat) (x : Win) (hx : ws[k]? = some x) (z : Int) : (wvs ws).set (k * 3 + 2) (.int .i64 z) = wvs (ws.set k ⟨x.o, x.s, z⟩) := by
  induction ws generalizing k with
  | nil => simp at hx
  | cons a r ih =>
    cases k with
    | zero =>
      obtain rfl : a = x := by simpa using hx
      simp [wvs, Win.cells]
    | succ k =>
      have e : (k + 1) * 3 + 2 = k * 3 + 2 + 1 + 1 + 1 := by omega
      have := ih k (by simpa using hx)
      simp only [wvs, List.flatMap_cons, Win.cells, List.cons_append, List.nil_append, List.set_cons_succ, e] at this ⊢
      rw [this]
theorem cvs_set (cs : List Chn) (k : Nat) (x : Chn) (hx : cs[k]? = some x) (z : Int) : (cvs cs).set (k * 11 + 2) (.int .i64 z) = cvs (cs.set k { x with t := z }) := by
  induction cs generalizing k with
  | nil => simp at hx
  | cons a r ih =>
    cases k with
    | zero =>
      obtain rfl : a = x := by simpa using hx
      simp [cvs, Chn.cells]
    | succ k =>
      have e : (k + 1) * 11 + 2 = k * 11 + 2 + 1 + 1 + 1 + 1 + 1 + 1 + 1 + 1 + 1 + 1 + 1 := by omega
      have := ih k (by simpa using hx)
      simp only [cvs, List.flatMap_cons, Chn.cells, List.cons_append, List.nil_append, List.set_cons_succ, e] at this ⊢
      rw [this]
theorem ivs_set (ac : List Int) (k : Nat) (z : Int) : (ivs ac).set k (.int .i64 z) = ivs (ac.set k z) := by
  simp only [ivs, List.map_set]; rfl
end Go.Proofs.YtmfkapbllmfegaaDoor.C04
