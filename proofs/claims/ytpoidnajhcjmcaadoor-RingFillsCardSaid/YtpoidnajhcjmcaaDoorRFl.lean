/- A ring that is filled, or emptied, one behind the other: plain. -/
import Derived.Test.YtpoidnajhcjmcaaDoorRPl2
namespace Go.Proofs.YtpoidnajhcjmcaaDoor.R8
open Go.Proofs.YtpoidnajhcjmcaaDoor.Cell Go.Proofs.YtpoidnajhcjmcaaDoor.Ob
variable {s : St} {i o t : Nat} {fu lo : Bool}
/-- A push has made t accesses (0: none is under way), no pop is under way. -/
structure Fl (s : St) (i o t : Nat) (fu lo : Bool) : Prop where
  inv : Inv s i o fu lo
  kp : Kp s
  po : s.po = none
  pu0 : t = 0 → s.pu = none
  pu1 : 1 ≤ t → ∃ x, s.pu = some x ∧ x.k = t ∧ x.h = nth s.m 0
  le : t ≤ 2 + s.W
structure Dr (s : St) (i o t : Nat) (fu lo : Bool) : Prop where
  inv : Inv s i o fu lo
  kp : Kp s
  pu : s.pu = none
  po0 : t = 0 → s.po = none
  po1 : 1 ≤ t → ∃ y, s.po = some y ∧ y.k = t ∧ y.t = nth s.m 1
  le : t ≤ 2 + s.W
theorem Fl.dr (h : Fl s i o 0 fu lo) : Dr s i o 0 fu lo := ⟨h.inv, h.kp, h.pu0 rfl, fun _ => h.po, fun e => absurd e (by omega), Nat.zero_le _⟩
theorem Dr.fl (h : Dr s i o 0 fu lo) : Fl s i o 0 fu lo := ⟨h.inv, h.kp, h.po0 rfl, fun _ => h.pu, fun e => absurd e (by omega), Nat.zero_le _⟩
theorem fl_s0 {D W : Nat} (d1 : 1 ≤ D) (d8 : D ≤ 8) (w1 : 1 ≤ W) (w6 : W ≤ 6) (fu lo : Bool) : Fl (s0 D W) 0 0 0 fu lo :=
  ⟨inv_s0 d1 d8 w1 w6 fu lo, kp_s0 _ _, rfl, fun _ => rfl, fun e => absurd e (by omega), Nat.zero_le _⟩
theorem uDW (s : St) (i : Nat) : (uStep (u1 s i)).D = s.D ∧ (uStep (u1 s i)).W = s.W := by
  have h1 : (u1 s i).D = s.D ∧ (u1 s i).W = s.W := by unfold u1; split <;> exact ⟨rfl, rfl⟩
  have h3 : ∀ s : St, (uStep s).D = s.D ∧ (uStep s).W = s.W := fun s => by
    unfold uStep
    cases s.pu with
    | none => exact ⟨rfl, rfl⟩
    | some x => simp only; unfold uNext; split <;> (try split) <;> (try split) <;> exact ⟨rfl, rfl⟩
  exact ⟨(h3 _).1.trans h1.1, (h3 _).2.trans h1.2⟩
theorem oDW (s : St) : (oStep (oBegin s)).D = s.D ∧ (oStep (oBegin s)).W = s.W := by
  have h2 : (oBegin s).D = s.D ∧ (oBegin s).W = s.W := by unfold oBegin; split <;> exact ⟨rfl, rfl⟩
  have h4 : ∀ s : St, (oStep s).D = s.D ∧ (oStep s).W = s.W := fun s => by
    unfold oStep
    cases s.po with
    | none => exact ⟨rfl, rfl⟩
    | some x => simp only; unfold oNext; split <;> (try split) <;> (try split) <;> exact ⟨rfl, rfl⟩
  exact ⟨(h4 _).1.trans h2.1, (h4 _).2.trans h2.2⟩
/-- What a push's turn makes of the number of accesses. -/
def tU (W i D o t : Nat) : Nat := if i < o + D then (if t + 1 < W + 3 then t + 1 else 0) else (if t = 0 then 1 else 0)
def iU (W i D o t : Nat) : Nat := if i < o + D then (if t + 1 < W + 3 then i else i + 1) else i
theorem fl_turn (h : Fl s i o t fu lo) (hv : okV ((i : Int) + 1) = true) (ht : o + s.D ≤ i → t ≤ 1) : Fl (uStep (u1 s i)) (iU s.W i s.D o t) o (tU s.W i s.D o t) (fu1 s i o fu) lo ∧ i1 s i = iU s.W i s.D o t := by
  obtain ⟨a1, a2, -, -, -⟩ := inv_turn_u h.inv h.kp hv
  have ok := h.inv.ok
  have w1 := ok.w1
  have hle := h.le
  have hd := h.inv.bd
  have hlo := h.inv.le
  obtain ⟨x, hx, hk, hh, hm⟩ : ∃ x, (u1 s i).pu = some x ∧ x.k = t ∧ (1 ≤ t → x.h = nth s.m 0) ∧ (u1 s i).m = s.m := by
    unfold u1
    by_cases ht0 : t = 0
    · rw [h.pu0 ht0]
      simp only [Option.isSome_none, Bool.false_eq_true, if_false]
      exact ⟨_, rfl, ht0.symm, fun e => absurd e (by omega), trivial⟩
    · obtain ⟨x, hx, hk, hh⟩ := h.pu1 (by omega)
      rw [hx]
      simp only [Option.isSome_some, if_true]
      exact ⟨x, hx, hk, fun _ => hh, trivial⟩
  have hD : (u1 s i).D = s.D := by unfold u1; split <;> rfl
  have hW : (u1 s i).W = s.W := by unfold u1; split <;> rfl
  have hpo : (u1 s i).po = none := by unfold u1; split <;> exact h.po
  have hpo' : (uStep (u1 s i)).po = none := by
    simp only [uStep, hx]
    unfold uNext; split <;> (try split) <;> (try split) <;> exact hpo
  have hcnt : held s.D (nth s.m 0) (nth s.m 1) = (i : Int) - o := h.inv.cnt
  have hDW := uDW s i
  have key : ∀ (t' i' : Nat), i1 s i = i' → (t' = 0 → (uStep (u1 s i)).pu = none) → (1 ≤ t' → ∃ z, (uStep (u1 s i)).pu = some z ∧ z.k = t' ∧ z.h = nth (uStep (u1 s i)).m 0) → t' ≤ 2 + s.W → Fl (uStep (u1 s i)) i' o t' (fu1 s i o fu) lo ∧ i1 s i = i' := fun t' i' e1 e2 e3 e4 =>
    ⟨⟨by rw [← e1]; exact a1, a2, hpo', e2, e3, by rw [hDW.2]; exact e4⟩, e1⟩
  have es : uStep (u1 s i) = uNext (u1 s i) x := by simp [uStep, hx]
  unfold tU iU
  by_cases k0 : x.k = 0
  · have e1 : uOver (u1 s i) = false := by simp [uOver, hx, k0]; omega
    have ei : i1 s i = i := by unfold i1; rw [e1]; rfl
    have en : uStep (u1 s i) = { u1 s i with pu := some { x with k := 1, h := nth (u1 s i).m 0 } } := by rw [es, uNext, if_pos k0]
    rw [if_pos (show t + 1 < s.W + 3 by omega), if_pos (show t = 0 by omega), if_pos (show t + 1 < s.W + 3 by omega)]
    have e2 : (if i < o + s.D then t + 1 else 1) = 1 := by split <;> omega
    have e3 : (if i < o + s.D then i else i) = i := by split <;> rfl
    rw [e2, e3]
    exact key 1 i ei (fun e => absurd e (by omega)) (fun _ => ⟨_, by rw [en], rfl, by rw [en]⟩) (by omega)
  · by_cases k1 : x.k = 1
    · have hh := hh (by omega)
      by_cases hf : i < o + s.D
      · have e0 : uFull (u1 s i) x = false := by unfold uFull; rw [hD, hm, hh, hcnt]; exact decide_eq_false (by omega)
        have e1 : uOver (u1 s i) = false := by simp [uOver, hx, k1, e0]; omega
        have ei : i1 s i = i := by unfold i1; rw [e1]; rfl
        have en : uStep (u1 s i) = { u1 s i with pu := some { x with k := 2, t := nth (u1 s i).m 1 } } := by rw [es, uNext, if_neg k0, if_pos k1, e0]; rfl
        rw [if_pos hf, if_pos hf, if_pos (show t + 1 < s.W + 3 by omega), if_pos (show t + 1 < s.W + 3 by omega)]
        exact key (t + 1) i ei (fun e => absurd e (by omega)) (fun _ => ⟨_, by rw [en], by show 2 = t + 1; omega, by rw [en]; show x.h = nth (u1 s i).m 0; rw [hm]; exact hh⟩) (by omega)
      · have e0 : uFull (u1 s i) x = true := by unfold uFull; rw [hD, hm, hh, hcnt]; exact decide_eq_true (by omega)
        have e2 : uErr (u1 s i) = 2 := by simp [uErr, hx, k1, e0]
        have ei : i1 s i = i := by unfold i1; rw [e2]; simp
        have en : uStep (u1 s i) = { u1 s i with pu := none } := by rw [es, uNext, if_neg k0, if_pos k1, if_pos e0]
        rw [if_neg hf, if_neg hf, if_neg (show ¬ t = 0 by omega)]
        exact key 0 i ei (fun _ => by rw [en]) (fun e => absurd e (by omega)) (by omega)
    · have hf : i < o + s.D := by
        by_cases hf : i < o + s.D
        · exact hf
        · have := ht (by omega); omega
      have hh := hh (by omega)
      rw [if_pos hf, if_pos hf]
      by_cases k2 : x.k < 2 + s.W
      · have e1 : uOver (u1 s i) = false := by simp [uOver, hx, k1, hW]; omega
        have ei : i1 s i = i := by unfold i1; rw [e1]; rfl
        have en : uStep (u1 s i) = { u1 s i with m := (u1 s i).m.set (wd (u1 s i).D (u1 s i).W x.t (x.k - 2)) (nth x.l (x.k - 2)), pu := some { x with k := x.k + 1 } } := by rw [es, uNext, if_neg k0, if_neg k1, if_pos (show _ < _ by rw [hW]; exact k2)]
        have hwd := wd_lt (W := s.W) (i := x.k - 2) x.t ok.d1 (by omega)
        rw [if_pos (show t + 1 < s.W + 3 by omega), if_pos (show t + 1 < s.W + 3 by omega)]
        exact key (t + 1) i ei (fun e => absurd e (by omega)) (fun _ => ⟨_, by rw [en], by show x.k + 1 = t + 1; omega, by rw [en]; show x.h = nth ((u1 s i).m.set _ _) 0; rw [hD, hW, nth_set_ne _ _ (by omega), hm]; exact hh⟩) (by omega)
      · have k3 : x.k = 2 + s.W := by omega
        have e1 : uOver (u1 s i) = true := by simp [uOver, hx, hW, k3]
        have e2 : uErr (u1 s i) = 0 := by simp [uErr, hx, k1]
        have ei : i1 s i = i + 1 := by unfold i1; rw [e1, e2]; rfl
        have en : uStep (u1 s i) = { u1 s i with m := (u1 s i).m.set 1 (nx (u1 s i).D x.t), pu := none } := by rw [es, uNext, if_neg k0, if_neg k1, if_neg (show ¬ _ < _ by rw [hW]; exact k2)]
        rw [if_neg (show ¬ t + 1 < s.W + 3 by omega), if_neg (show ¬ t + 1 < s.W + 3 by omega)]
        exact key 0 (i + 1) ei (fun _ => by rw [en]) (fun e => absurd e (by omega)) (by omega)
def tO (W t : Nat) : Nat := if t + 1 < W + 3 then t + 1 else 0
def oO (W o t : Nat) : Nat := if t + 1 < W + 3 then o else o + 1
theorem dr_turn (h : Dr s i o t fu lo) (hio : o < i) : Dr (oStep (oBegin s)) i (oO s.W o t) (tO s.W t) fu (lo1 s i o lo) ∧ o1 s o = oO s.W o t := by
  obtain ⟨a1, a2, -⟩ := inv_turn_o h.inv h.kp
  have ok := h.inv.ok
  have w1 := ok.w1
  have hle := h.le
  obtain ⟨y, hy, hk, hh, hm⟩ : ∃ y, (oBegin s).po = some y ∧ y.k = t ∧ (1 ≤ t → y.t = nth s.m 1) ∧ (oBegin s).m = s.m := by
    unfold oBegin
    by_cases ht0 : t = 0
    · rw [h.po0 ht0]
      simp only [Option.isSome_none, Bool.false_eq_true, if_false]
      exact ⟨_, rfl, ht0.symm, fun e => absurd e (by omega), trivial⟩
    · obtain ⟨y, hy, hk, hh⟩ := h.po1 (by omega)
      rw [hy]
      simp only [Option.isSome_some, if_true]
      exact ⟨y, hy, hk, fun _ => hh, trivial⟩
  have hD : (oBegin s).D = s.D := by unfold oBegin; split <;> rfl
  have hW : (oBegin s).W = s.W := by unfold oBegin; split <;> rfl
  have hpu : (oBegin s).pu = none := by unfold oBegin; split <;> exact h.pu
  have hpu' : (oStep (oBegin s)).pu = none := by
    simp only [oStep, hy]
    unfold oNext; split <;> (try split) <;> (try split) <;> exact hpu
  have hcnt : held s.D (nth s.m 0) (nth s.m 1) = (i : Int) - o := h.inv.cnt
  have hDW := oDW s
  have key : ∀ (t' o' : Nat), o1 s o = o' → (t' = 0 → (oStep (oBegin s)).po = none) → (1 ≤ t' → ∃ z, (oStep (oBegin s)).po = some z ∧ z.k = t' ∧ z.t = nth (oStep (oBegin s)).m 1) → t' ≤ 2 + s.W → Dr (oStep (oBegin s)) i o' t' fu (lo1 s i o lo) ∧ o1 s o = o' := fun t' o' e1 e2 e3 e4 =>
    ⟨⟨by rw [← e1]; exact a1, a2, hpu', e2, e3, by rw [hDW.2]; exact e4⟩, e1⟩
  have es : oStep (oBegin s) = oNext (oBegin s) y := by simp [oStep, hy]
  unfold tO oO
  by_cases k0 : y.k = 0
  · have e1 : oOver (oBegin s) = false := by simp [oOver, hy, k0]; omega
    have ei : o1 s o = o := by unfold o1; rw [e1]; rfl
    have en : oStep (oBegin s) = { oBegin s with po := some { y with k := 1, t := nth (oBegin s).m 1 } } := by rw [es, oNext, if_pos k0]
    rw [if_pos (show t + 1 < s.W + 3 by omega), if_pos (show t + 1 < s.W + 3 by omega)]
    exact key (t + 1) o ei (fun e => absurd e (by omega)) (fun _ => ⟨_, by rw [en], by show 1 = t + 1; omega, by rw [en]⟩) (by omega)
  · have hh := hh (by omega)
    by_cases k1 : y.k = 1
    · have e0 : oLow (oBegin s) y = false := by unfold oLow; rw [hD, hm, hh, hcnt]; exact decide_eq_false (by omega)
      have e1 : oOver (oBegin s) = false := by simp [oOver, hy, k1, e0]; omega
      have ei : o1 s o = o := by unfold o1; rw [e1]; rfl
      have en : oStep (oBegin s) = { oBegin s with po := some { y with k := 2, h := nth (oBegin s).m 0 } } := by rw [es, oNext, if_neg k0, if_pos k1, e0]; rfl
      rw [if_pos (show t + 1 < s.W + 3 by omega), if_pos (show t + 1 < s.W + 3 by omega)]
      exact key (t + 1) o ei (fun e => absurd e (by omega)) (fun _ => ⟨_, by rw [en], by show 2 = t + 1; omega, by rw [en]; show y.t = nth (oBegin s).m 1; rw [hm]; exact hh⟩) (by omega)
    · by_cases k2 : y.k < 2 + s.W
      · have e1 : oOver (oBegin s) = false := by simp [oOver, hy, k1, hW]; omega
        have ei : o1 s o = o := by unfold o1; rw [e1]; rfl
        have en : oStep (oBegin s) = { oBegin s with po := some { y with k := y.k + 1, o := y.o ++ [nth (oBegin s).m (wd (oBegin s).D (oBegin s).W y.h (y.k - 2))] } } := by rw [es, oNext, if_neg k0, if_neg k1, if_pos (show _ < _ by rw [hW]; exact k2)]
        rw [if_pos (show t + 1 < s.W + 3 by omega), if_pos (show t + 1 < s.W + 3 by omega)]
        exact key (t + 1) o ei (fun e => absurd e (by omega)) (fun _ => ⟨_, by rw [en], by show y.k + 1 = t + 1; omega, by rw [en]; show y.t = nth (oBegin s).m 1; rw [hm]; exact hh⟩) (by omega)
      · have k3 : y.k = 2 + s.W := by omega
        have e1 : oOver (oBegin s) = true := by simp [oOver, hy, hW, k3]
        have e2 : oErr (oBegin s) = 0 := by simp [oErr, hy, k1]
        have ei : o1 s o = o + 1 := by unfold o1; rw [e1, e2]; rfl
        have en : oStep (oBegin s) = { oBegin s with m := (oBegin s).m.set 0 (nx (oBegin s).D y.h), po := none } := by rw [es, oNext, if_neg k0, if_neg k1, if_neg (show ¬ _ < _ by rw [hW]; exact k2)]
        rw [if_neg (show ¬ t + 1 < s.W + 3 by omega), if_neg (show ¬ t + 1 < s.W + 3 by omega)]
        exact key 0 (o + 1) ei (fun _ => by rw [en]) (fun e => absurd e (by omega)) (by omega)
end Go.Proofs.YtpoidnajhcjmcaaDoor.R8
