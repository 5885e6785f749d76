/- The document's register of three slots, each call against the plain state. -/
import Derived.Test.YtppmfmgmlicefabDoorVR1
import Derived.Test.YtppmfmgmlicefabDoorVR20
import Derived.Test.YtppmfmgmlicefabDoorVR21
import Derived.Test.YtppmfmgmlicefabDoorVR22
import Derived.Test.YtppmfmgmlicefabDoorVR30f
import Derived.Test.YtppmfmgmlicefabDoorVR30m
import Derived.Test.YtppmfmgmlicefabDoorVR31f
import Derived.Test.YtppmfmgmlicefabDoorVR31m
import Derived.Test.YtppmfmgmlicefabDoorVR32f
import Derived.Test.YtppmfmgmlicefabDoorVR32m
import Derived.Test.YtppmfmgmlicefabDoorVR4
import Derived.Test.YtppmfmgmlicefabDoorVR5
import Derived.Test.YtppmfmgmlicefabDoorVR6
namespace Go.Proofs.YtppmfmgmlicefabDoor.T3
open Go.RowKit Go.Proofs.YtppmfmgmlicefabDoor.G Go.Proofs.YtppmfmgmlicefabDoor.Cell
set_option maxRecDepth 100000
/-- What of the document's register the state does not say. -/
structure RP where
  A0 : Option Addr
  A1 : Option Addr
  A2 : Option Addr
  Ai : Option Addr
  Ao : Option Addr
  n0 : Nat
  n1 : Nat
  n2 : Nat
  ni : Nat
  no : Nat
  c0 : Nat
  c1 : Nat
  c2 : Nat
  ci : Nat
  co : Nat
  k : Int
  ak : Bool
  fr : Bool
/-- The document's register as it lies. -/
abbrev RP.arr (p : RP) (s : St) : Array Value := rc s.W (nth s.m 0) (.slice p.A0 p.n0 p.c0) (.slice p.A1 p.n1 p.c1) (.slice p.A2 p.n2 p.c2) s.b s.f s.wr.isSome s.rd.isSome p.k p.ak p.fr (.slice p.Ai p.ni p.ci) (.slice p.Ao p.no p.co)
structure RV (w : World) (N : Nat → Prop) (p : RP) (s : St) : Prop where
  d0 : LF w N (.slice p.A0 p.n0 p.c0) (seg s 0)
  d1 : LF w N (.slice p.A1 p.n1 p.c1) (seg s 1)
  d2 : LF w N (.slice p.A2 p.n2 p.c2) (seg s 2)
  wr : ∀ x, s.wr = some x → p.k = x.k ∧ LF w N (.slice p.Ai p.ni p.ci) x.l
  rd : ∀ y, s.rd = some y → p.ak = decide (1 ≤ y.k) ∧ p.fr = decide (y.k = 1) ∧ (y.k ≤ 2 → p.Ao = none ∧ p.no = 0 ∧ p.co = 0) ∧ (2 < y.k → LF w N (.slice p.Ao p.no p.co) (y.t.take (y.k - 2)))
variable {w w' : World} {N : Nat → Prop} {p : RP} {s : St}
theorem RV.only {G : Nat → Prop} (h : RV w N p s) (hO : Only G w w') (hn : ∀ g, N g → ¬ G g) : RV w' N p s :=
  ⟨h.d0.only hO hn, h.d1.only hO hn, h.d2.only hO hn, fun x e => ⟨(h.wr x e).1, (h.wr x e).2.only hO hn⟩, fun y e => ⟨(h.rd y e).1, (h.rd y e).2.1, (h.rd y e).2.2.1, fun h2 => ((h.rd y e).2.2.2 h2).only hO hn⟩⟩
theorem RV.bel (h : RV w N p s) (hb : Below w.heap.size w w') : RV w' N p s := h.only (G := fun _ => False) (.of_below hb) fun _ _ => id
theorem RV.mono {N' : Nat → Prop} (h : RV w N p s) (hN : ∀ g, g < w.heap.size → N g → N' g) : RV w N' p s :=
  ⟨h.d0.mono hN, h.d1.mono hN, h.d2.mono hN, fun x e => ⟨(h.wr x e).1, (h.wr x e).2.mono hN⟩, fun y e => ⟨(h.rd y e).1, (h.rd y e).2.1, (h.rd y e).2.2.1, fun h2 => ((h.rd y e).2.2.2 h2).mono hN⟩⟩
theorem LF.n {A : Option Addr} {n c : Nat} {l : List Int} (h : LF w N (.slice A n c) l) : n = l.length := by
  obtain ⟨_, _, e, _⟩ := h
  injection e
theorem seg_wr (ok : Ok s) {x : Wr} (hx : s.wr = some x) (hk : x.k < s.W) :
    nth (wNext s x).m 0 = nth s.m 0 ∧ seg (wNext s x) s.b = (seg s s.b).set x.k (nth x.l x.k) ∧ ∀ j, j ≤ 2 → j ≠ s.b → seg (wNext s x) j = seg s j := by
  have hok := ok_w ok hx
  have e : wNext s x = { s with m := s.m.set (pl s.W s.b + x.k) (nth x.l x.k), wr := some { x with k := x.k + 1 } } := by unfold wNext; rw [if_pos hk]
  have hm : (wNext s x).m = s.m.set (pl s.W s.b + x.k) (nth x.l x.k) := by rw [e]
  have hW : (wNext s x).W = s.W := by rw [e]
  have hp := pl_lt (W := s.W) ok.b hk
  have hl := ok.len
  refine ⟨by rw [hm]; exact nth_set_ne _ _ (by omega), ?_, fun j hj hne => seg_eq hW ok hok hj fun i hi => by rw [hm]; exact nth_set_ne _ _ fun e => hne (pl_inj ok.b hk hj hi e).1.symm⟩
  apply ext_nth
  · rw [seg_len hok ok.b, List.length_set, seg_len ok ok.b, hW]
  · intro i hi
    rw [seg_len hok ok.b, hW] at hi
    rw [seg_nth (by rw [hW]; exact hi), hW, hm]
    by_cases hik : x.k = i
    · subst hik
      rw [nth_set_eq _ _ (by omega), nth_set_eq _ _ (by rw [seg_len ok ok.b]; exact hk)]
    · rw [nth_set_ne _ _ (by omega), nth_set_ne _ _ hik, seg_nth hi]
theorem seg_0 (ok : Ok s) {s' : St} (ok' : Ok s') {v : Int} (hW : s'.W = s.W) (hm : s'.m = s.m.set 0 v) (j : Nat) (hj : j ≤ 2) : seg s' j = seg s j :=
  seg_eq hW ok ok' hj fun i hi => by rw [hm]; exact nth_set_ne _ _ (by have := pl_lt (W := s.W) hj hi; omega)
theorem take_set_succ (t : List Int) (i : Nat) (v : Int) (hi : i < t.length) : (t.set i v).take (i + 1) = t.take i ++ [v] := by
  rw [List.take_add_one, List.getElem?_set_self hi, List.take_set_of_le (Nat.le_refl _)]; rfl
theorem mid_tm (ok : Ok s) : (nth s.m 0).tmod 4 = (mid s : Nat) := by
  rw [Int.tmod_eq_emod_of_nonneg ok.m0, mid_cast ok]
/-- What a write's access answers. -/
def XW (w : World) (N : Nat → Prop) (s : St) (e : Ending) (w' : World) : Prop := ∃ p', e = .returned (.tuple #[.agg (RP.arr p' (wStep s)), .slice none 0 0, .bool (wDone s), .int .i64 (wErr s)]) ∧ RV w' N p' (wStep s) ∧ Below w.heap.size w w'
theorem xstep_w (h : RV w N p s) (ok : Ok s) (hN : ∀ g, w.heap.size ≤ g → N g) : Calls Tryd.prog 36 #[.agg (p.arr s), .bool true] w (XW w N s) := by
  unfold XW
  cases hx : s.wr with
  | none =>
    have e1 : wStep s = s := by simp [wStep, hx]
    have e2 : wDone s = false := by simp [wDone, hx]
    have e3 : wErr s = 2 := by simp [wErr, hx]
    rw [e1, e2, e3]
    unfold RP.arr
    rw [hx]
    exact rstepwn.mono fun e w' ⟨he, hb⟩ => ⟨p, he, h.bel hb, hb⟩
  | some x =>
    have hk := (ok.wr x hx).k
    have hlen := (ok.wr x hx).len
    obtain ⟨hpk, hli⟩ := h.wr x hx
    have e1 : wStep s = wNext s x := by simp [wStep, hx]
    have e3 : wErr s = 0 := by simp [wErr, hx]
    have hok := ok_w ok hx
    have h6 := ok.w6
    by_cases hl : x.k = s.W
    · have e2 : wDone s = true := by simp [wDone, hx, hl]
      have en : wNext s x = { s with m := s.m.set 0 ((s.b : Int) + 4), b := mid s, wr := none } := by unfold wNext; rw [if_neg (by omega)]
      have hm := ok.len
      have h0 : nth (s.m.set 0 ((s.b : Int) + 4)) 0 = (s.b : Int) + 4 := nth_set_eq _ _ (by omega)
      rw [e1, e2, e3, en]
      rw [en] at hok
      have hb2 := ok.b
      unfold RP.arr
      rw [hx]
      refine (rstepwl (by omega) (by omega) (by rw [hpk, hl]; omega)).mono fun e w' ⟨he, hb⟩ => ⟨p, ?_, ?_, hb⟩
      · rw [he, h0, mid_tm ok]; rfl
      · have hr := h.bel hb
        exact ⟨by rw [seg_0 ok hok rfl rfl 0 (by omega)]; exact hr.d0, by rw [seg_0 ok hok rfl rfl 1 (by omega)]; exact hr.d1, by rw [seg_0 ok hok rfl rfl 2 (by omega)]; exact hr.d2, fun x' e => (by cases e), fun y e => hr.rd y e⟩
    · have hlt : x.k < s.W := by omega
      have e2 : wDone s = false := by simp [wDone, hx, hl]
      obtain ⟨q0, q1, q2⟩ := seg_wr ok hx hlt
      have en : wNext s x = { s with m := s.m.set (pl s.W s.b + x.k) (nth x.l x.k), wr := some { x with k := x.k + 1 } } := by unfold wNext; rw [if_pos hlt]
      rw [e1, e2, e3]
      have ew : (wNext s x).W = s.W := by rw [en]
      have eb : (wNext s x).b = s.b := by rw [en]
      have ef : (wNext s x).f = s.f := by rw [en]
      have er : (wNext s x).rd = s.rd := by rw [en]
      have ex : (wNext s x).wr = some { x with k := x.k + 1 } := by rw [en]
      have hb2 := ok.b
      have hcase : s.b = 0 ∨ s.b = 1 ∨ s.b = 2 := by omega
      rcases hcase with hb | hb | hb
      · have hs := seg_len ok (j := 0) (by omega)
        unfold RP.arr
        rw [q0, ew, eb, ef, er, ex, hb, hx, hpk]
        refine (rstepw0 (N := N) h.d0 hli h.d0.n (by omega) hlt (by omega) (by omega)).mono ?_
        rintro e w' ⟨A, c, he, hL, hB⟩
        refine ⟨{ p with A0 := A, c0 := c, k := (x.k : Int) + 1 }, he, ?_, hB⟩
        have hr := h.bel hB
        have hn : ((seg s 0).set x.k (nth x.l x.k)).length = p.n0 := by rw [List.length_set]; exact h.d0.n.symm
        refine { d0 := ?_, d1 := ?_, d2 := ?_, wr := ?_, rd := ?_ }
        · rw [hb] at q1
          rw [q1]
          have := hL N hN
          rwa [hn] at this
        · rw [q2 1 (by omega) (by rw [hb]; decide)]; exact hr.d1
        · rw [q2 2 (by omega) (by rw [hb]; decide)]; exact hr.d2
        · intro x' e
          rw [ex] at e
          obtain rfl := Option.some.inj e
          exact ⟨by show (x.k : Int) + 1 = ((x.k + 1 : Nat) : Int); omega, (hr.wr x hx).2⟩
        · intro y e
          rw [er] at e
          exact hr.rd y e
      · have hs := seg_len ok (j := 1) (by omega)
        unfold RP.arr
        rw [q0, ew, eb, ef, er, ex, hb, hx, hpk]
        refine (rstepw1 (N := N) h.d1 hli h.d1.n (by omega) hlt (by omega) (by omega)).mono ?_
        rintro e w' ⟨A, c, he, hL, hB⟩
        refine ⟨{ p with A1 := A, c1 := c, k := (x.k : Int) + 1 }, he, ?_, hB⟩
        have hr := h.bel hB
        have hn : ((seg s 1).set x.k (nth x.l x.k)).length = p.n1 := by rw [List.length_set]; exact h.d1.n.symm
        refine { d0 := ?_, d1 := ?_, d2 := ?_, wr := ?_, rd := ?_ }
        · rw [q2 0 (by omega) (by rw [hb]; decide)]; exact hr.d0
        · rw [hb] at q1
          rw [q1]
          have := hL N hN
          rwa [hn] at this
        · rw [q2 2 (by omega) (by rw [hb]; decide)]; exact hr.d2
        · intro x' e
          rw [ex] at e
          obtain rfl := Option.some.inj e
          exact ⟨by show (x.k : Int) + 1 = ((x.k + 1 : Nat) : Int); omega, (hr.wr x hx).2⟩
        · intro y e
          rw [er] at e
          exact hr.rd y e
      · have hs := seg_len ok (j := 2) (by omega)
        unfold RP.arr
        rw [q0, ew, eb, ef, er, ex, hb, hx, hpk]
        refine (rstepw2 (N := N) h.d2 hli h.d2.n (by omega) hlt (by omega) (by omega)).mono ?_
        rintro e w' ⟨A, c, he, hL, hB⟩
        refine ⟨{ p with A2 := A, c2 := c, k := (x.k : Int) + 1 }, he, ?_, hB⟩
        have hr := h.bel hB
        have hn : ((seg s 2).set x.k (nth x.l x.k)).length = p.n2 := by rw [List.length_set]; exact h.d2.n.symm
        refine { d0 := ?_, d1 := ?_, d2 := ?_, wr := ?_, rd := ?_ }
        · rw [q2 0 (by omega) (by rw [hb]; decide)]; exact hr.d0
        · rw [q2 1 (by omega) (by rw [hb]; decide)]; exact hr.d1
        · rw [hb] at q1
          rw [q1]
          have := hL N hN
          rwa [hn] at this
        · intro x' e
          rw [ex] at e
          obtain rfl := Option.some.inj e
          exact ⟨by show (x.k : Int) + 1 = ((x.k + 1 : Nat) : Int); omega, (hr.wr x hx).2⟩
        · intro y e
          rw [er] at e
          exact hr.rd y e
/-- What a read's access answers. -/
def XR (w : World) (N : Nat → Prop) (s : St) (e : Ending) (w' : World) : Prop := ∃ p' v, e = .returned (.tuple #[.agg (RP.arr p' (rStep s)), v, .bool (rDone s), .int .i64 (rErr s)]) ∧ LF w' N v (rOut s) ∧ RV w' N p' (rStep s) ∧ Below w.heap.size w w'
set_option maxHeartbeats 1000000 in
theorem xstep_r (h : RV w N p s) (ok : Ok s) (hN : ∀ g, w.heap.size ≤ g → N g) : Calls Tryd.prog 36 #[.agg (p.arr s), .bool false] w (XR w N s) := by
  unfold XR
  cases hy : s.rd with
  | none =>
    have e1 : rStep s = s := by simp [rStep, hy]
    have e2 : rDone s = false := by simp [rDone, hy]
    have e3 : rErr s = 2 := by simp [rErr, hy]
    have e4 : rOut s = [] := by simp [rOut, hy]
    rw [e1, e2, e3, e4]
    unfold RP.arr
    rw [hy]
    exact rsteprn.mono fun e w' ⟨he, hb⟩ => ⟨p, _, he, LF.nil _ _, h.bel hb, hb⟩
  | some y =>
    have hk := (ok.rd y hy).k
    have hlen := (ok.rd y hy).len
    obtain ⟨hak, hfr, hnil, hlo⟩ := h.rd y hy
    have e1 : rStep s = rNext s y := by simp [rStep, hy]
    have e3 : rErr s = 0 := by simp [rErr, hy]
    have hok := ok_r ok hy
    have h6 := ok.w6
    have h1 := ok.w1
    have hf2 := ok.f
    rw [e1, e3]
    by_cases k0 : y.k = 0
    · have e2 : rDone s = false := by simp [rDone, hy, k0]; omega
      have e4 : rOut s = [] := by simp [rOut, hy, k0]; omega
      have en : rNext s y = { s with rd := some { y with k := if nth s.m 0 < 4 then 2 else 1 } } := by unfold rNext; rw [if_pos k0]
      rw [e2, e4, en]
      unfold RP.arr
      rw [hy, show p.ak = false by rw [hak, k0]; rfl]
      refine rstepr0.mono fun e w' ⟨he, hb⟩ => ⟨{ p with ak := true, fr := decide (4 ≤ nth s.m 0) }, _, by rw [he]; rfl, LF.nil _ _, ?_, hb⟩
      have hr := h.bel hb
      refine ⟨hr.d0, hr.d1, hr.d2, hr.wr, fun y' e => ?_⟩
      obtain rfl := Option.some.inj e
      have hq := hnil (by omega)
      show true = decide (1 ≤ (if nth s.m 0 < 4 then 2 else 1)) ∧ decide (4 ≤ nth s.m 0) = decide ((if nth s.m 0 < 4 then 2 else 1) = 1) ∧ ((if nth s.m 0 < 4 then 2 else 1) ≤ 2 → _) ∧ (2 < (if nth s.m 0 < 4 then 2 else 1) → _)
      by_cases hm : nth s.m 0 < 4
      · rw [if_pos hm]
        exact ⟨rfl, by rw [decide_eq_false (by omega)]; rfl, fun _ => hq, fun h => by omega⟩
      · rw [if_neg hm]
        exact ⟨rfl, by rw [decide_eq_true (by omega)]; rfl, fun _ => hq, fun h => by omega⟩
    by_cases k1 : y.k = 1
    · have e2 : rDone s = false := by simp [rDone, hy, k1]; omega
      have e4 : rOut s = [] := by simp [rOut, hy, k1]; omega
      have en : rNext s y = { s with m := s.m.set 0 s.f, f := mid s, rd := some { y with k := 2 } } := by unfold rNext; rw [if_neg k0, if_pos k1]
      have hm := ok.len
      have h0 : nth (s.m.set 0 (s.f : Int)) 0 = (s.f : Int) := nth_set_eq _ _ (by omega)
      rw [en] at hok
      rw [e2, e4, en]
      unfold RP.arr
      rw [hy, show p.ak = true by rw [hak, k1]; rfl, show p.fr = true by rw [hfr, k1]; rfl]
      refine rstepr1.mono fun e w' ⟨he, hb⟩ => ⟨{ p with ak := true, fr := false }, _, by rw [he, h0, mid_tm ok]; rfl, LF.nil _ _, ?_, hb⟩
      have hr := h.bel hb
      refine ⟨by rw [seg_0 ok hok rfl rfl 0 (by omega)]; exact hr.d0, by rw [seg_0 ok hok rfl rfl 1 (by omega)]; exact hr.d1, by rw [seg_0 ok hok rfl rfl 2 (by omega)]; exact hr.d2, fun x e => hr.wr x e, fun y' e => ?_⟩
      obtain rfl := Option.some.inj e
      exact ⟨rfl, rfl, fun _ => hnil (by omega), fun h => absurd h (by show ¬ 2 < 2; omega)⟩
    have ha : p.ak = true := by rw [hak]; exact decide_eq_true (by omega)
    have hb : p.fr = false := by rw [hfr]; exact decide_eq_false k1
    have hseg : ∀ i, i < s.W → nth (seg s s.f) i = nth s.m (pl s.W s.f + i) := fun i hi => seg_nth hi
    have hcase : s.f = 0 ∨ s.f = 1 ∨ s.f = 2 := by omega
    by_cases hl : y.k = 1 + s.W
    · have e2 : rDone s = true := by simp [rDone, hy, hl]
      have e4 : rOut s = rTold s y := by simp [rOut, hy, hl]
      have en : rNext s y = { s with rd := none } := by unfold rNext; rw [if_neg k0, if_neg k1, if_neg (by omega)]
      rw [e2, e4, en]
      have hT : rTold s y = y.t.take (y.k - 2) ++ [nth (seg s s.f) (y.k - 2)] := by
        rw [hseg _ (by omega), ← take_set_succ _ _ _ (by omega)]
        unfold rTold
        rw [List.take_of_length_le (by rw [List.length_set]; omega)]
      by_cases k2 : y.k = 2
      · obtain ⟨n1, n2, n3⟩ := hnil (by omega)
        have hT' : rTold s y = [nth (seg s s.f) 0] := by rw [hT, k2]; rfl
        rw [hT']
        unfold RP.arr
        rw [hy, ha, hb, n1, n2, n3]
        rcases hcase with hf | hf | hf
        · have hs := seg_len ok (j := 0) (by omega)
          rw [hf]
          refine (rstepr0fl (N := N) h.d0 h.d0.n (by omega) (by omega) (by omega)).mono ?_
          rintro e w' ⟨A, c, he, hL, hB⟩
          have hr := h.bel hB
          have hLN := hL N hN
          exact ⟨{ p with Ao := A, no := 1, co := c, ak := true, fr := false }, _, he, by simpa using hLN, ⟨hr.d0, hr.d1, hr.d2, hr.wr, fun y' e => (by cases e)⟩, hB⟩
        · have hs := seg_len ok (j := 1) (by omega)
          rw [hf]
          refine (rstepr1fl (N := N) h.d1 h.d1.n (by omega) (by omega) (by omega)).mono ?_
          rintro e w' ⟨A, c, he, hL, hB⟩
          have hr := h.bel hB
          have hLN := hL N hN
          exact ⟨{ p with Ao := A, no := 1, co := c, ak := true, fr := false }, _, he, by simpa using hLN, ⟨hr.d0, hr.d1, hr.d2, hr.wr, fun y' e => (by cases e)⟩, hB⟩
        · have hs := seg_len ok (j := 2) (by omega)
          rw [hf]
          refine (rstepr2fl (N := N) h.d2 h.d2.n (by omega) (by omega) (by omega)).mono ?_
          rintro e w' ⟨A, c, he, hL, hB⟩
          have hr := h.bel hB
          have hLN := hL N hN
          exact ⟨{ p with Ao := A, no := 1, co := c, ak := true, fr := false }, _, he, by simpa using hLN, ⟨hr.d0, hr.d1, hr.d2, hr.wr, fun y' e => (by cases e)⟩, hB⟩        
      · have hlo' := hlo (by omega)
        have hl2 : (y.t.take (y.k - 2)).length = y.k - 2 := by rw [List.length_take]; omega
        have hno := hlo'.n
        have hT' : rTold s y = y.t.take (y.k - 2) ++ [nth (seg s s.f) (y.t.take (y.k - 2)).length] := by rw [hl2]; exact hT
        rw [hT']
        generalize y.t.take (y.k - 2) = lo at *
        unfold RP.arr
        rw [hy, ha, hb, hno]
        rw [hno] at hlo'
        rcases hcase with hf | hf | hf
        · have hs := seg_len ok (j := 0) (by omega)
          rw [hf]
          refine (rstepr0ml (N := N) h.d0 hlo' (by omega) h.d0.n (by omega) (by omega) (by omega)).mono ?_
          rintro e w' ⟨A, c, he, hL, hB⟩
          have hr := h.bel hB
          have hLN := hL N hN
          exact ⟨{ p with Ao := A, no := lo.length + 1, co := c, ak := true, fr := false }, _, he, by simpa using hLN, ⟨hr.d0, hr.d1, hr.d2, hr.wr, fun y' e => (by cases e)⟩, hB⟩
        · have hs := seg_len ok (j := 1) (by omega)
          rw [hf]
          refine (rstepr1ml (N := N) h.d1 hlo' (by omega) h.d1.n (by omega) (by omega) (by omega)).mono ?_
          rintro e w' ⟨A, c, he, hL, hB⟩
          have hr := h.bel hB
          have hLN := hL N hN
          exact ⟨{ p with Ao := A, no := lo.length + 1, co := c, ak := true, fr := false }, _, he, by simpa using hLN, ⟨hr.d0, hr.d1, hr.d2, hr.wr, fun y' e => (by cases e)⟩, hB⟩
        · have hs := seg_len ok (j := 2) (by omega)
          rw [hf]
          refine (rstepr2ml (N := N) h.d2 hlo' (by omega) h.d2.n (by omega) (by omega) (by omega)).mono ?_
          rintro e w' ⟨A, c, he, hL, hB⟩
          have hr := h.bel hB
          have hLN := hL N hN
          exact ⟨{ p with Ao := A, no := lo.length + 1, co := c, ak := true, fr := false }, _, he, by simpa using hLN, ⟨hr.d0, hr.d1, hr.d2, hr.wr, fun y' e => (by cases e)⟩, hB⟩
    · have hlt : y.k < 1 + s.W := by omega
      have e2 : rDone s = false := by simp [rDone, hy, hl]
      have e4 : rOut s = [] := by simp [rOut, hy, hl]
      have en : rNext s y = { s with rd := some { y with k := y.k + 1, t := rTold s y } } := by unfold rNext; rw [if_neg k0, if_neg k1, if_pos hlt]
      rw [e2, e4, en]
      have hT : (rTold s y).take (y.k + 1 - 2) = y.t.take (y.k - 2) ++ [nth (seg s s.f) (y.k - 2)] := by
        rw [hseg _ (by omega), ← take_set_succ _ _ _ (by omega), show y.k + 1 - 2 = y.k - 2 + 1 by omega]
        rfl
      by_cases k2 : y.k = 2
      · obtain ⟨n1, n2, n3⟩ := hnil (by omega)
        have hT' : (rTold s y).take (y.k + 1 - 2) = [nth (seg s s.f) 0] := by rw [hT, k2]; rfl
        unfold RP.arr
        rw [hy, ha, hb, n1, n2, n3]
        rcases hcase with hf | hf | hf
        · have hs := seg_len ok (j := 0) (by omega)
          rw [hf]
          refine (rstepr0f (N := N) h.d0 h.d0.n (by omega) (by omega) (by omega)).mono ?_
          rintro e w' ⟨A, c, he, hL, hB⟩
          have hr := h.bel hB
          have hLN := hL N hN
          refine ⟨{ p with Ao := A, no := 1, co := c, ak := true, fr := false }, _, he, LF.nil _ _, ⟨hr.d0, hr.d1, hr.d2, hr.wr, fun y' e => ?_⟩, hB⟩
          obtain rfl := Option.some.inj e
          refine ⟨(decide_eq_true (by show 1 ≤ y.k + 1; omega)).symm, (decide_eq_false (by show ¬ y.k + 1 = 1; omega)).symm, fun h => absurd h (by show ¬ y.k + 1 ≤ 2; omega), fun _ => ?_⟩
          show LF w' N _ ((rTold s y).take (y.k + 1 - 2))
          rw [hT', hf]
          simpa using hLN
        · have hs := seg_len ok (j := 1) (by omega)
          rw [hf]
          refine (rstepr1f (N := N) h.d1 h.d1.n (by omega) (by omega) (by omega)).mono ?_
          rintro e w' ⟨A, c, he, hL, hB⟩
          have hr := h.bel hB
          have hLN := hL N hN
          refine ⟨{ p with Ao := A, no := 1, co := c, ak := true, fr := false }, _, he, LF.nil _ _, ⟨hr.d0, hr.d1, hr.d2, hr.wr, fun y' e => ?_⟩, hB⟩
          obtain rfl := Option.some.inj e
          refine ⟨(decide_eq_true (by show 1 ≤ y.k + 1; omega)).symm, (decide_eq_false (by show ¬ y.k + 1 = 1; omega)).symm, fun h => absurd h (by show ¬ y.k + 1 ≤ 2; omega), fun _ => ?_⟩
          show LF w' N _ ((rTold s y).take (y.k + 1 - 2))
          rw [hT', hf]
          simpa using hLN
        · have hs := seg_len ok (j := 2) (by omega)
          rw [hf]
          refine (rstepr2f (N := N) h.d2 h.d2.n (by omega) (by omega) (by omega)).mono ?_
          rintro e w' ⟨A, c, he, hL, hB⟩
          have hr := h.bel hB
          have hLN := hL N hN
          refine ⟨{ p with Ao := A, no := 1, co := c, ak := true, fr := false }, _, he, LF.nil _ _, ⟨hr.d0, hr.d1, hr.d2, hr.wr, fun y' e => ?_⟩, hB⟩
          obtain rfl := Option.some.inj e
          refine ⟨(decide_eq_true (by show 1 ≤ y.k + 1; omega)).symm, (decide_eq_false (by show ¬ y.k + 1 = 1; omega)).symm, fun h => absurd h (by show ¬ y.k + 1 ≤ 2; omega), fun _ => ?_⟩
          show LF w' N _ ((rTold s y).take (y.k + 1 - 2))
          rw [hT', hf]
          simpa using hLN
      · have hlo' := hlo (by omega)
        have hl2 : (y.t.take (y.k - 2)).length = y.k - 2 := by rw [List.length_take]; omega
        have hno := hlo'.n
        have hT' : (rTold s y).take (y.k + 1 - 2) = y.t.take (y.k - 2) ++ [nth (seg s s.f) (y.t.take (y.k - 2)).length] := by rw [hl2]; exact hT
        generalize y.t.take (y.k - 2) = lo at *
        unfold RP.arr
        rw [hy, ha, hb, hno]
        rw [hno] at hlo'
        rcases hcase with hf | hf | hf
        · have hs := seg_len ok (j := 0) (by omega)
          rw [hf]
          refine (rstepr0m (N := N) h.d0 hlo' (by omega) h.d0.n (by omega) (by omega) (by omega)).mono ?_
          rintro e w' ⟨A, c, he, hL, hB⟩
          have hr := h.bel hB
          have hLN := hL N hN
          refine ⟨{ p with Ao := A, no := lo.length + 1, co := c, ak := true, fr := false }, _, he, LF.nil _ _, ⟨hr.d0, hr.d1, hr.d2, hr.wr, fun y' e => ?_⟩, hB⟩
          obtain rfl := Option.some.inj e
          refine ⟨(decide_eq_true (by show 1 ≤ y.k + 1; omega)).symm, (decide_eq_false (by show ¬ y.k + 1 = 1; omega)).symm, fun h => absurd h (by show ¬ y.k + 1 ≤ 2; omega), fun _ => ?_⟩
          show LF w' N _ ((rTold s y).take (y.k + 1 - 2))
          rw [hT', hf]
          simpa using hLN
        · have hs := seg_len ok (j := 1) (by omega)
          rw [hf]
          refine (rstepr1m (N := N) h.d1 hlo' (by omega) h.d1.n (by omega) (by omega) (by omega)).mono ?_
          rintro e w' ⟨A, c, he, hL, hB⟩
          have hr := h.bel hB
          have hLN := hL N hN
          refine ⟨{ p with Ao := A, no := lo.length + 1, co := c, ak := true, fr := false }, _, he, LF.nil _ _, ⟨hr.d0, hr.d1, hr.d2, hr.wr, fun y' e => ?_⟩, hB⟩
          obtain rfl := Option.some.inj e
          refine ⟨(decide_eq_true (by show 1 ≤ y.k + 1; omega)).symm, (decide_eq_false (by show ¬ y.k + 1 = 1; omega)).symm, fun h => absurd h (by show ¬ y.k + 1 ≤ 2; omega), fun _ => ?_⟩
          show LF w' N _ ((rTold s y).take (y.k + 1 - 2))
          rw [hT', hf]
          simpa using hLN
        · have hs := seg_len ok (j := 2) (by omega)
          rw [hf]
          refine (rstepr2m (N := N) h.d2 hlo' (by omega) h.d2.n (by omega) (by omega) (by omega)).mono ?_
          rintro e w' ⟨A, c, he, hL, hB⟩
          have hr := h.bel hB
          have hLN := hL N hN
          refine ⟨{ p with Ao := A, no := lo.length + 1, co := c, ak := true, fr := false }, _, he, LF.nil _ _, ⟨hr.d0, hr.d1, hr.d2, hr.wr, fun y' e => ?_⟩, hB⟩
          obtain rfl := Option.some.inj e
          refine ⟨(decide_eq_true (by show 1 ≤ y.k + 1; omega)).symm, (decide_eq_false (by show ¬ y.k + 1 = 1; omega)).symm, fun h => absurd h (by show ¬ y.k + 1 ≤ 2; omega), fun _ => ?_⟩
          show LF w' N _ ((rTold s y).take (y.k + 1 - 2))
          rw [hT', hf]
          simpa using hLN
/-- What Write answers. -/
def XB (w : World) (N : Nat → Prop) (s : St) (n : Int) (e : Ending) (w' : World) : Prop := ∃ p', e = .returned (.tuple #[.agg (RP.arr p' s), .int .i64 n]) ∧ RV w' N p' s ∧ Below w.heap.size w w'
theorem xwrite {A : Option Addr} {c : Nat} {l : List Int} (h : RV w N p s) (ok : Ok s) (hN : ∀ g, w.heap.size ≤ g → N g) (hr : Row w A (iv' l)) : Calls Tryd.prog 31 #[.agg (p.arr s), .slice A l.length c] w (XB w N (wBegin s l) (wCode s l)) := by
  have h1 := ok.w1
  have h6 := ok.w6
  unfold XB wCode wBegin may
  by_cases hl : l.length = s.W
  · rw [decide_eq_true hl, Bool.true_and]
    unfold RP.arr
    rw [← hl]
    refine (rwrite_any (c := c) hr (by omega) (by omega)).mono ?_
    intro e w' he
    unfold rwV at he
    by_cases ha : allOk l = true
    · cases hx : s.wr with
      | none =>
        simp only [ha, hx, Option.isSome_none, Bool.not_false, Bool.and_self, if_true, Bool.false_eq_true, if_false] at he ⊢
        obtain ⟨B, d, he, hL, hB⟩ := he
        have hr := h.bel hB
        rw [hl]
        refine ⟨{ p with Ai := B, ni := l.length, ci := d, k := 0 }, by rw [he, hl]; rfl, ⟨hr.d0, hr.d1, hr.d2, fun x e => ?_, hr.rd⟩, hB⟩
        obtain rfl := Option.some.inj e
        exact ⟨rfl, hL N hN⟩
      | some x =>
        simp only [ha, hx, Option.isSome_some, Bool.not_true, Bool.and_false, Bool.false_eq_true, if_false, if_true] at he ⊢
        obtain ⟨he, hB⟩ := he
        exact ⟨p, by rw [he, hl], h.bel hB, hB⟩
    · have ha' : allOk l = false := by simpa using ha
      simp only [ha', Bool.false_and, Bool.false_eq_true, if_false] at he ⊢
      obtain ⟨he, hB⟩ := he
      exact ⟨p, by rw [he, hl], h.bel hB, hB⟩
  · rw [decide_eq_false hl]
    simp only [Bool.false_and, Bool.false_eq_true, if_false]
    exact (rwrite_len (by omega)).mono fun e w' ⟨he, hb⟩ => ⟨p, he, h.bel hb, hb⟩
theorem xread (h : RV w N p s) : Calls Tryd.prog 34 #[.agg (p.arr s)] w (XB w N (rBegin s) (rCode s)) := by
  unfold XB rBegin rCode
  cases hy : s.rd with
  | none =>
    simp only [Option.isSome_none, Bool.false_eq_true, if_false]
    unfold RP.arr
    rw [hy]
    refine rreadok.mono fun e w' ⟨he, hb⟩ => ⟨{ p with ak := false, fr := false, Ao := none, no := 0, co := 0 }, by rw [he]; rfl, ?_, hb⟩
    have hr := h.bel hb
    refine ⟨hr.d0, hr.d1, hr.d2, hr.wr, fun y e => ?_⟩
    obtain rfl := Option.some.inj e
    exact ⟨rfl, rfl, fun _ => ⟨rfl, rfl, rfl⟩, fun h => absurd h (by show ¬ 2 < 0; omega)⟩
  | some y =>
    simp only [Option.isSome_some, if_true]
    unfold RP.arr
    rw [hy]
    exact rreadb.mono fun e w' ⟨he, hb⟩ => ⟨p, he, h.bel hb, hb⟩
/-- What Drop answers. -/
def XD (w : World) (N : Nat → Prop) (s : St) (b : Bool) (e : Ending) (w' : World) : Prop := ∃ p', e = .returned (.tuple #[.agg (RP.arr p' s), .bool b]) ∧ RV w' N p' s ∧ Below w.heap.size w w'
theorem xdropw (h : RV w N p s) : Calls Tryd.prog 38 #[.agg (p.arr s), .bool true] w (XD w N { s with wr := none } s.wr.isSome) :=
  rdropw.mono fun e w' ⟨he, hb⟩ => ⟨p, he, ⟨(h.bel hb).d0, (h.bel hb).d1, (h.bel hb).d2, fun x e => (by cases e), (h.bel hb).rd⟩, hb⟩
theorem xdropr (h : RV w N p s) : Calls Tryd.prog 38 #[.agg (p.arr s), .bool false] w (XD w N { s with rd := none } s.rd.isSome) :=
  rdropr.mono fun e w' ⟨he, hb⟩ => ⟨p, he, ⟨(h.bel hb).d0, (h.bel hb).d1, (h.bel hb).d2, (h.bel hb).wr, fun x e => (by cases e)⟩, hb⟩
/-- What Cells answers. -/
def XC (w : World) (l : List Int) (e : Ending) (w' : World) : Prop := ∃ v, e = .returned v ∧ LF w' (fun g => w.heap.size ≤ g) v l ∧ Below w.heap.size w w'
theorem xcells (h : RV w N p s) (ok : Ok s) : Calls Tryd.prog 43 #[.agg (p.arr s)] w (XC w s.m) := by
  have h1 := ok.w1
  refine (rcells h.d0 h.d0.n h.d1 h.d1.n h.d2 h.d2.n (seg_len ok (by omega)) (seg_len ok (by omega)) (seg_len ok (by omega)) (by omega) ok.w6).mono ?_
  rintro e w' ⟨A, c, he, hL, hB⟩
  have hL' := hL _ fun _ h => h
  rw [seg_all ok] at he hL'
  exact ⟨_, he, hL', hB⟩
/-- What New answers. -/
def XN (w : World) (s : St) (e : Ending) (w' : World) : Prop := ∃ p', e = .returned (.agg (RP.arr p' s)) ∧ RV w' (fun g => w.heap.size ≤ g) p' s ∧ Below w.heap.size w w'
theorem seg_s0 {K : Nat} (h1 : 1 ≤ K) (h6 : K ≤ 6) {j : Nat} (hj : j ≤ 2) : seg (s0 K) j = zs K := by
  have ok := ok_s0 h1 h6
  apply ext_nth (by rw [seg_len ok hj, zs_length]; rfl)
  intro i hi
  rw [seg_len ok hj] at hi
  have hi : i < K := hi
  rw [seg_nth hi]
  have := pl_lt (W := K) hj hi
  show nth (List.replicate (1 + 3 * K) 0) (pl K j + i) = nth (List.replicate K 0) i
  rw [nth_rep _ _ _ this.2, nth_rep _ _ _ hi]
theorem xnew (n : Int) (w : World) : Calls Tryd.prog 28 #[.int .i64 n] w (XN w (s0 (fW n))) := by
  obtain ⟨h1, h6⟩ := fW_bd n
  refine (rnew_any7 n w).mono ?_
  rintro e w' ⟨A0, A1, A2, c0, c1, c2, he, hB, hL⟩
  obtain ⟨l0, l1, l2⟩ := hL _ fun _ h => h
  have ok := ok_s0 h1 h6
  have h0 : nth (s0 (fW n)).m 0 = 0 := nth_rep _ _ _ (by omega)
  refine ⟨⟨A0, A1, A2, none, none, fW n, fW n, fW n, 0, 0, c0, c1, c2, 0, 0, 0, false, false⟩, by rw [he]; unfold RP.arr; rw [h0]; rfl, ⟨?_, ?_, ?_, fun x e => (by cases e), fun y e => (by cases e)⟩, hB⟩
  · rw [seg_s0 h1 h6 (by omega)]; exact l0
  · rw [seg_s0 h1 h6 (by omega)]; exact l1
  · rw [seg_s0 h1 h6 (by omega)]; exact l2
end Go.Proofs.YtppmfmgmlicefabDoor.T3
