/- A ring through which 1, 2, .. go, as plain data: what a turn of each side does, and that all are popped, once, whole and in their row. No memory, no program. -/
import Derived.Test.YtpoidnajhcjmcaaDoorR0
namespace Go.Proofs.YtpoidnajhcjmcaaDoor.R8
open Go.Proofs.YtpoidnajhcjmcaaDoor.Cell Go.Proofs.YtpoidnajhcjmcaaDoor.Ob
variable {s : St} {i o : Nat} {fu lo : Bool}

/-! ### Numbers -/
theorem held_mod {D i o : Nat} (hD : 1 ≤ D) (hD8 : D ≤ 8) (h1 : o ≤ i) (h2 : i ≤ o + D) : held D ((o % (2 * D) : Nat) : Int) ((i % (2 * D) : Nat) : Int) = (i : Int) - o := by
  unfold held
  have hc : D = 1 ∨ D = 2 ∨ D = 3 ∨ D = 4 ∨ D = 5 ∨ D = 6 ∨ D = 7 ∨ D = 8 := by omega
  rcases hc with rfl | rfl | rfl | rfl | rfl | rfl | rfl | rfl <;> (simp only [Nat.reduceMul]; split <;> omega)
theorem nx_mod {D i : Nat} : nx D ((i % (2 * D) : Nat) : Int) = (((i + 1) % (2 * D) : Nat) : Int) := by
  unfold nx
  rw [show (2 * (D : Int)) = ((2 * D : Nat) : Int) by push_cast; rfl, show ((i % (2 * D) : Nat) : Int) + 1 = ((i % (2 * D) + 1 : Nat) : Int) by push_cast; rfl, ← Int.natCast_emod]
  congr 1
  exact Nat.mod_add_mod i (2 * D) 1
theorem slot_mod {D i : Nat} : ((i % (2 * D) : Nat) : Int).toNat % D = i % D := by
  rw [Int.toNat_natCast]; exact Nat.mod_mul_left_mod i 2 D
theorem mod_ne {D i j : Nat} (hD8 : D ≤ 8) (h1 : j < i) (h2 : i < j + D) : i % D ≠ j % D := by
  have hc : D = 0 ∨ D = 1 ∨ D = 2 ∨ D = 3 ∨ D = 4 ∨ D = 5 ∨ D = 6 ∨ D = 7 ∨ D = 8 := by omega
  rcases hc with rfl | rfl | rfl | rfl | rfl | rfl | rfl | rfl | rfl <;> omega
/-- The cell of the word q of the message j. -/
def sl (D W j q : Nat) : Nat := 2 + (j % D * W + q)
theorem wd_mod {D W i q : Nat} : wd D W ((i % (2 * D) : Nat) : Int) q = sl D W i q := by unfold wd sl; rw [slot_mod]
theorem sl_lt {D W j q : Nat} (hD : 1 ≤ D) (hq : q < W) : 2 ≤ sl D W j q ∧ sl D W j q < 2 + D * W := by
  have := wd_lt (W := W) (i := q) ((j % (2 * D) : Nat) : Int) hD hq
  rwa [wd_mod] at this
theorem sl_inj {D W j q j' q' : Nat} (hq : q < W) (hq' : q' < W) (h : sl D W j q = sl D W j' q') : j % D = j' % D ∧ q = q' := by
  have := wd_inj (D := D) (n := ((j % (2 * D) : Nat) : Int)) (n' := ((j' % (2 * D) : Nat) : Int)) hq hq' (by rw [wd_mod, wd_mod]; exact h)
  rwa [slot_mod, slot_mod] at this

/-! ### A turn -/
def u1 (s : St) (i : Nat) : St := if s.pu.isSome then s else { s with pu := some ⟨0, 0, 0, List.replicate s.W ((i : Int) + 1)⟩ }
def fu1 (s : St) (i o : Nat) (fu : Bool) : Bool := if s.pu.isSome then fu else decide (i = o + s.D)
def i1 (s : St) (i : Nat) : Nat := if uOver (u1 s i) && decide (uErr (u1 s i) = 0) then i + 1 else i
def ufine (s : St) (i o : Nat) (fu : Bool) : Bool := decide (uErr (u1 s i) = 0) || (uOver (u1 s i) && decide (uErr (u1 s i) = 2) && fu1 s i o fu)
def lo1 (s : St) (i o : Nat) (lo : Bool) : Bool := if s.po.isSome then lo else decide (i = o)
def o1 (s : St) (o : Nat) : Nat := if oOver (oBegin s) && decide (oErr (oBegin s) = 0) then o + 1 else o
def ofine (s : St) (i o : Nat) (lo : Bool) : Bool := decide (oErr (oBegin s) = 0) || (oOver (oBegin s) && decide (oErr (oBegin s) = 2) && lo1 s i o lo)
structure IU (s : St) (i o : Nat) (fu : Bool) (x : Pu) : Prop where
  l : x.l = List.replicate s.W ((i : Int) + 1)
  h : 1 ≤ x.k → ∃ o', x.h = ((o' % (2 * s.D) : Nat) : Int) ∧ o' ≤ o ∧ i ≤ o' + s.D ∧ (fu = decide (i = o' + s.D)) ∧ (2 ≤ x.k → i < o' + s.D)
  t : 2 ≤ x.k → x.t = ((i % (2 * s.D) : Nat) : Int) ∧ ∀ q, q < x.k - 2 → q < s.W → nth s.m (sl s.D s.W i q) = (i : Int) + 1
structure IO (s : St) (i o : Nat) (lo : Bool) (y : Po) : Prop where
  t : 1 ≤ y.k → ∃ i', y.t = ((i' % (2 * s.D) : Nat) : Int) ∧ o ≤ i' ∧ i' ≤ i ∧ i' ≤ o + s.D ∧ (lo = decide (i' = o)) ∧ (2 ≤ y.k → o < i')
  h : 2 ≤ y.k → y.h = ((o % (2 * s.D) : Nat) : Int) ∧ y.o = List.replicate (y.k - 2) ((o : Int) + 1)
structure Inv (s : St) (i o : Nat) (fu lo : Bool) : Prop where
  ok : Ok s
  h : nth s.m 0 = ((o % (2 * s.D) : Nat) : Int)
  t : nth s.m 1 = ((i % (2 * s.D) : Nat) : Int)
  le : o ≤ i
  bd : i ≤ o + s.D
  dat : ∀ j, o ≤ j → j < i → ∀ q, q < s.W → nth s.m (sl s.D s.W j q) = (j : Int) + 1
  pu : ∀ x, s.pu = some x → IU s i o fu x
  po : ∀ y, s.po = some y → IO s i o lo y
theorem Inv.cnt (h : Inv s i o fu lo) : cnt s = (i : Int) - o := by
  unfold R8.cnt; rw [h.h, h.t]; exact held_mod h.ok.d1 h.ok.d8 h.le h.bd
theorem inv_s0 {D W : Nat} (d1 : 1 ≤ D) (d8 : D ≤ 8) (w1 : 1 ≤ W) (w6 : W ≤ 6) (fu lo : Bool) : Inv (s0 D W) 0 0 fu lo :=
  ⟨ok_s0 d1 d8 w1 w6, by rw [Nat.zero_mod]; exact nth_rep _ _ _ (by omega), by rw [Nat.zero_mod]; exact nth_rep _ _ _ (by omega), Nat.le_refl _, Nat.zero_le _, fun j _ hj => absurd hj (by omega), fun x e => (by cases e), fun y e => (by cases e)⟩
theorem inv_udrop (h : Inv s i o fu lo) (fu' : Bool) : Inv (uDrop s) i o fu' lo :=
  ⟨ok_uDrop h.ok, h.h, h.t, h.le, h.bd, h.dat, fun x e => (by cases e), fun y e => ⟨(h.po y e).t, (h.po y e).h⟩⟩
theorem inv_odrop (h : Inv s i o fu lo) (lo' : Bool) : Inv (oDrop s) i o fu lo' :=
  ⟨ok_oDrop h.ok, h.h, h.t, h.le, h.bd, h.dat, fun x e => ⟨(h.pu x e).l, (h.pu x e).h, (h.pu x e).t⟩, fun y e => (by cases e)⟩
theorem inv_pu (h : Inv s i o fu lo) {p : Option Pu} {fu' : Bool} (hp : ∀ x, p = some x → OkU s x ∧ IU s i o fu' x) : Inv { s with pu := p } i o fu' lo :=
  ⟨ok_pu h.ok (fun x e => (hp x e).1), h.h, h.t, h.le, h.bd, h.dat, fun x e => ⟨(hp x e).2.l, (hp x e).2.h, (hp x e).2.t⟩, fun y e => ⟨(h.po y e).t, (h.po y e).h⟩⟩
theorem inv_po (h : Inv s i o fu lo) {p : Option Po} {lo' : Bool} (hp : ∀ y, p = some y → OkO s y ∧ IO s i o lo' y) : Inv { s with po := p } i o fu lo' :=
  ⟨ok_po h.ok (fun y e => (hp y e).1), h.h, h.t, h.le, h.bd, h.dat, fun x e => ⟨(h.pu x e).l, (h.pu x e).h, (h.pu x e).t⟩, fun y e => ⟨(hp y e).2.t, (hp y e).2.h⟩⟩
theorem inv_u1 (h : Inv s i o fu lo) (hv : okV ((i : Int) + 1) = true) : Inv (u1 s i) i o (fu1 s i o fu) lo ∧ (∃ x, (u1 s i).pu = some x) ∧ (u1 s i).D = s.D ∧ (u1 s i).W = s.W := by
  unfold u1 fu1
  cases hx : s.pu with
  | some x => simp only [Option.isSome_some, if_true]; exact ⟨h, ⟨x, hx⟩, trivial, trivial⟩
  | none =>
    simp only [Option.isSome_none, Bool.false_eq_true, if_false]
    refine ⟨inv_pu h fun x e => ?_, ⟨_, rfl⟩, trivial, trivial⟩
    obtain rfl := Option.some.inj e
    refine ⟨⟨Nat.zero_le _, by simp, fun q => ?_, fun e => absurd e (by show ¬ 1 ≤ 0; omega), fun e => absurd e (by show ¬ 2 ≤ 0; omega)⟩, ⟨rfl, fun e => absurd e (by show ¬ 1 ≤ 0; omega), fun e => absurd e (by show ¬ 2 ≤ 0; omega)⟩⟩
    by_cases hq : q < s.W
    · show okV (nth (List.replicate s.W _) q) = true; rw [nth_rep _ _ _ hq]; exact hv
    · show okV (nth (List.replicate s.W _) q) = true; rw [nth_oob _ _ (by simp; omega)]; rfl
theorem inv_o1 (h : Inv s i o fu lo) : Inv (oBegin s) i o fu (lo1 s i o lo) ∧ (∃ y, (oBegin s).po = some y) ∧ (oBegin s).D = s.D ∧ (oBegin s).W = s.W := by
  unfold oBegin lo1
  cases hx : s.po with
  | some x => simp only [Option.isSome_some, if_true]; exact ⟨h, ⟨x, hx⟩, trivial, trivial⟩
  | none =>
    simp only [Option.isSome_none, Bool.false_eq_true, if_false]
    refine ⟨inv_po h fun x e => ?_, ⟨_, rfl⟩, trivial, trivial⟩
    obtain rfl := Option.some.inj e
    exact ⟨⟨Nat.zero_le _, rfl, fun e => absurd e (by show ¬ 1 ≤ 0; omega), fun e => absurd e (by show ¬ 2 ≤ 0; omega)⟩, ⟨fun e => absurd e (by show ¬ 1 ≤ 0; omega), fun e => absurd e (by show ¬ 2 ≤ 0; omega)⟩⟩
/-- The push's next access. -/
theorem inv_ustep (h : Inv s i o fu lo) {x : Pu} (hx : s.pu = some x) (h0 : x.k = 0 → fu = decide (i = o + s.D)) : Inv (uStep s) (if uOver s && decide (uErr s = 0) then i + 1 else i) o fu lo ∧ (uErr s = 0 ∨ (uOver s = true ∧ uErr s = 2 ∧ fu = true)) := by
  have ok := h.ok
  have hu := ok.pu x hx
  have hk := hu.k
  have iu := h.pu x hx
  have es : uStep s = uNext s x := by simp [uStep, hx]
  have w1 := ok.w1
  have hd8 := ok.d8
  have hlen := ok.len
  by_cases k0 : x.k = 0
  · have e1 : uOver s = false := by simp [uOver, hx, k0]; omega
    have e2 : uErr s = 0 := by simp [uErr, hx, k0]
    rw [es, e1, e2, uNext, if_pos k0]
    refine ⟨inv_pu h fun z e => ?_, .inl rfl⟩
    obtain rfl := Option.some.inj e
    exact ⟨⟨by show 1 ≤ 2 + s.W; omega, hu.len, hu.ok, fun _ => ok.h, fun e => absurd e (by show ¬ 2 ≤ 1; omega)⟩, ⟨iu.l, fun _ => ⟨o, h.h, Nat.le_refl _, h.bd, h0 k0, fun e => absurd e (by show ¬ 2 ≤ 1; omega)⟩, fun e => absurd e (by show ¬ 2 ≤ 1; omega)⟩⟩
  · obtain ⟨o', ho, hoo, hio, hfu, hlt⟩ := iu.h (by omega)
    by_cases k1 : x.k = 1
    · have hh : held s.D x.h (nth s.m 1) = (i : Int) - o' := by rw [ho, h.t]; exact held_mod ok.d1 ok.d8 (Nat.le_trans hoo h.le) hio
      by_cases hf : i = o' + s.D
      · have e0 : uFull s x = true := by unfold uFull; rw [hh]; exact decide_eq_true (by omega)
        have e1 : uOver s = true := by simp [uOver, hx, k1, e0]
        have e2 : uErr s = 2 := by simp [uErr, hx, k1, e0]
        rw [es, e1, e2, uNext, if_neg k0, if_pos k1, if_pos e0]
        exact ⟨inv_udrop h fu, .inr ⟨rfl, rfl, by rw [hfu]; exact decide_eq_true hf⟩⟩
      · have e0 : uFull s x = false := by unfold uFull; rw [hh]; exact decide_eq_false (by omega)
        have e1 : uOver s = false := by simp [uOver, hx, k1, e0]; omega
        have e2 : uErr s = 0 := by simp [uErr, hx, e0]
        rw [es, e1, e2, uNext, if_neg k0, if_pos k1, e0]
        refine ⟨inv_pu (p := some { x with k := 2, t := nth s.m 1 }) h fun z e => ?_, .inl rfl⟩
        obtain rfl := Option.some.inj e
        exact ⟨⟨by show 2 ≤ 2 + s.W; omega, hu.len, hu.ok, fun _ => hu.h (by omega), fun _ => ok.t⟩, ⟨iu.l, fun _ => ⟨o', ho, hoo, hio, hfu, fun _ => by omega⟩, fun _ => ⟨h.t, fun q hq => absurd hq (by show ¬ q < 2 - 2; omega)⟩⟩⟩
    · have hlt := hlt (by omega)
      obtain ⟨ht, hdone⟩ := iu.t (by omega)
      by_cases k2 : x.k < 2 + s.W
      · have e1 : uOver s = false := by simp [uOver, hx, k1]; omega
        have e2 : uErr s = 0 := by simp [uErr, hx, k1]
        have hsl := sl_lt (D := s.D) (W := s.W) (j := i) (q := x.k - 2) ok.d1 (by omega)
        have hv : nth x.l (x.k - 2) = (i : Int) + 1 := by rw [iu.l]; exact nth_rep _ _ _ (by omega)
        have hoth : ∀ j q, q < s.W → j % s.D ≠ i % s.D → nth (s.m.set (sl s.D s.W i (x.k - 2)) ((i : Int) + 1)) (sl s.D s.W j q) = nth s.m (sl s.D s.W j q) := fun j q hq hne => nth_set_ne _ _ fun e => hne (sl_inj (by omega) hq e).1.symm
        have hokx := ok_u ok hx
        rw [es, e1, e2]
        rw [show (if (false && decide ((0 : Int) = 0)) = true then i + 1 else i) = i from rfl]
        rw [uNext, if_neg k0, if_neg k1, if_pos k2, ht, wd_mod, hv] at hokx ⊢
        refine ⟨⟨hokx, ?_, ?_, h.le, h.bd, fun j hj hji q hq => ?_, fun z e => ?_, fun y e => ⟨(h.po y e).t, (h.po y e).h⟩⟩, .inl rfl⟩
        · show nth (s.m.set _ _) 0 = _; rw [nth_set_ne _ _ (by omega)]; exact h.h
        · show nth (s.m.set _ _) 1 = _; rw [nth_set_ne _ _ (by omega)]; exact h.t
        · show nth (s.m.set _ _) (sl s.D s.W j q) = _
          rw [hoth j q hq (Ne.symm (mod_ne hd8 hji (by omega)))]
          exact h.dat j hj hji q hq
        · obtain rfl := Option.some.inj e
          refine ⟨iu.l, fun _ => ⟨o', ho, hoo, hio, hfu, fun _ => hlt⟩, fun _ => ⟨rfl, fun q hq hqW => ?_⟩⟩
          have hq : q < x.k + 1 - 2 := hq
          have hqW : q < s.W := hqW
          show nth (s.m.set _ _) (sl s.D s.W i q) = _
          by_cases hqk : q = x.k - 2
          · rw [hqk, nth_set_eq _ _ (by omega)]
          · rw [nth_set_ne _ _ (fun e => hqk (sl_inj (by omega) hqW e).2.symm)]
            exact hdone q (by omega) hqW
      · have k3 : x.k = 2 + s.W := by omega
        have e1 : uOver s = true := by simp [uOver, hx, k3]
        have e2 : uErr s = 0 := by simp [uErr, hx, k1]
        have hokx := ok_u ok hx
        rw [es, e1, e2]
        rw [show (if (true && decide ((0 : Int) = 0)) = true then i + 1 else i) = i + 1 from rfl]
        rw [uNext, if_neg k0, if_neg k1, if_neg k2, ht, nx_mod] at hokx ⊢
        refine ⟨⟨hokx, ?_, ?_, by show o ≤ i + 1; have := h.le; omega, by show i + 1 ≤ o + s.D; omega, fun j hj hji q hq => ?_, fun z e => (by cases e), fun y e => ?_⟩, .inl rfl⟩
        · show nth (s.m.set _ _) 0 = _; rw [nth_set_ne _ _ (by omega)]; exact h.h
        · show nth (s.m.set _ _) 1 = _; rw [nth_set_eq _ _ (by omega)]
        · have hs2 := sl_lt (D := s.D) (W := s.W) (j := j) (q := q) ok.d1 hq
          show nth (s.m.set _ _) (sl s.D s.W j q) = _
          rw [nth_set_ne _ _ (by omega)]
          have hji : j < i + 1 := hji
          by_cases hjq : j = i
          · subst hjq; exact hdone q (by show q < x.k - 2; have : q < s.W := hq; omega) hq
          · exact h.dat j hj (by omega) q hq
        · obtain ⟨a1, a3⟩ := h.po y e
          refine ⟨fun hk1 => ?_, a3⟩
          obtain ⟨i', b1, b2, b3, b4⟩ := a1 hk1
          exact ⟨i', b1, b2, by show i' ≤ i + 1; omega, b4⟩
/-- The pop's next access. -/
theorem inv_ostep (h : Inv s i o fu lo) {y : Po} (hy : s.po = some y) (h0 : y.k = 0 → lo = decide (i = o)) : Inv (oStep s) i (if oOver s && decide (oErr s = 0) then o + 1 else o) fu lo ∧ (oErr s = 0 ∨ (oOver s = true ∧ oErr s = 2 ∧ lo = true)) ∧ ((oOver s && decide (oErr s = 0)) = true → oTold s = List.replicate s.W ((o : Int) + 1)) := by
  have ok := h.ok
  have hu := ok.po y hy
  have hk := hu.k
  have io := h.po y hy
  have es : oStep s = oNext s y := by simp [oStep, hy]
  have w1 := ok.w1
  have hd8 := ok.d8
  have hlen := ok.len
  by_cases k0 : y.k = 0
  · have e1 : oOver s = false := by simp [oOver, hy, k0]; omega
    have e2 : oErr s = 0 := by simp [oErr, hy, k0]
    rw [es, e1, e2, oNext, if_pos k0]
    refine ⟨inv_po h fun z e => ?_, .inl rfl, fun e => (by cases e)⟩
    obtain rfl := Option.some.inj e
    have hl0 := hu.len
    exact ⟨⟨by show 1 ≤ 2 + s.W; omega, by show y.o.length = 1 - 2; omega, fun _ => ok.t, fun e => absurd e (by show ¬ 2 ≤ 1; omega)⟩, ⟨fun _ => ⟨i, h.t, h.le, Nat.le_refl _, h.bd, h0 k0, fun e => absurd e (by show ¬ 2 ≤ 1; omega)⟩, fun e => absurd e (by show ¬ 2 ≤ 1; omega)⟩⟩
  · obtain ⟨i', ht, hoi, hii, hio, hlo, hlt⟩ := io.t (by omega)
    by_cases k1 : y.k = 1
    · have hh : held s.D (nth s.m 0) y.t = (i' : Int) - o := by rw [ht, h.h]; exact held_mod ok.d1 ok.d8 hoi hio
      have hl0 := hu.len
      by_cases hf : i' = o
      · have e0 : oLow s y = true := by unfold oLow; rw [hh]; exact decide_eq_true (by omega)
        have e1 : oOver s = true := by simp [oOver, hy, k1, e0]
        have e2 : oErr s = 2 := by simp [oErr, hy, k1, e0]
        rw [es, e1, e2, oNext, if_neg k0, if_pos k1, if_pos e0]
        exact ⟨inv_odrop h lo, .inr ⟨rfl, rfl, by rw [hlo]; exact decide_eq_true hf⟩, fun e => (by cases e)⟩
      · have e0 : oLow s y = false := by unfold oLow; rw [hh]; exact decide_eq_false (by omega)
        have e1 : oOver s = false := by simp [oOver, hy, k1, e0]; omega
        have e2 : oErr s = 0 := by simp [oErr, hy, e0]
        rw [es, e1, e2, oNext, if_neg k0, if_pos k1, e0]
        refine ⟨inv_po (p := some { y with k := 2, h := nth s.m 0 }) h fun z e => ?_, .inl rfl, fun e => (by cases e)⟩
        obtain rfl := Option.some.inj e
        have hnil : y.o = [] := List.eq_nil_of_length_eq_zero (by omega)
        exact ⟨⟨by show 2 ≤ 2 + s.W; omega, by show y.o.length = 2 - 2; omega, fun _ => hu.t (by omega), fun _ => ok.h⟩, ⟨fun _ => ⟨i', ht, hoi, hii, hio, hlo, fun _ => by omega⟩, fun _ => ⟨h.h, hnil⟩⟩⟩
    · have hlt := hlt (by omega)
      obtain ⟨hh, hdone⟩ := io.h (by omega)
      by_cases k2 : y.k < 2 + s.W
      · have e1 : oOver s = false := by simp [oOver, hy, k1]; omega
        have e2 : oErr s = 0 := by simp [oErr, hy, k1]
        have hokx := ok_o ok hy
        have hd := h.dat o (Nat.le_refl _) (by omega) (y.k - 2) (by omega)
        rw [es, e1, e2]
        rw [show (if (false && decide ((0 : Int) = 0)) = true then o + 1 else o) = o from rfl]
        rw [oNext, if_neg k0, if_neg k1, if_pos k2, hh, wd_mod, hd] at hokx ⊢
        refine ⟨⟨hokx, h.h, h.t, h.le, h.bd, h.dat, fun x e => ⟨(h.pu x e).l, (h.pu x e).h, (h.pu x e).t⟩, fun z e => ?_⟩, .inl rfl, fun e => (by cases e)⟩
        obtain rfl := Option.some.inj e
        refine ⟨fun _ => ⟨i', ht, hoi, hii, hio, hlo, fun _ => hlt⟩, fun _ => ⟨rfl, ?_⟩⟩
        show y.o ++ [(o : Int) + 1] = List.replicate (y.k + 1 - 2) ((o : Int) + 1)
        rw [hdone, show y.k + 1 - 2 = y.k - 2 + 1 by omega, List.replicate_succ']
      · have k3 : y.k = 2 + s.W := by omega
        have e1 : oOver s = true := by simp [oOver, hy, k3]
        have e2 : oErr s = 0 := by simp [oErr, hy, k1]
        have e3 : oTold s = y.o := by simp [oTold, hy, k3]
        have hokx := ok_o ok hy
        rw [es, e1, e2, e3]
        rw [show (if (true && decide ((0 : Int) = 0)) = true then o + 1 else o) = o + 1 from rfl]
        rw [oNext, if_neg k0, if_neg k1, if_neg k2, hh, nx_mod] at hokx ⊢
        refine ⟨⟨hokx, ?_, ?_, by show o + 1 ≤ i; omega, by show i ≤ o + 1 + s.D; have := h.bd; omega, fun j hj hji q hq => ?_, fun x e => ?_, fun z e => (by cases e)⟩, .inl rfl, fun _ => ?_⟩
        · show nth (s.m.set _ _) 0 = _; rw [nth_set_eq _ _ (by omega)]
        · show nth (s.m.set _ _) 1 = _; rw [nth_set_ne _ _ (by omega)]; exact h.t
        · have hs2 := sl_lt (D := s.D) (W := s.W) (j := j) (q := q) ok.d1 hq
          show nth (s.m.set _ _) (sl s.D s.W j q) = _
          rw [nth_set_ne _ _ (by omega)]
          exact h.dat j (by have : o + 1 ≤ j := hj; omega) hji q hq
        · obtain ⟨a1, a2, a3⟩ := h.pu x e
          refine ⟨a1, fun hk1 => ?_, fun hk2 => ⟨(a3 hk2).1, fun q hq hqW => ?_⟩⟩
          · obtain ⟨o', b1, b2, b3⟩ := a2 hk1
            exact ⟨o', b1, by show o' ≤ o + 1; omega, b3⟩
          · have hqW : q < s.W := hqW
            have hs2 := sl_lt (D := s.D) (W := s.W) (j := i) (q := q) ok.d1 hqW
            show nth (s.m.set _ _) (sl s.D s.W i q) = _
            rw [nth_set_ne _ _ (by omega)]
            exact (a3 hk2).2 q hq hqW
        · rw [hdone, k3, show 2 + s.W - 2 = s.W by omega]
end Go.Proofs.YtpoidnajhcjmcaaDoor.R8
