/- A ring as plain data: what each access does, what each call answers. No memory, no program. -/
import Derived.Test.YtpoidnajhcjmcaaDoorOb
namespace Go.Proofs.YtpoidnajhcjmcaaDoor.R8
open Go.Proofs.YtpoidnajhcjmcaaDoor.Cell Go.Proofs.YtpoidnajhcjmcaaDoor.Ob

/-- A push under way: how many accesses it made, head and tail as it read them, its words. -/
structure Pu where
  k : Nat
  h : Int
  t : Int
  l : List Int
/-- A pop under way: how many accesses it made, head and tail as it read them, the words so far. -/
structure Po where
  k : Nat
  h : Int
  t : Int
  o : List Int
structure St where
  D : Nat
  W : Nat
  m : List Int
  pu : Option Pu
  po : Option Po
def held (D : Nat) (h t : Int) : Int := if t < h then t + 2 * D - h else t - h
/-- The cell of a word of the place to which a head, or tail, leads. -/
def wd (D W : Nat) (n : Int) (i : Nat) : Nat := 2 + (n.toNat % D * W + i)
def nx (D : Nat) (n : Int) : Int := (n + 1) % (2 * D)
def uFull (s : St) (x : Pu) : Bool := decide (held s.D x.h (nth s.m 1) = s.D)
def oLow (s : St) (y : Po) : Bool := decide (held s.D (nth s.m 0) y.t = 0)
/-- The push's next access. -/
def uNext (s : St) (x : Pu) : St :=
  if x.k = 0 then { s with pu := some { x with k := 1, h := nth s.m 0 } }
  else if x.k = 1 then { s with pu := if uFull s x then none else some { x with k := 2, t := nth s.m 1 } }
  else if x.k < 2 + s.W then { s with m := s.m.set (wd s.D s.W x.t (x.k - 2)) (nth x.l (x.k - 2)), pu := some { x with k := x.k + 1 } }
  else { s with m := s.m.set 1 (nx s.D x.t), pu := none }
/-- The pop's next access. -/
def oNext (s : St) (y : Po) : St :=
  if y.k = 0 then { s with po := some { y with k := 1, t := nth s.m 1 } }
  else if y.k = 1 then { s with po := if oLow s y then none else some { y with k := 2, h := nth s.m 0 } }
  else if y.k < 2 + s.W then { s with po := some { y with k := y.k + 1, o := y.o ++ [nth s.m (wd s.D s.W y.h (y.k - 2))] } }
  else { s with m := s.m.set 0 (nx s.D y.h), po := none }
def inD (D : Nat) (n : Int) : Prop := 0 ≤ n ∧ n < 2 * D
structure OkU (s : St) (x : Pu) : Prop where
  k : x.k ≤ 2 + s.W
  len : x.l.length = s.W
  ok : ∀ i, okV (nth x.l i) = true
  h : 1 ≤ x.k → inD s.D x.h
  t : 2 ≤ x.k → inD s.D x.t
structure OkO (s : St) (y : Po) : Prop where
  k : y.k ≤ 2 + s.W
  len : y.o.length = y.k - 2
  t : 1 ≤ y.k → inD s.D y.t
  h : 2 ≤ y.k → inD s.D y.h
structure Ok (s : St) : Prop where
  d1 : 1 ≤ s.D
  d8 : s.D ≤ 8
  w1 : 1 ≤ s.W
  w6 : s.W ≤ 6
  len : s.m.length = 2 + s.D * s.W
  h : inD s.D (nth s.m 0)
  t : inD s.D (nth s.m 1)
  pu : ∀ x, s.pu = some x → OkU s x
  po : ∀ y, s.po = some y → OkO s y
theorem DW_bd {s : St} (h : Ok s) : s.D * s.W ≤ 48 := Nat.mul_le_mul h.d8 h.w6
theorem wd_lt {D W i : Nat} (n : Int) (hD : 1 ≤ D) (hi : i < W) : 2 ≤ wd D W n i ∧ wd D W n i < 2 + D * W := by
  have h1 : n.toNat % D < D := Nat.mod_lt _ hD
  have h2 : (n.toNat % D + 1) * W ≤ D * W := Nat.mul_le_mul_right W h1
  rw [Nat.succ_mul] at h2
  unfold wd; omega
theorem wd_inj {D W i i' : Nat} {n n' : Int} (hi : i < W) (hi' : i' < W) (h : wd D W n i = wd D W n' i') : n.toNat % D = n'.toNat % D ∧ i = i' := by
  unfold wd at h
  have h1 : n.toNat % D * W + i = n'.toNat % D * W + i' := by omega
  have h2 := congrArg (· / W) h1
  have h3 := congrArg (· % W) h1
  simp only [Nat.mul_comm _ W, Nat.mul_add_div (show 0 < W by omega), Nat.mul_add_mod, Nat.div_eq_of_lt hi, Nat.div_eq_of_lt hi', Nat.mod_eq_of_lt hi, Nat.mod_eq_of_lt hi', Nat.add_zero] at h2 h3
  exact ⟨h2, h3⟩
theorem nx_in {D : Nat} (hD : 1 ≤ D) (n : Int) : inD D (nx D n) := by
  unfold nx inD
  exact ⟨Int.emod_nonneg _ (by omega), Int.emod_lt_of_pos _ (by omega)⟩
theorem held_bd {D : Nat} {h t : Int} (hh : inD D h) (ht : inD D t) : 0 ≤ held D h t ∧ held D h t < 2 * D := by
  unfold held inD at *
  split <;> omega
theorem ok_pu {s : St} (h : Ok s) {o : Option Pu} (ho : ∀ x, o = some x → OkU s x) : Ok { s with pu := o } :=
  ⟨h.d1, h.d8, h.w1, h.w6, h.len, h.h, h.t, fun x e => ⟨(ho x e).k, (ho x e).len, (ho x e).ok, (ho x e).h, (ho x e).t⟩, fun y e => ⟨(h.po y e).k, (h.po y e).len, (h.po y e).t, (h.po y e).h⟩⟩
theorem ok_po {s : St} (h : Ok s) {o : Option Po} (ho : ∀ y, o = some y → OkO s y) : Ok { s with po := o } :=
  ⟨h.d1, h.d8, h.w1, h.w6, h.len, h.h, h.t, fun x e => ⟨(h.pu x e).k, (h.pu x e).len, (h.pu x e).ok, (h.pu x e).h, (h.pu x e).t⟩, fun y e => ⟨(ho y e).k, (ho y e).len, (ho y e).t, (ho y e).h⟩⟩
/-- A cell of the memory turned: head or tail is as it may be, or it is a word. -/
theorem ok_m {s : St} (h : Ok s) {i : Nat} {v : Int} (hv : i < 2 → inD s.D v) : Ok { s with m := s.m.set i v } := by
  have hl := h.len
  refine ⟨h.d1, h.d8, h.w1, h.w6, by rw [List.length_set]; exact hl, ?_, ?_, fun x e => ⟨(h.pu x e).k, (h.pu x e).len, (h.pu x e).ok, (h.pu x e).h, (h.pu x e).t⟩, fun y e => ⟨(h.po y e).k, (h.po y e).len, (h.po y e).t, (h.po y e).h⟩⟩
  · show inD s.D (nth (s.m.set i v) 0)
    by_cases hi : i = 0
    · subst hi; rw [nth_set_eq _ _ (by omega)]; exact hv (by omega)
    · rw [nth_set_ne _ _ hi]; exact h.h
  · show inD s.D (nth (s.m.set i v) 1)
    by_cases hi : i = 1
    · subst hi; rw [nth_set_eq _ _ (by omega)]; exact hv (by omega)
    · rw [nth_set_ne _ _ hi]; exact h.t
theorem ok_u {s : St} (h : Ok s) {x : Pu} (hx : s.pu = some x) : Ok (uNext s x) := by
  have hu := h.pu x hx
  unfold uNext
  split
  · rename_i k0
    refine ok_pu h fun x' e => ?_
    obtain rfl := Option.some.inj e
    exact ⟨by show 1 ≤ 2 + s.W; omega, hu.len, hu.ok, fun _ => h.h, fun e => absurd e (by show ¬ 2 ≤ 1; omega)⟩
  split
  · rename_i k0 k1
    refine ok_pu h fun x' e => ?_
    split at e
    · cases e
    · obtain rfl := Option.some.inj e
      exact ⟨by show 2 ≤ 2 + s.W; omega, hu.len, hu.ok, fun _ => hu.h (by omega), fun _ => h.t⟩
  split
  · rename_i k0 k1 k2
    have hw := wd_lt (W := s.W) (i := x.k - 2) x.t h.d1 (by omega)
    refine ok_pu (s := { s with m := s.m.set (wd s.D s.W x.t (x.k - 2)) (nth x.l (x.k - 2)) }) (ok_m h (fun e => by omega)) fun x' e => ?_
    obtain rfl := Option.some.inj e
    exact ⟨by show x.k + 1 ≤ 2 + s.W; omega, hu.len, hu.ok, fun _ => hu.h (by omega), fun _ => hu.t (by omega)⟩
  · exact ok_pu (s := { s with m := s.m.set 1 (nx s.D x.t) }) (ok_m h (fun _ => nx_in h.d1 _)) fun x' e => (by cases e)
theorem ok_o {s : St} (h : Ok s) {y : Po} (hy : s.po = some y) : Ok (oNext s y) := by
  have hu := h.po y hy
  have hl := hu.len
  unfold oNext
  split
  · rename_i k0
    refine ok_po h fun x' e => ?_
    obtain rfl := Option.some.inj e
    exact ⟨by show 1 ≤ 2 + s.W; omega, by show y.o.length = 1 - 2; omega, fun _ => h.t, fun e => absurd e (by show ¬ 2 ≤ 1; omega)⟩
  split
  · rename_i k0 k1
    refine ok_po h fun x' e => ?_
    split at e
    · cases e
    · obtain rfl := Option.some.inj e
      exact ⟨by show 2 ≤ 2 + s.W; omega, by show y.o.length = 2 - 2; omega, fun _ => hu.t (by omega), fun _ => h.h⟩
  split
  · rename_i k0 k1 k2
    refine ok_po h fun x' e => ?_
    obtain rfl := Option.some.inj e
    exact ⟨by show y.k + 1 ≤ 2 + s.W; omega, by show (y.o ++ [_]).length = y.k + 1 - 2; rw [List.length_append, List.length_singleton]; omega, fun _ => hu.t (by omega), fun _ => hu.h (by omega)⟩
  · exact ok_po (s := { s with m := s.m.set 0 (nx s.D y.h) }) (ok_m h (fun _ => nx_in h.d1 _)) fun x' e => (by cases e)
def s0 (D W : Nat) : St := ⟨D, W, List.replicate (2 + D * W) 0, none, none⟩
theorem ok_s0 {D W : Nat} (d1 : 1 ≤ D) (d8 : D ≤ 8) (w1 : 1 ≤ W) (w6 : W ≤ 6) : Ok (s0 D W) := by
  have h0 : nth (s0 D W).m 0 = 0 := nth_rep _ _ _ (by omega)
  have h1 : nth (s0 D W).m 1 = 0 := nth_rep _ _ _ (by omega)
  exact ⟨d1, d8, w1, w6, by simp [s0], by rw [h0]; exact ⟨by omega, by show (0 : Int) < 2 * (D : Int); omega⟩, by rw [h1]; exact ⟨by omega, by show (0 : Int) < 2 * (D : Int); omega⟩, fun x e => (by cases e), fun y e => (by cases e)⟩

/-! ### The calls -/
def fD (n : Int) : Nat := (min (max n 1) 8).toNat
def fW (n : Int) : Nat := (min (max n 1) 6).toNat
theorem fD_bd (n : Int) : 1 ≤ fD n ∧ fD n ≤ 8 := by unfold fD; omega
theorem fW_bd (n : Int) : 1 ≤ fW n ∧ fW n ≤ 6 := by unfold fW; omega
variable {s : St}
def uStep (s : St) : St := match s.pu with
  | none => s
  | some x => uNext s x
def uOver (s : St) : Bool := match s.pu with
  | none => false
  | some x => (decide (x.k = 1) && uFull s x) || decide (x.k = 2 + s.W)
def uErr (s : St) : Int := match s.pu with
  | none => 1
  | some x => if decide (x.k = 1) && uFull s x then 2 else 0
def oStep (s : St) : St := match s.po with
  | none => s
  | some y => oNext s y
def oOver (s : St) : Bool := match s.po with
  | none => false
  | some y => (decide (y.k = 1) && oLow s y) || decide (y.k = 2 + s.W)
def oErr (s : St) : Int := match s.po with
  | none => 1
  | some y => if decide (y.k = 1) && oLow s y then 2 else 0
/-- What the pop's next access tells. -/
def oTold (s : St) : List Int := match s.po with
  | none => []
  | some y => if y.k = 2 + s.W then y.o else []
theorem ok_uStep (h : Ok s) : Ok (uStep s) := by
  unfold uStep
  cases hx : s.pu with
  | none => exact h
  | some x => exact ok_u h hx
theorem ok_oStep (h : Ok s) : Ok (oStep s) := by
  unfold oStep
  cases hx : s.po with
  | none => exact h
  | some x => exact ok_o h hx
def may (s : St) (l : List Int) : Bool := decide (l.length = s.W) && allOk l
def uCode (s : St) (l : List Int) : Int := if may s l then (if s.pu.isSome then 1 else 0) else 3
def uBegin (s : St) (l : List Int) : St := if may s l then (if s.pu.isSome then s else { s with pu := some ⟨0, 0, 0, l⟩ }) else s
def oCode (s : St) : Int := if s.po.isSome then 1 else 0
def oBegin (s : St) : St := if s.po.isSome then s else { s with po := some ⟨0, 0, 0, []⟩ }
theorem ok_push {l : List Int} (h : Ok s) (hl : l.length = s.W) (hv : ∀ i, okV (nth l i) = true) : Ok { s with pu := some ⟨0, 0, 0, l⟩ } := ok_pu h fun x e => by
  obtain rfl := Option.some.inj e
  exact ⟨Nat.zero_le _, hl, hv, fun e => absurd e (by show ¬ 1 ≤ 0; omega), fun e => absurd e (by show ¬ 2 ≤ 0; omega)⟩
theorem ok_pop (h : Ok s) : Ok { s with po := some ⟨0, 0, 0, []⟩ } := ok_po h fun x e => by
  obtain rfl := Option.some.inj e
  exact ⟨Nat.zero_le _, rfl, fun e => absurd e (by show ¬ 1 ≤ 0; omega), fun e => absurd e (by show ¬ 2 ≤ 0; omega)⟩
theorem ok_uBegin {l : List Int} (h : Ok s) : Ok (uBegin s l) := by
  unfold uBegin
  by_cases hm : may s l = true
  · rw [if_pos hm]
    unfold may at hm
    simp only [Bool.and_eq_true, decide_eq_true_eq] at hm
    split
    · exact h
    · exact ok_push h hm.1 (allOk_nth hm.2)
  · rw [if_neg hm]; exact h
theorem ok_oBegin (h : Ok s) : Ok (oBegin s) := by
  unfold oBegin
  split
  · exact h
  · exact ok_pop h
def uDrop (s : St) : St := { s with pu := none }
def oDrop (s : St) : St := { s with po := none }
theorem ok_uDrop (h : Ok s) : Ok (uDrop s) := ok_pu h fun x e => (by cases e)
theorem ok_oDrop (h : Ok s) : Ok (oDrop s) := ok_po h fun x e => (by cases e)
def cnt (s : St) : Int := held s.D (nth s.m 0) (nth s.m 1)
end Go.Proofs.YtpoidnajhcjmcaaDoor.R8
