/- A register of three slots as plain data: what each access does, and why a read tells one whole message, none too old. No memory, no program. -/
import Derived.Test.YtppmfmgmlicefabDoorF0
namespace Go.Proofs.YtppmfmgmlicefabDoor.T3
open Go.Proofs.YtppmfmgmlicefabDoor.Cell

/-- A write under way: how many accesses it made, its words. -/
structure Wr where
  k : Nat
  l : List Int
/-- A read under way: which access is next (0: the middle is read; 1: the swap; 2 and on: the words), its words. -/
structure Rr where
  k : Nat
  t : List Int
structure St where
  W : Nat
  m : List Int
  b : Nat
  f : Nat
  wr : Option Wr
  rd : Option Rr
def pl (W j : Nat) : Nat := 1 + j * W
def mid (s : St) : Nat := (nth s.m 0 % 4).toNat
/-- The writer's next access. -/
def wNext (s : St) (x : Wr) : St :=
  if x.k < s.W then { s with m := s.m.set (pl s.W s.b + x.k) (nth x.l x.k), wr := some { x with k := x.k + 1 } }
  else { s with m := s.m.set 0 ((s.b : Int) + 4), b := mid s, wr := none }
/-- The reader's words behind its next access. -/
def rTold (s : St) (y : Rr) : List Int := y.t.set (y.k - 2) (nth s.m (pl s.W s.f + (y.k - 2)))
/-- The reader's next access. -/
def rNext (s : St) (y : Rr) : St :=
  if y.k = 0 then { s with rd := some { y with k := if nth s.m 0 < 4 then 2 else 1 } }
  else if y.k = 1 then { s with m := s.m.set 0 s.f, f := mid s, rd := some { y with k := 2 } }
  else if y.k < 1 + s.W then { s with rd := some { y with k := y.k + 1, t := rTold s y } }
  else { s with rd := none }
structure OkW (s : St) (x : Wr) : Prop where
  k : x.k ≤ s.W
  len : x.l.length = s.W
  ok : ∀ i, okV (nth x.l i) = true
structure OkR (s : St) (y : Rr) : Prop where
  k : y.k ≤ 1 + s.W
  len : y.t.length = s.W
  fresh : y.k = 1 → 4 ≤ nth s.m 0
structure Ok (s : St) : Prop where
  w1 : 1 ≤ s.W
  w6 : s.W ≤ 6
  len : s.m.length = 1 + 3 * s.W
  m0 : 0 ≤ nth s.m 0
  m6 : nth s.m 0 ≤ 6
  md : mid s ≤ 2
  b : s.b ≤ 2
  f : s.f ≤ 2
  bf : s.b ≠ s.f
  bm : s.b ≠ mid s
  fm : s.f ≠ mid s
  wr : ∀ x, s.wr = some x → OkW s x
  rd : ∀ y, s.rd = some y → OkR s y
theorem pl_lt {W j i : Nat} (hj : j ≤ 2) (hi : i < W) : 1 ≤ pl W j + i ∧ pl W j + i < 1 + 3 * W := by
  have : j = 0 ∨ j = 1 ∨ j = 2 := by omega
  rcases this with rfl | rfl | rfl <;> simp [pl] <;> omega
theorem pl_inj {W j i j' i' : Nat} (hj : j ≤ 2) (hi : i < W) (hj' : j' ≤ 2) (hi' : i' < W) (h : pl W j + i = pl W j' + i') : j = j' ∧ i = i' := by
  have a1 : j = 0 ∨ j = 1 ∨ j = 2 := by omega
  have a2 : j' = 0 ∨ j' = 1 ∨ j' = 2 := by omega
  rcases a1 with rfl | rfl | rfl <;> rcases a2 with rfl | rfl | rfl <;> simp [pl] at h ⊢ <;> omega
theorem mid_eq {s s' : St} (h : nth s'.m 0 = nth s.m 0) : mid s' = mid s := by unfold mid; rw [h]
theorem mid_cast {s : St} (h : Ok s) : ((mid s : Nat) : Int) = nth s.m 0 % 4 := by
  have := h.m0
  unfold mid; omega
theorem ok_w {s : St} (h : Ok s) {x : Wr} (hx : s.wr = some x) : Ok (wNext s x) := by
  have hw := h.wr x hx
  have hl := h.len
  have hm := mid_cast h
  obtain ⟨a1, a2, a3, a4, a5, a6, a7, a8, a9, a10, a11, a12, a13⟩ := h
  unfold wNext
  split
  · rename_i k0
    have hp := pl_lt (W := s.W) a7 k0
    have hn : nth (s.m.set (pl s.W s.b + x.k) (nth x.l x.k)) 0 = nth s.m 0 := nth_set_ne _ _ (by omega)
    have hm' : mid { s with m := s.m.set (pl s.W s.b + x.k) (nth x.l x.k), wr := some { x with k := x.k + 1 } } = mid s := mid_eq hn
    refine ⟨a1, a2, by rw [List.length_set]; exact a3, by rw [hn]; exact a4, by rw [hn]; exact a5, by rw [hm']; exact a6, a7, a8, a9, by rw [hm']; exact a10, by rw [hm']; exact a11, fun x' e => ?_, fun y e => ⟨(a13 y e).k, (a13 y e).len, fun e1 => by rw [hn]; exact (a13 y e).fresh e1⟩⟩
    obtain rfl := Option.some.inj e
    exact ⟨by show x.k + 1 ≤ s.W; omega, hw.len, hw.ok⟩
  · rename_i k0
    have hn : nth (s.m.set 0 ((s.b : Int) + 4)) 0 = (s.b : Int) + 4 := nth_set_eq _ _ (by omega)
    have hm' : mid { s with m := s.m.set 0 ((s.b : Int) + 4), b := mid s, wr := none } = s.b := by unfold mid; rw [hn]; omega
    refine ⟨a1, a2, by rw [List.length_set]; exact a3, by rw [hn]; omega, by rw [hn]; omega, by rw [hm']; exact a7, a6, a8, fun e => a11 e.symm, by rw [hm']; exact fun e => a10 e.symm, by rw [hm']; exact fun e => a9 e.symm, fun x' e => (by cases e), fun y e => ⟨(a13 y e).k, (a13 y e).len, fun _ => by rw [hn]; omega⟩⟩
theorem rTold_length (s : St) (y : Rr) : (rTold s y).length = y.t.length := by simp [rTold]
theorem ok_r {s : St} (h : Ok s) {y : Rr} (hy : s.rd = some y) : Ok (rNext s y) := by
  have hr := h.rd y hy
  have hl := h.len
  obtain ⟨a1, a2, a3, a4, a5, a6, a7, a8, a9, a10, a11, a12, a13⟩ := h
  unfold rNext
  split
  · refine ⟨a1, a2, a3, a4, a5, a6, a7, a8, a9, a10, a11, fun x e => ⟨(a12 x e).k, (a12 x e).len, (a12 x e).ok⟩, fun y' e => ?_⟩
    obtain rfl := Option.some.inj e
    refine ⟨?_, hr.len, fun e1 => ?_⟩
    · show (if nth s.m 0 < 4 then 2 else 1) ≤ 1 + s.W
      split <;> omega
    · have e1 : (if nth s.m 0 < 4 then 2 else 1) = 1 := e1
      split at e1
      · omega
      · show 4 ≤ nth s.m 0; omega
  split
  · have hn : nth (s.m.set 0 (s.f : Int)) 0 = (s.f : Int) := nth_set_eq _ _ (by omega)
    have hm' : mid { s with m := s.m.set 0 (s.f : Int), f := mid s, rd := some { y with k := 2 } } = s.f := by unfold mid; rw [hn]; omega
    refine ⟨a1, a2, by rw [List.length_set]; exact a3, by rw [hn]; omega, by rw [hn]; omega, by rw [hm']; exact a8, a7, a6, a10, by rw [hm']; exact a9, by rw [hm']; exact fun e => a11 e.symm, fun x e => ⟨(a12 x e).k, (a12 x e).len, (a12 x e).ok⟩, fun y' e => ?_⟩
    obtain rfl := Option.some.inj e
    exact ⟨by show 2 ≤ 1 + s.W; omega, hr.len, fun e1 => absurd e1 (by show ¬ 2 = 1; omega)⟩
  split
  · refine ⟨a1, a2, a3, a4, a5, a6, a7, a8, a9, a10, a11, fun x e => ⟨(a12 x e).k, (a12 x e).len, (a12 x e).ok⟩, fun y' e => ?_⟩
    obtain rfl := Option.some.inj e
    exact ⟨by show y.k + 1 ≤ 1 + s.W; omega, (rTold_length s y).trans hr.len, fun e1 => absurd e1 (by show ¬ y.k + 1 = 1; omega)⟩
  · exact ⟨a1, a2, a3, a4, a5, a6, a7, a8, a9, a10, a11, fun x e => ⟨(a12 x e).k, (a12 x e).len, (a12 x e).ok⟩, fun y' e => (by cases e)⟩
theorem ok_wr {s : St} (h : Ok s) {o : Option Wr} (ho : ∀ x, o = some x → OkW s x) : Ok { s with wr := o } :=
  ⟨h.w1, h.w6, h.len, h.m0, h.m6, h.md, h.b, h.f, h.bf, h.bm, h.fm, fun x e => ⟨(ho x e).k, (ho x e).len, (ho x e).ok⟩, fun y e => ⟨(h.rd y e).k, (h.rd y e).len, (h.rd y e).fresh⟩⟩
theorem ok_rd {s : St} (h : Ok s) {o : Option Rr} (ho : ∀ y, o = some y → OkR s y) : Ok { s with rd := o } :=
  ⟨h.w1, h.w6, h.len, h.m0, h.m6, h.md, h.b, h.f, h.bf, h.bm, h.fm, fun x e => ⟨(h.wr x e).k, (h.wr x e).len, (h.wr x e).ok⟩, fun y e => ⟨(ho y e).k, (ho y e).len, (ho y e).fresh⟩⟩
theorem ok_wdrop {s : St} (h : Ok s) : Ok { s with wr := none } := ok_wr h fun x e => (by cases e)
theorem ok_rdrop {s : St} (h : Ok s) : Ok { s with rd := none } := ok_rd h fun x e => (by cases e)
theorem ok_write {s : St} (h : Ok s) {l : List Int} (hl : l.length = s.W) (hv : ∀ i, okV (nth l i) = true) : Ok { s with wr := some ⟨0, l⟩ } := ok_wr h fun x e => by
  obtain rfl := Option.some.inj e
  exact ⟨Nat.zero_le _, hl, hv⟩
theorem ok_read {s : St} (h : Ok s) : Ok { s with rd := some ⟨0, List.replicate s.W 0⟩ } := ok_rd h fun y e => by
  obtain rfl := Option.some.inj e
  exact ⟨Nat.zero_le _, by simp, fun e1 => absurd e1 (by show ¬ 0 = 1; omega)⟩
def s0 (W : Nat) : St := ⟨W, List.replicate (1 + 3 * W) 0, 1, 2, none, none⟩
theorem ok_s0 {W : Nat} (h1 : 1 ≤ W) (h6 : W ≤ 6) : Ok (s0 W) := by
  have hn : nth (s0 W).m 0 = 0 := nth_rep _ _ _ (by omega)
  have hm : mid (s0 W) = 0 := by unfold mid; rw [hn]; rfl
  exact ⟨h1, h6, by simp [s0], by rw [hn]; omega, by rw [hn]; omega, by rw [hm]; omega, by show 1 ≤ 2; omega, by show 2 ≤ 2; omega, by show 1 ≠ 2; omega, by rw [hm]; show 1 ≠ 0; omega, by rw [hm]; show 2 ≠ 0; omega, fun x e => (by cases e), fun y e => (by cases e)⟩

/-! ### Whole messages -/
/-- The message j is v, in all its words. -/
def whole (s : St) (j : Nat) (v : Int) : Prop := ∀ i, i < s.W → nth s.m (pl s.W j + i) = v
theorem whole_eq {s s' : St} (hW : s'.W = s.W) {j : Nat} {v : Int} (h : whole s j v) (hm : ∀ i, i < s.W → nth s'.m (pl s.W j + i) = nth s.m (pl s.W j + i)) : whole s' j v := fun i hi => by
  rw [hW] at hi ⊢; rw [hm i hi]; exact h i hi
structure IW (s : St) (b : Int) (x : Wr) : Prop where
  hl : x.l = List.replicate s.W b
  hd : ∀ i, i < x.k → i < s.W → nth s.m (pl s.W s.b + i) = b
structure IR (o lo gf : Int) (y : Rr) : Prop where
  hlo : lo ≤ o
  hf : 2 ≤ y.k → lo ≤ gf
  ht : ∀ i, i < y.k - 2 → nth y.t i = gf
structure Inv (s : St) (b o lo la gm gf : Int) : Prop where
  ok : Ok s
  hm : whole s (mid s) gm
  hf : whole s s.f gf
  fresh : 4 ≤ nth s.m 0 → gm = o ∧ gf ≤ o
  old : nth s.m 0 < 4 → gf = o
  la : la ≤ gf
  ob : o ≤ b
  wr : ∀ x, s.wr = some x → IW s b x
  rd : ∀ y, s.rd = some y → IR o lo gf y
variable {s : St} {b o lo la gm gf : Int}
theorem Inv.fo (h : Inv s b o lo la gm gf) : gf ≤ o := by
  by_cases hh : 4 ≤ nth s.m 0
  · exact (h.fresh hh).2
  · rw [h.old (by omega)]; exact Int.le_refl _
theorem inv_s0 {W : Nat} (h1 : 1 ≤ W) (h6 : W ≤ 6) : Inv (s0 W) 0 0 0 0 0 0 := by
  have hw : ∀ j, j ≤ 2 → whole (s0 W) j 0 := fun j hj i hi => by
    have := pl_lt (W := W) hj hi
    exact nth_rep _ _ _ this.2
  exact ⟨ok_s0 h1 h6, hw _ (ok_s0 h1 h6).md, hw _ (by show 2 ≤ 2; omega), fun _ => by omega, fun _ => rfl, by omega, by omega, fun x e => (by cases e), fun y e => (by cases e)⟩
/-- A write begins. -/
theorem inv_write (h : Inv s b o lo la gm gf) (hb : okV (b + 1) = true) : Inv { s with wr := some ⟨0, List.replicate s.W (b + 1)⟩ } (b + 1) o lo la gm gf :=
  ⟨ok_write h.ok (by simp) (fun i => by
      by_cases hi : i < s.W
      · rw [nth_rep _ _ _ hi]; exact hb
      · rw [nth_oob _ _ (by simp; omega)]; rfl),
   h.hm, h.hf, h.fresh, h.old, h.la, by have := h.ob; omega, fun x e => by
    obtain rfl := Option.some.inj e
    exact ⟨rfl, fun i hi => absurd hi (by show ¬ i < 0; omega)⟩, h.rd⟩
theorem inv_wdrop (h : Inv s b o lo la gm gf) : Inv { s with wr := none } b o lo la gm gf :=
  ⟨ok_wdrop h.ok, h.hm, h.hf, h.fresh, h.old, h.la, h.ob, fun x e => (by cases e), h.rd⟩
theorem inv_rdrop {lo' : Int} (h : Inv s b o lo la gm gf) : Inv { s with rd := none } b o lo' la gm gf :=
  ⟨ok_rdrop h.ok, h.hm, h.hf, h.fresh, h.old, h.la, h.ob, fun x e => ⟨(h.wr x e).hl, (h.wr x e).hd⟩, fun y e => (by cases e)⟩
theorem inv_read (h : Inv s b o lo la gm gf) : Inv { s with rd := some ⟨0, List.replicate s.W 0⟩ } b o o la gm gf :=
  ⟨ok_read h.ok, h.hm, h.hf, h.fresh, h.old, h.la, h.ob, fun x e => ⟨(h.wr x e).hl, (h.wr x e).hd⟩, fun y e => by
    obtain rfl := Option.some.inj e
    exact ⟨Int.le_refl _, fun h2 => absurd h2 (by show ¬ 2 ≤ 0; omega), fun i hi => absurd hi (by show ¬ i < 0 - 2; omega)⟩⟩
/-- The writer's accesses. -/
theorem inv_wstep (h : Inv s b o lo la gm gf) {x : Wr} (hx : s.wr = some x) (hk : x.k < s.W) : Inv (wNext s x) b o lo la gm gf := by
  have hok := h.ok
  have hn := ok_w hok hx
  have iw := h.wr x hx
  have e : wNext s x = { s with m := s.m.set (pl s.W s.b + x.k) (nth x.l x.k), wr := some { x with k := x.k + 1 } } := by unfold wNext; rw [if_pos hk]
  rw [e] at hn ⊢
  have hlen := hok.len
  have hpb := hok.b
  have hp := pl_lt (W := s.W) hok.b hk
  have h0 : nth (s.m.set (pl s.W s.b + x.k) (nth x.l x.k)) 0 = nth s.m 0 := nth_set_ne _ _ (by omega)
  have hoth : ∀ j i, j ≤ 2 → i < s.W → s.b ≠ j → nth (s.m.set (pl s.W s.b + x.k) (nth x.l x.k)) (pl s.W j + i) = nth s.m (pl s.W j + i) := fun j i hj hi hne => nth_set_ne _ _ fun e => hne (pl_inj hpb hk hj hi e).1
  refine ⟨hn, ?_, whole_eq (s := s) (by rfl) h.hf fun i hi => hoth _ i hok.f hi hok.bf, fun h4 => h.fresh (by rw [← h0]; exact h4), fun h4 => h.old (by rw [← h0]; exact h4), h.la, h.ob, fun x' e => ?_, h.rd⟩
  · rw [mid_eq (s := s) h0]
    exact whole_eq (s := s) (by rfl) h.hm fun i hi => hoth _ i hok.md hi hok.bm
  · obtain rfl := Option.some.inj e
    refine ⟨iw.hl, fun i hi hiW => ?_⟩
    show nth (s.m.set _ _) (pl s.W s.b + i) = b
    have hi : i < x.k + 1 := hi
    by_cases hik : x.k = i
    · rw [← hik, nth_set_eq _ _ (by omega), iw.hl, nth_rep _ _ _ hk]
    · rw [nth_set_ne _ _ (by omega)]; exact iw.hd i (by omega) hiW
theorem inv_wlast (h : Inv s b o lo la gm gf) {x : Wr} (hx : s.wr = some x) (hk : x.k = s.W) : Inv (wNext s x) b b lo la b gf := by
  have hok := h.ok
  have hn := ok_w hok hx
  have iw := h.wr x hx
  have hob := h.ob
  have hfo := h.fo
  have e : wNext s x = { s with m := s.m.set 0 ((s.b : Int) + 4), b := mid s, wr := none } := by unfold wNext; rw [if_neg (by omega)]
  rw [e] at hn ⊢
  have hlen := hok.len
  have hoth : ∀ j i, j ≤ 2 → i < s.W → nth (s.m.set 0 ((s.b : Int) + 4)) (pl s.W j + i) = nth s.m (pl s.W j + i) := fun j i hj hi => nth_set_ne _ _ (by have := pl_lt (W := s.W) hj hi; omega)
  have h0 : nth (s.m.set 0 ((s.b : Int) + 4)) 0 = (s.b : Int) + 4 := nth_set_eq _ _ (by omega)
  have hpb := hok.b
  have hm' : mid { s with m := s.m.set 0 ((s.b : Int) + 4), b := mid s, wr := none } = s.b := by unfold mid; rw [h0]; omega
  refine ⟨hn, ?_, whole_eq (s := s) (by rfl) h.hf fun i hi => hoth _ i hok.f hi, fun _ => ⟨rfl, by omega⟩, fun h4 => ?_, h.la, Int.le_refl _, fun x' e => (by cases e), fun y e => ?_⟩
  · rw [hm']
    intro i hi
    show nth (s.m.set _ _) (pl s.W s.b + i) = b
    rw [hoth _ i hpb hi]
    exact iw.hd i (by rw [hk]; exact hi) hi
  · have h4 : nth (s.m.set 0 ((s.b : Int) + 4)) 0 < 4 := h4
    rw [h0] at h4; omega
  · obtain ⟨r1, r2, r3⟩ := h.rd y e
    exact ⟨by omega, r2, r3⟩
/-- The reader's accesses. -/
theorem inv_rstep (h : Inv s b o lo la gm gf) {y : Rr} (hy : s.rd = some y) (hk : y.k < 1 + s.W) : ∃ gm' gf', Inv (rNext s y) b o lo la gm' gf' := by
  have hok := h.ok
  have hn := ok_r hok hy
  have ir := h.rd y hy
  have okr := hok.rd y hy
  have hlen := hok.len
  have hpf := hok.f
  by_cases k0 : y.k = 0
  · have e : rNext s y = { s with rd := some { y with k := if nth s.m 0 < 4 then 2 else 1 } } := by unfold rNext; rw [if_pos k0]
    rw [e] at hn ⊢
    refine ⟨gm, gf, hn, h.hm, h.hf, h.fresh, h.old, h.la, h.ob, fun x e => ⟨(h.wr x e).hl, (h.wr x e).hd⟩, fun y' e => ?_⟩
    obtain rfl := Option.some.inj e
    refine ⟨ir.hlo, fun h2 => ?_, fun i hi => absurd hi ?_⟩
    · have h2 : 2 ≤ (if nth s.m 0 < 4 then 2 else 1) := h2
      split at h2
      · rw [h.old (by assumption)]; exact ir.hlo
      · omega
    · show ¬ i < (if nth s.m 0 < 4 then 2 else 1) - 2
      split <;> omega
  · by_cases k1 : y.k = 1
    · have e : rNext s y = { s with m := s.m.set 0 (s.f : Int), f := mid s, rd := some { y with k := 2 } } := by unfold rNext; rw [if_neg k0, if_pos k1]
      rw [e] at hn ⊢
      have hfr := okr.fresh k1
      obtain ⟨f1, f2⟩ := h.fresh hfr
      have hoth : ∀ j i, j ≤ 2 → i < s.W → nth (s.m.set 0 (s.f : Int)) (pl s.W j + i) = nth s.m (pl s.W j + i) := fun j i hj hi => nth_set_ne _ _ (by have := pl_lt (W := s.W) hj hi; omega)
      have h0 : nth (s.m.set 0 (s.f : Int)) 0 = (s.f : Int) := nth_set_eq _ _ (by omega)
      have hm' : mid { s with m := s.m.set 0 (s.f : Int), f := mid s, rd := some { y with k := 2 } } = s.f := by unfold mid; rw [h0]; omega
      have hla := h.la
      refine ⟨gf, gm, hn, ?_, whole_eq (s := s) (by rfl) h.hm fun i hi => hoth _ i hok.md hi, fun h4 => ?_, fun _ => f1, by omega, h.ob, fun x e => ⟨(h.wr x e).hl, fun i hi hiW => ?_⟩, fun y' e => ?_⟩
      · rw [hm']
        exact whole_eq (s := s) (by rfl) h.hf fun i hi => hoth _ i hpf hi
      · have h4 : 4 ≤ nth (s.m.set 0 (s.f : Int)) 0 := h4
        rw [h0] at h4; omega
      · show nth (s.m.set _ _) (pl s.W s.b + i) = b
        rw [hoth _ i hok.b hiW]; exact (h.wr x e).hd i hi hiW
      · obtain rfl := Option.some.inj e
        exact ⟨ir.hlo, fun _ => by rw [f1]; exact ir.hlo, fun i hi => absurd hi (by show ¬ i < 2 - 2; omega)⟩
    · have e : rNext s y = { s with rd := some { y with k := y.k + 1, t := rTold s y } } := by unfold rNext; rw [if_neg k0, if_neg k1, if_pos hk]
      rw [e] at hn ⊢
      refine ⟨gm, gf, hn, h.hm, h.hf, h.fresh, h.old, h.la, h.ob, fun x e => ⟨(h.wr x e).hl, (h.wr x e).hd⟩, fun y' e => ?_⟩
      obtain rfl := Option.some.inj e
      refine ⟨ir.hlo, fun _ => ir.hf (by omega), fun i hi => ?_⟩
      show nth (y.t.set (y.k - 2) _) i = gf
      have hi : i < y.k + 1 - 2 := hi
      have hl := okr.len
      by_cases hik : y.k - 2 = i
      · rw [hik, nth_set_eq _ _ (by omega)]; exact h.hf i (by omega)
      · rw [nth_set_ne _ _ hik]; exact ir.ht i (by omega)
theorem inv_rlast (h : Inv s b o lo la gm gf) {y : Rr} (hy : s.rd = some y) (hk : y.k = 1 + s.W) : (∀ i, i < s.W → nth (rTold s y) i = gf) ∧ lo ≤ gf ∧ gf ≤ o ∧ la ≤ gf ∧ Inv (rNext s y) b o lo gf gm gf := by
  have hok := h.ok
  have hn := ok_r hok hy
  have ir := h.rd y hy
  have okr := hok.rd y hy
  have w1 := hok.w1
  have hl := okr.len
  refine ⟨fun i hi => ?_, ir.hf (by omega), h.fo, h.la, ?_⟩
  · unfold rTold
    by_cases hik : y.k - 2 = i
    · rw [hik, nth_set_eq _ _ (by omega)]; exact h.hf i hi
    · rw [nth_set_ne _ _ hik]; exact ir.ht i (by omega)
  · have e : rNext s y = { s with rd := none } := by unfold rNext; rw [if_neg (by omega), if_neg (by omega), if_neg (by omega)]
    rw [e] at hn ⊢
    exact ⟨hn, h.hm, h.hf, h.fresh, h.old, Int.le_refl _, h.ob, fun x e => ⟨(h.wr x e).hl, (h.wr x e).hd⟩, fun y e => (by cases e)⟩
end Go.Proofs.YtppmfmgmlicefabDoor.T3
