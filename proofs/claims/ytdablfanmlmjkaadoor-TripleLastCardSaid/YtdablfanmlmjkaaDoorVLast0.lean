/- A register of three slots: a write that is alone, and reads behind it: what each access keeps. -/
import Derived.Test.YtdablfanmlmjkaaDoorVBase
namespace Go.Proofs.YtdablfanmlmjkaaDoor.T3
open Go.RowKit Go.Proofs.YtdablfanmlmjkaaDoor.G Go.Proofs.YtdablfanmlmjkaaDoor.Cell
/-- The message j is the list. -/
def Wh (s : St) (j : Nat) (l : List Int) : Prop := ∀ i, i < s.W → nth s.m (pl s.W j + i) = nth l i
/-- What a read that begins here tells, if none writes. -/
def Cur (s : St) (l : List Int) : Prop := (4 ≤ nth s.m 0 → Wh s (mid s) l) ∧ (nth s.m 0 < 4 → Wh s s.f l)
/-- A write of l made k accesses, none reads. -/
def WL (s : St) (l : List Int) (k : Nat) : Prop := s.rd = none ∧ ((k ≤ s.W ∧ s.wr = some ⟨k, l⟩ ∧ ∀ i, i < k → nth s.m (pl s.W s.b + i) = nth l i) ∨ (k = s.W + 1 ∧ s.wr = none ∧ Cur s l))
theorem wl_begin {s : St} {l : List Int} (hw : s.wr = none) (hr : s.rd = none) (hl : l.length = s.W) (ha : allOk l = true) : wCode s l = 0 ∧ WL (wBegin s l) l 0 ∧ (wBegin s l).W = s.W := by
  have eM : may s l = true := by unfold may; rw [ha, hl]; simp
  have eB : wBegin s l = { s with wr := some ⟨0, l⟩ } := by unfold wBegin; rw [eM, hw]; rfl
  refine ⟨by unfold wCode; rw [eM, hw]; rfl, ?_, by rw [eB]⟩
  rw [eB]
  exact ⟨hr, .inl ⟨Nat.zero_le _, rfl, fun i hi => absurd hi (by omega)⟩⟩
theorem wl_busy {s : St} {l : List Int} {k : Nat} (h : WL s l k) : (k ≤ s.W → s.wr.isSome = true) ∧ (¬ k ≤ s.W → s.wr.isSome = false ∧ s.wr = none ∧ s.rd = none ∧ Cur s l) := by
  obtain ⟨hr, ⟨h1, h2, _⟩ | ⟨h1, h2, h3⟩⟩ := h
  · exact ⟨fun _ => by rw [h2]; rfl, fun h => absurd h1 h⟩
  · exact ⟨fun h => by omega, fun _ => ⟨by rw [h2]; rfl, h2, hr, h3⟩⟩
theorem wl_step {s : St} {l : List Int} {k : Nat} (ok : Ok s) (h : WL s l k) (hk : k ≤ s.W) : WL (wStep s) l (k + 1) ∧ (wStep s).W = s.W := by
  obtain ⟨hr, ⟨_, h2, h3⟩ | ⟨h1, _, _⟩⟩ := h
  · have hs : wStep s = wNext s ⟨k, l⟩ := by simp [wStep, h2]
    have hlen := ok.len
    rw [hs]
    unfold wNext
    split
    · rename_i k0
      have k0 : k < s.W := k0
      refine ⟨⟨hr, .inl ⟨k0, rfl, fun i hi => ?_⟩⟩, rfl⟩
      show nth (s.m.set (pl s.W s.b + k) (nth l k)) (pl s.W s.b + i) = nth l i
      have hp := pl_lt (W := s.W) ok.b k0
      by_cases hik : k = i
      · subst hik; exact nth_set_eq _ _ (by omega)
      · rw [nth_set_ne _ _ (by omega)]; exact h3 i (by omega)
    · rename_i k0
      have k0 : ¬ k < s.W := k0
      refine ⟨⟨hr, .inr ⟨by show k + 1 = s.W + 1; omega, rfl, fun _ => ?_, fun h4 => ?_⟩⟩, rfl⟩
      · have h0 : nth (s.m.set 0 ((s.b : Int) + 4)) 0 = (s.b : Int) + 4 := nth_set_eq _ _ (by omega)
        have hb := ok.b
        have hm' : mid { s with m := s.m.set 0 ((s.b : Int) + 4), b := mid s, wr := none } = s.b := by unfold mid; rw [h0]; omega
        rw [hm']
        intro i hi
        have hi : i < s.W := hi
        show nth (s.m.set 0 ((s.b : Int) + 4)) (pl s.W s.b + i) = nth l i
        have hp := pl_lt (W := s.W) ok.b hi
        rw [nth_set_ne _ _ (by omega)]; exact h3 i (by omega)
      · have h0 : nth (s.m.set 0 ((s.b : Int) + 4)) 0 = (s.b : Int) + 4 := nth_set_eq _ _ (by omega)
        have h4 : nth (s.m.set 0 ((s.b : Int) + 4)) 0 < 4 := h4
        rw [h0] at h4; omega
  · omega
/-- A read made some k accesses, none writes; what it tells is l. -/
def RL (s : St) (l : List Int) (k : Nat) : Prop := s.wr = none ∧ l.length = s.W ∧ ((∃ y, s.rd = some y ∧ k ≤ y.k ∧ (y.k = 0 → Cur s l) ∧ (y.k = 1 → 4 ≤ nth s.m 0 ∧ Wh s (mid s) l) ∧ (2 ≤ y.k → nth s.m 0 < 4 ∧ Wh s s.f l ∧ ∀ i, i < y.k - 2 → nth y.t i = nth l i)) ∨ (s.rd = none ∧ Cur s l ∧ k ≤ 8))
theorem rl_begin {s : St} {l : List Int} (hw : s.wr = none) (hr : s.rd = none) (hl : l.length = s.W) (hc : Cur s l) : RL (rBegin s) l 0 ∧ (rBegin s).W = s.W ∧ (rBegin s).rd ≠ none := by
  have eB : rBegin s = { s with rd := some ⟨0, List.replicate s.W 0⟩ } := by simp [rBegin, hr]
  rw [eB]
  exact ⟨⟨hw, hl, .inl ⟨_, rfl, Nat.le_refl _, fun _ => hc, fun h => absurd h (by show ¬ 0 = 1; omega), fun h => absurd h (by show ¬ 2 ≤ 0; omega)⟩⟩, rfl, by simp⟩
theorem rl_k {s : St} {l : List Int} {k : Nat} (ok : Ok s) (h : RL s l k) (hs : s.rd ≠ none) : k ≤ 7 := by
  obtain ⟨_, _, ⟨y, hy, h1, _⟩ | ⟨h1, _⟩⟩ := h
  · have := (ok.rd y hy).k
    have := ok.w6
    omega
  · exact absurd h1 hs
theorem rl_cur {s : St} {l : List Int} {k : Nat} (h : RL s l k) (hs : s.rd = none) : Cur s l := by
  obtain ⟨_, _, ⟨y, hy, _⟩ | ⟨_, h2, _⟩⟩ := h
  · rw [hs] at hy; cases hy
  · exact h2
theorem rl_step {s : St} {l : List Int} {k : Nat} (ok : Ok s) (h : RL s l k) (hs : s.rd ≠ none) : RL (rStep s) l (k + 1) ∧ (rStep s).W = s.W ∧ ((rStep s).rd = none → rOut s = l) := by
  obtain ⟨hw, hl, ⟨y, hy, h1, h2, h3, h4⟩ | ⟨h1, _⟩⟩ := h
  · have okr := ok.rd y hy
    have hk := okr.k
    have w1 := ok.w1
    have w6 := ok.w6
    have hlen := ok.len
    have e : rStep s = rNext s y := by simp [rStep, hy]
    rw [e]
    unfold rNext
    split
    · rename_i k0
      refine ⟨⟨hw, hl, .inl ⟨_, rfl, ?_, fun h => ?_, fun h => ?_, fun h => ?_⟩⟩, rfl, fun h => (by cases h)⟩
      · show k + 1 ≤ (if nth s.m 0 < 4 then 2 else 1)
        split <;> omega
      · have h : (if nth s.m 0 < 4 then 2 else 1) = 0 := h
        split at h <;> omega
      · have h : (if nth s.m 0 < 4 then 2 else 1) = 1 := h
        split at h
        · omega
        · exact ⟨by show 4 ≤ nth s.m 0; omega, (h2 k0).1 (by omega)⟩
      · have h : 2 ≤ (if nth s.m 0 < 4 then 2 else 1) := h
        split at h
        · rename_i h5
          refine ⟨h5, (h2 k0).2 h5, fun i hi => absurd hi ?_⟩
          show ¬ i < (if nth s.m 0 < 4 then 2 else 1) - 2
          rw [if_pos h5]; omega
        · omega
    split
    · rename_i k0 k1
      obtain ⟨h5, h6⟩ := h3 k1
      have h0 : nth (s.m.set 0 (s.f : Int)) 0 = (s.f : Int) := nth_set_eq _ _ (by omega)
      have hf := ok.f
      have hmd := ok.md
      refine ⟨⟨hw, hl, .inl ⟨_, rfl, by show k + 1 ≤ 2; omega, fun h => absurd h (by show ¬ 2 = 0; omega), fun h => absurd h (by show ¬ 2 = 1; omega), fun _ => ⟨?_, fun i hi => ?_, fun i hi => absurd hi (by show ¬ i < 2 - 2; omega)⟩⟩⟩, rfl, fun h => (by cases h)⟩
      · show nth (s.m.set 0 (s.f : Int)) 0 < 4
        rw [h0]; omega
      · show nth (s.m.set 0 (s.f : Int)) (pl s.W (mid s) + i) = nth l i
        have hi : i < s.W := hi
        have hp := pl_lt (W := s.W) hmd hi
        rw [nth_set_ne _ _ (by omega)]
        exact h6 i hi
    split
    · rename_i k0 k1 k2
      obtain ⟨h5, h6, h7⟩ := h4 (by omega)
      refine ⟨⟨hw, hl, .inl ⟨_, rfl, by show k + 1 ≤ y.k + 1; omega, fun h => absurd h (by show ¬ y.k + 1 = 0; omega), fun h => absurd h (by show ¬ y.k + 1 = 1; omega), fun _ => ⟨h5, h6, fun i hi => ?_⟩⟩⟩, rfl, fun h => (by cases h)⟩
      have hi : i < y.k + 1 - 2 := hi
      show nth (rTold s y) i = nth l i
      have hlt := okr.len
      unfold rTold
      by_cases hik : y.k - 2 = i
      · rw [hik, nth_set_eq _ _ (by omega)]; exact h6 i (by omega)
      · rw [nth_set_ne _ _ hik]; exact h7 i (by omega)
    · rename_i k0 k1 k2
      obtain ⟨h5, h6, h7⟩ := h4 (by omega)
      refine ⟨⟨hw, hl, .inr ⟨rfl, ⟨fun h => ?_, fun _ => h6⟩, by omega⟩⟩, rfl, fun _ => ?_⟩
      · have h : 4 ≤ nth s.m 0 := h
        omega
      · have ho : rOut s = rTold s y := by
          have : y.k = 1 + s.W := by omega
          simp [rOut, hy, this]
        rw [ho]
        have hlt := okr.len
        apply List.ext_getElem
        · rw [rTold_length, hlt, hl]
        · intro i h8 h9
          have key : nth (rTold s y) i = nth l i := by
            unfold rTold
            by_cases hik : y.k - 2 = i
            · rw [hik, nth_set_eq _ _ (by omega)]; exact h6 i (by omega)
            · rw [nth_set_ne _ _ hik]; exact h7 i (by omega)
          simpa [nth, h8, h9] using key
  · exact absurd h1 hs
theorem allOk_set {l : List Int} (h : allOk l = true) (k : Nat) {z : Int} (hz : okV z = true) : allOk (l.set k z) = true := by
  unfold allOk at h ⊢
  rw [List.all_eq_true] at h ⊢
  intro x hx
  rcases List.mem_or_eq_of_mem_set hx with h1 | h1
  · exact h x h1
  · rw [h1]; exact hz
/-- The register, and the message of the round in block gl. -/
structure LW (w V : World) (br gl : Nat) (own : List Int) (s : St) (c : Int) (F : Nat → Prop) : Prop where
  reg : RegX V br s c F
  own : Blk V gl 3 (ints own)
  out : ¬ F gl
  low : ∀ q, F q → w.heap.size ≤ q
  bel : Below w.heap.size w V
variable {w V V' : World} {br gl : Nat} {own : List Int} {s s' : St} {c c' : Int} {F F' : Nat → Prop}
theorem LW.call (h : LW w V br gl own s c F) (hr : RegX V' br s' c' F') (hm : More F F' V.heap.size) (hO : Only F V V') : LW w V' br gl own s' c' F' :=
  ⟨hr, Only.blk h.own hO h.out, fun h1 => (hm gl h1).elim h.out fun h2 => by have := h.own.lt; omega, low_more h.low hm h.bel.size, Only.to_below h.bel hO h.low h.bel.size⟩
theorem LW.below (h : LW w V br gl own s c F) (hb : Below V.heap.size V V') : LW w V' br gl own s c F :=
  ⟨h.reg.below hb, h.own.bel hb, h.out, h.low, h.bel.trans (hb.mono h.bel.size)⟩
theorem LW.row (h : LW w V br gl own s c F) : Row V (some ⟨gl, 0, none⟩) (iv' own) := Row.of_blk h.own fun j u hj => by unfold ints; rw [List.getElem?_toArray]; exact hj
end Go.Proofs.YtdablfanmlmjkaaDoor.T3
