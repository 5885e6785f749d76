/- A ring whose blocks are not named: all its calls. -/
import Derived.Test.YtpoidnajhcjmcaaDoorRX
namespace Go.Proofs.YtpoidnajhcjmcaaDoor.R8
open Go.RowKit Go.Proofs.YtpoidnajhcjmcaaDoor.G Go.Proofs.YtpoidnajhcjmcaaDoor.Cell Go.Proofs.YtpoidnajhcjmcaaDoor.Ob
set_option maxRecDepth 100000
variable {w w' : World} {br : Nat} {s : St} {c : Int} {F : Nat → Prop}

/-- A ring in block br, of which F are the blocks; its memory has counted at most c accesses. -/
def RegX (w : World) (br : Nat) (s : St) (c : Int) (F : Nat → Prop) : Prop := Ok s ∧ ∃ bm gm u o cc, Reg w br bm gm u o s cc F ∧ 0 ≤ cc ∧ cc ≤ c
theorem RegX.below (h : RegX w br s c F) (hb : Below w.heap.size w w') : RegX w' br s c F := by
  obtain ⟨ok, bm, gm, u, o, cc, h1, h2, h3⟩ := h
  exact ⟨ok, bm, gm, u, o, cc, h1.below hb, h2, h3⟩
theorem RegX.only (h : RegX w br s c F) {G : Nat → Prop} (hb : Only G w w') (hn : ∀ b, F b → ¬ G b) : RegX w' br s c F := by
  obtain ⟨ok, bm, gm, u, o, cc, h1, h2, h3⟩ := h
  exact ⟨ok, bm, gm, u, o, cc, h1.only hb hn, h2, h3⟩
theorem RegX.mono {G : Nat → Prop} {c' : Int} (h : RegX w br s c F) (hFG : ∀ b, F b → G b) (hc : c ≤ c') : RegX w br s c' G := by
  obtain ⟨ok, bm, gm, u, o, cc, h1, h2, h3⟩ := h
  exact ⟨ok, bm, gm, u, o, cc, h1.mono fun b _ hb => hFG b hb, h2, by omega⟩
theorem RegX.tight (h : RegX w br s c F) : RegX w br s c (fun b => F b ∧ b < w.heap.size) := by
  obtain ⟨ok, bm, gm, u, o, cc, h1, h2, h3⟩ := h
  exact ⟨ok, bm, gm, u, o, cc, h1.tight, h2, h3⟩
theorem RegX.ok (h : RegX w br s c F) : Ok s := h.1
theorem RegX.lt (h : RegX w br s c F) : br < w.heap.size ∧ F br := by
  obtain ⟨ok, bm, gm, u, o, cc, h1, h2, h3⟩ := h
  exact ⟨h1.head.lt, h1.own.1⟩
def USP (br : Nat) (s : St) (c : Int) (F : Nat → Prop) (w : World) (e : Ending) (w' : World) : Prop := e = .returned (.tuple #[.slice none 0 0, .bool (uOver s), .int .i64 (uErr s)]) ∧ RegX w' br (uStep s) (c + 1) F ∧ Only F w w'
theorem ustep_any (h : RegX w br s c F) (hc : c ≤ 1099511627776) : Calls Tryd.prog 61 #[P br, .bool true] w (USP br s c F w) := by
  obtain ⟨ok, bm, gm, u, o, cc, h1, h2, h3⟩ := h
  refine (ustep_reg h1 ok h2 (by omega)).mono ?_
  rintro e w' ⟨he, ⟨u', c', a1, a2, a3⟩, hO⟩
  exact ⟨he, ⟨ok_uStep ok, bm, gm, u', o, c', a3, a1, by omega⟩, hO⟩
def OSP (br : Nat) (s : St) (c : Int) (F : Nat → Prop) (w : World) (e : Ending) (w' : World) : Prop := ∃ v, e = .returned (.tuple #[v, .bool (oOver s), .int .i64 (oErr s)]) ∧ Tld w' F v (oTold s) ∧ RegX w' br (oStep s) (c + 1) (Gr F w.heap.size) ∧ Only F w w'
theorem ostep_any (h : RegX w br s c F) (hc : c ≤ 1099511627776) : Calls Tryd.prog 61 #[P br, .bool false] w (OSP br s c F w) := by
  obtain ⟨ok, bm, gm, u, o, cc, h1, h2, h3⟩ := h
  refine (ostep_reg h1 ok h2 (by omega)).mono ?_
  rintro e w' ⟨v, he, ht, ⟨o', c', a1, a2, a3⟩, hO⟩
  exact ⟨v, he, ht, ⟨ok_oStep ok, bm, gm, u, o', c', a3, a1, by omega⟩, hO⟩
def BGP (br : Nat) (n : Int) (s : St) (c : Int) (F : Nat → Prop) (w : World) (e : Ending) (w' : World) : Prop := e = .returned (.int .i64 n) ∧ RegX w' br s c (Gr F w.heap.size) ∧ Only F w w'
theorem push_any {A : Option Addr} {cp : Nat} {l : List Int} (h : RegX w br s c F) (hr : Row w A (iv' l)) : Calls Tryd.prog 57 #[P br, .slice A l.length cp] w (BGP br (uCode s l) (uBegin s l) c F w) := by
  have ok' := ok_uBegin (l := l) h.ok
  obtain ⟨ok, bm, gm, u, o, cc, h1, h2, h3⟩ := h
  unfold BGP
  unfold uCode uBegin may at *
  have hW := ok.w6
  by_cases hl : l.length = s.W
  · rw [decide_eq_true hl, Bool.true_and] at ok' ⊢
    by_cases ha : allOk l = true
    · simp only [ha, if_true] at ok' ⊢
      cases hx : s.pu with
      | none =>
        simp only [hx, Option.isSome_none, Bool.false_eq_true, if_false] at ok' ⊢
        exact (push_ok h1 hr hl ok.w1 hW ha hx).mono fun e w' ⟨he, ⟨u', o', hr'⟩, hO⟩ => ⟨he, ⟨ok', bm, gm, u', o', cc, hr', h2, h3⟩, hO⟩
      | some x =>
        simp only [hx, Option.isSome_some, if_true] at ok' ⊢
        refine (push_busy h1 hr hl hW ha hx).mono fun e w' ⟨he, hb⟩ => ⟨he, ?_⟩
        subst hb
        exact ⟨⟨ok, bm, gm, u, o, cc, h1.mono fun b _ hb => .inl hb, h2, h3⟩, .refl _ _⟩
    · have ha' : allOk l = false := by simpa using ha
      simp only [ha', Bool.false_eq_true, if_false]
      refine (push_bad h1 hr hl hW ha').mono fun e w' ⟨he, hb⟩ => ⟨he, ?_⟩
      subst hb
      exact ⟨⟨ok, bm, gm, u, o, cc, h1.mono fun b _ hb => .inl hb, h2, h3⟩, .refl _ _⟩
  · rw [decide_eq_false hl]
    simp only [Bool.false_and, Bool.false_eq_true, if_false]
    refine (push_len h1 hl).mono fun e w' ⟨he, hb⟩ => ⟨he, ?_⟩
    subst hb
    exact ⟨⟨ok, bm, gm, u, o, cc, h1.mono fun b _ hb => .inl hb, h2, h3⟩, .refl _ _⟩
theorem pop_any (h : RegX w br s c F) : Calls Tryd.prog 59 #[P br] w (BGP br (oCode s) (oBegin s) c F w) := by
  have ok' := ok_oBegin h.ok
  obtain ⟨ok, bm, gm, u, o, cc, h1, h2, h3⟩ := h
  unfold BGP
  unfold oCode oBegin at *
  cases hy : s.po with
  | none =>
    simp only [hy, Option.isSome_none, Bool.false_eq_true, if_false] at ok' ⊢
    exact (pop_ok h1 hy).mono fun e w' ⟨he, ⟨u', o', hr'⟩, hO⟩ => ⟨he, ⟨ok', bm, gm, u', o', cc, hr', h2, h3⟩, hO⟩
  | some y =>
    simp only [Option.isSome_some, if_true]
    refine (pop_busy h1 hy).mono fun e w' ⟨he, hb⟩ => ⟨he, ?_⟩
    subst hb
    exact ⟨⟨ok, bm, gm, u, o, cc, h1.mono fun b _ hb => .inl hb, h2, h3⟩, .refl _ _⟩
def DRP (br : Nat) (b : Bool) (s : St) (c : Int) (F : Nat → Prop) (w : World) (e : Ending) (w' : World) : Prop := e = .returned (.bool b) ∧ RegX w' br s c F ∧ Only F w w'
theorem udrop_any (h : RegX w br s c F) : Calls Tryd.prog 63 #[P br, .bool true] w (DRP br s.pu.isSome (uDrop s) c F w) := by
  obtain ⟨ok, bm, gm, u, o, cc, h1, h2, h3⟩ := h
  exact (drop_u_reg h1).mono fun e w' ⟨he, hr, hO⟩ => ⟨he, ⟨ok_uDrop ok, bm, gm, zS, o, cc, hr, h2, h3⟩, hO⟩
theorem odrop_any (h : RegX w br s c F) : Calls Tryd.prog 63 #[P br, .bool false] w (DRP br s.po.isSome (oDrop s) c F w) := by
  obtain ⟨ok, bm, gm, u, o, cc, h1, h2, h3⟩ := h
  exact (drop_o_reg h1).mono fun e w' ⟨he, hr, hO⟩ => ⟨he, ⟨ok_oDrop ok, bm, gm, u, zS, cc, hr, h2, h3⟩, hO⟩
def RSP (br : Nat) (s : St) (c : Int) (F : Nat → Prop) (w : World) (e : Ending) (w' : World) : Prop := e = .returned (.tuple #[]) ∧ RegX w' br s c F ∧ Only F w w'
theorem reset_any (h : RegX w br s c F) : Calls Tryd.prog 64 #[P br] w (RSP br (s0 s.D s.W) c F w) := by
  obtain ⟨ok, bm, gm, u, o, cc, h1, h2, h3⟩ := h
  exact (reset_reg h1 ok).mono fun e w' ⟨he, hr, hO⟩ => ⟨he, ⟨ok_s0 ok.d1 ok.d8 ok.w1 ok.w6, bm, gm, zS, zS, cc, hr, h2, h3⟩, hO⟩
theorem ubusy_any (h : RegX w br s c F) : Calls Tryd.prog 65 #[P br, .bool true] w (BoolPost s.pu.isSome w) := by
  obtain ⟨ok, bm, gm, u, o, cc, h1, h2, h3⟩ := h
  exact busy_u_reg h1
theorem obusy_any (h : RegX w br s c F) : Calls Tryd.prog 65 #[P br, .bool false] w (BoolPost s.po.isSome w) := by
  obtain ⟨ok, bm, gm, u, o, cc, h1, h2, h3⟩ := h
  exact busy_o_reg h1
theorem rplaces_any (h : RegX w br s c F) : Calls Tryd.prog 71 #[P br] w (IntPost s.D w) := by
  obtain ⟨ok, bm, gm, u, o, cc, h1, h2, h3⟩ := h
  exact places_any h1
theorem rwords_any (h : RegX w br s c F) : Calls Tryd.prog 70 #[P br] w (IntPost s.W w) := by
  obtain ⟨ok, bm, gm, u, o, cc, h1, h2, h3⟩ := h
  exact words_any h1
theorem rcells_any (h : RegX w br s c F) : Calls Tryd.prog 68 #[P br] w (AllPost w s.m) := by
  obtain ⟨ok, bm, gm, u, o, cc, h1, h2, h3⟩ := h
  exact cells_any h1 (by have := ok.len; have := DW_bd ok; omega)
theorem rcount_any (h : RegX w br s c F) : Calls Tryd.prog 66 #[P br] w (CntPost (cnt s) w) := by
  obtain ⟨ok, bm, gm, u, o, cc, h1, h2, h3⟩ := h
  exact count_any h1 ok
def NXP (p n : Int) (w : World) (e : Ending) (w' : World) : Prop := ∃ br, e = .returned (P br) ∧ RegX w' br (s0 (fD p) (fW n)) 0 (fun b => w.heap.size ≤ b) ∧ Below w.heap.size w w'
theorem rnew_any (p n : Int) (hp : p ≤ 9223372036854775807) (hn : n ≤ 9223372036854775807) : Calls Tryd.prog 51 #[.int .i64 p, .int .i64 n] w (NXP p n w) :=
  (new_any p n hp hn).mono fun e w' ⟨br, bm, gm, he, hr, hb⟩ => ⟨br, he, ⟨ok_s0 (fD_bd p).1 (fD_bd p).2 (fW_bd n).1 (fW_bd n).2, bm, gm, zS, zS, 0, hr, Int.le_refl _, Int.le_refl _⟩, hb⟩
theorem reset_nil (w : World) : Calls Tryd.prog 64 #[.pointer none] w fun e w' => e = .returned (.tuple #[]) ∧ w = w' := by
  go_enter Tryd.func64, Tryd.ntmps64
  go_wp2
  exact bodyPost_ret (v := .tuple #[]) (by simp [results, Tryd.results64, go_sem]) rfl ⟨rfl, rfl⟩
end Go.Proofs.YtpoidnajhcjmcaaDoor.R8
