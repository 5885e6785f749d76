/- A register of three slots: all its calls, each against one plain function. -/
import Derived.Test.YtppmfmgmlicefabDoorVCalls2
namespace Go.Proofs.YtppmfmgmlicefabDoor.T3
open Go.RowKit Go.Proofs.YtppmfmgmlicefabDoor.G Go.Proofs.YtppmfmgmlicefabDoor.Cell
set_option maxRecDepth 100000
variable {w w' : World} {br : Nat} {s : St} {c : Int} {F : Nat → Prop}

/-- A register in block br, of which F are the blocks; its memory has counted at most c accesses. -/
def RegX (w : World) (br : Nat) (s : St) (c : Int) (F : Nat → Prop) : Prop := Ok s ∧ ∃ bm gm wa ra cc, Reg w br bm gm wa ra s cc F ∧ 0 ≤ cc ∧ cc ≤ c
theorem RegX.below (h : RegX w br s c F) (hb : Below w.heap.size w w') : RegX w' br s c F := by
  obtain ⟨ok, bm, gm, wa, ra, cc, h1, h2, h3⟩ := h
  exact ⟨ok, bm, gm, wa, ra, cc, h1.below hb, h2, h3⟩
theorem RegX.only (h : RegX w br s c F) {G : Nat → Prop} (hb : Only G w w') (hn : ∀ b, F b → ¬ G b) : RegX w' br s c F := by
  obtain ⟨ok, bm, gm, wa, ra, cc, h1, h2, h3⟩ := h
  exact ⟨ok, bm, gm, wa, ra, cc, h1.only hb hn, h2, h3⟩
theorem RegX.mono {G : Nat → Prop} {c' : Int} (h : RegX w br s c F) (hFG : ∀ b, F b → G b) (hc : c ≤ c') : RegX w br s c' G := by
  obtain ⟨ok, bm, gm, wa, ra, cc, h1, h2, h3⟩ := h
  exact ⟨ok, bm, gm, wa, ra, cc, h1.mono hFG, h2, by omega⟩
theorem RegX.tight (h : RegX w br s c F) : RegX w br s c (fun b => F b ∧ b < w.heap.size) := by
  obtain ⟨ok, bm, gm, wa, ra, cc, h1, h2, h3⟩ := h
  exact ⟨ok, bm, gm, wa, ra, cc, h1.tight, h2, h3⟩
theorem RegX.ok (h : RegX w br s c F) : Ok s := h.1
theorem RegX.lt (h : RegX w br s c F) : br < w.heap.size ∧ F br := by
  obtain ⟨ok, bm, gm, wa, ra, cc, h1, h2, h3⟩ := h
  exact ⟨h1.head.lt, h1.own.1⟩
theorem RegX.fr {n m : Nat} (h : RegX w br s c (Gr (Fr n) m)) (hm : n ≤ m) : RegX w br s c (Fr n) := h.mono (fun _ hb => hb.elim id fun h2 => Nat.le_trans hm h2) (Int.le_refl _)
def WSPost (br : Nat) (s : St) (c : Int) (F : Nat → Prop) (w : World) (e : Ending) (w' : World) : Prop := e = .returned (.tuple #[.slice none 0 0, .bool (wDone s), .int .i64 (wErr s)]) ∧ RegX w' br (wStep s) (c + 1) F ∧ Only F w w'
theorem wstep_any (h : RegX w br s c F) (hc : c ≤ 1099511627776) : Calls Tryd.prog 37 #[P br, .bool true] w (WSPost br s c F w) := by
  obtain ⟨ok, bm, gm, wa, ra, cc, h1, h2, h3⟩ := h
  have ok' := ok_wStep ok
  unfold WSPost
  unfold wDone wErr wStep at *
  cases hx : s.wr with
  | none =>
    refine (step_wn h1 hx).mono fun e w' ⟨he, hw⟩ => ⟨he, ?_⟩
    subst hw
    exact ⟨⟨ok, bm, gm, wa, ra, cc, h1, h2, by omega⟩, .refl _ _⟩
  | some x =>
    simp only [hx] at ok' ⊢
    have hk := (ok.wr x hx).k
    by_cases hl : x.k = s.W
    · rw [decide_eq_true hl]
      exact (step_wl h1 ok hx hl h2 (by omega)).mono fun e w' ⟨he, hr, hO⟩ => ⟨he, ⟨ok', bm, gm, wa, ra, cc + 1, hr, by omega, by omega⟩, hO⟩
    · rw [decide_eq_false hl]
      exact (step_w h1 ok hx (by omega) h2 (by omega)).mono fun e w' ⟨he, hr, hO⟩ => ⟨he, ⟨ok', bm, gm, wa, ra, cc + 1, hr, by omega, by omega⟩, hO⟩
def RSPost (br : Nat) (s : St) (c : Int) (F : Nat → Prop) (w : World) (e : Ending) (w' : World) : Prop := ∃ v, e = .returned (.tuple #[v, .bool (rDone s), .int .i64 (rErr s)]) ∧ Out w' v (rOut s) ∧ RegX w' br (rStep s) (c + 1) F ∧ Only F w w'
theorem rstep_any (h : RegX w br s c F) (hc : c ≤ 1099511627776) : Calls Tryd.prog 37 #[P br, .bool false] w (RSPost br s c F w) := by
  obtain ⟨ok, bm, gm, wa, ra, cc, h1, h2, h3⟩ := h
  have ok' := ok_rStep ok
  unfold RSPost
  unfold rDone rErr rStep rOut at *
  cases hy : s.rd with
  | none =>
    refine (step_rn h1 hy).mono fun e w' ⟨he, hw⟩ => ⟨_, he, Out.nil_ _, ?_⟩
    subst hw
    exact ⟨⟨ok, bm, gm, wa, ra, cc, h1, h2, by omega⟩, .refl _ _⟩
  | some y =>
    simp only [hy] at ok' ⊢
    have hk := (ok.rd y hy).k
    have hlen := (ok.rd y hy).len
    have hW := ok.w6
    by_cases hl : y.k = 1 + s.W
    · rw [decide_eq_true hl, if_pos hl]
      refine (step_rl h1 ok hy hl h2 (by omega)).mono fun e w' ⟨he, hr, hO, hT⟩ => ⟨_, he, ?_, ⟨ok', bm, gm, wa, ra, cc + 1, hr, by omega, by omega⟩, hO⟩
      have h5 : (rTold s y).length = s.W := by rw [rTold_length]; exact hlen
      have := Out.of_blk hT (by omega)
      rwa [h5] at this
    · rw [decide_eq_false hl, if_neg hl]
      exact (step_r h1 ok hy (by omega) h2 (by omega)).mono fun e w' ⟨he, hr, hO⟩ => ⟨_, he, Out.nil_ _, ⟨ok', bm, gm, wa, ra, cc + 1, hr, by omega, by omega⟩, hO⟩
def BGPost (br : Nat) (n : Int) (s : St) (c : Int) (F : Nat → Prop) (w : World) (e : Ending) (w' : World) : Prop := e = .returned (.int .i64 n) ∧ RegX w' br s c (Gr F w.heap.size) ∧ Only F w w'
theorem wwrite_any {A : Option Addr} {cp : Nat} {l : List Int} (h : RegX w br s c F) (hr : Row w A (iv' l)) :
    Calls Tryd.prog 33 #[P br, .slice A l.length cp] w (BGPost br (wCode s l) (wBegin s l) c F w) := by
  obtain ⟨ok, bm, gm, wa, ra, cc, h1, h2, h3⟩ := h
  unfold BGPost wCode wBegin may
  have hW := ok.w6
  by_cases hl : l.length = s.W
  · rw [decide_eq_true hl, Bool.true_and]
    by_cases ha : allOk l = true
    · simp only [ha, if_true]
      cases hx : s.wr with
      | none =>
        simp only [Option.isSome_none, Bool.false_eq_true, if_false]
        exact (write_ok_ h1 hr hl ok.w1 hW ha hx).mono fun e w' ⟨he, wa', ra', hr', hO⟩ => ⟨he, ⟨ok_write ok hl (allOk_nth ha), bm, gm, wa', ra', cc, hr', h2, h3⟩, hO⟩
      | some x =>
        simp only [Option.isSome_some, if_true]
        refine (write_busy h1 hr hl hW ha hx).mono fun e w' ⟨he, hb⟩ => ⟨he, ?_⟩
        subst hb
        exact ⟨⟨ok, bm, gm, wa, ra, cc, h1.mono fun b hb => .inl hb, h2, h3⟩, .refl _ _⟩
    · have ha' : allOk l = false := by simpa using ha
      simp only [ha', Bool.false_eq_true, if_false]
      refine (write_bad h1 hr hl hW ha').mono fun e w' ⟨he, hb⟩ => ⟨he, ?_⟩
      subst hb
      exact ⟨⟨ok, bm, gm, wa, ra, cc, h1.mono fun b hb => .inl hb, h2, h3⟩, .refl _ _⟩
  · rw [decide_eq_false hl]
    simp only [Bool.false_and, Bool.false_eq_true, if_false]
    refine (write_len h1 hl).mono fun e w' ⟨he, hb⟩ => ⟨he, ?_⟩
    subst hb
    exact ⟨⟨ok, bm, gm, wa, ra, cc, h1.mono fun b hb => .inl hb, h2, h3⟩, .refl _ _⟩
theorem rread_any (h : RegX w br s c F) : Calls Tryd.prog 35 #[P br] w (BGPost br (rCode s) (rBegin s) c F w) := by
  obtain ⟨ok, bm, gm, wa, ra, cc, h1, h2, h3⟩ := h
  unfold BGPost rCode rBegin
  cases hy : s.rd with
  | none =>
    simp only [Option.isSome_none, Bool.false_eq_true, if_false]
    exact (read_ok_ h1 ok.w6 hy).mono fun e w' ⟨he, wa', ra', hr', hO⟩ => ⟨he, ⟨ok_read ok, bm, gm, wa', ra', cc, hr', h2, h3⟩, hO⟩
  | some y =>
    simp only [Option.isSome_some, if_true]
    refine (read_busy h1 hy).mono fun e w' ⟨he, hw⟩ => ⟨he, ?_⟩
    subst hw
    exact ⟨⟨ok, bm, gm, wa, ra, cc, h1.mono fun b hb => .inl hb, h2, h3⟩, .refl _ _⟩
theorem wbusy_any (h : RegX w br s c F) : Calls Tryd.prog 40 #[P br, .bool true] w (BoolPost s.wr.isSome w) := by
  obtain ⟨ok, bm, gm, wa, ra, cc, h1, h2, h3⟩ := h
  exact busy_w h1
theorem rbusy_any (h : RegX w br s c F) : Calls Tryd.prog 40 #[P br, .bool false] w (BoolPost s.rd.isSome w) := by
  obtain ⟨ok, bm, gm, wa, ra, cc, h1, h2, h3⟩ := h
  exact busy_r h1
theorem wown_any (h : RegX w br s c F) : Calls Tryd.prog 41 #[P br, .bool true] w (IntPost s.b w) := by
  obtain ⟨ok, bm, gm, wa, ra, cc, h1, h2, h3⟩ := h
  exact own_w h1
theorem rown_any (h : RegX w br s c F) : Calls Tryd.prog 41 #[P br, .bool false] w (IntPost s.f w) := by
  obtain ⟨ok, bm, gm, wa, ra, cc, h1, h2, h3⟩ := h
  exact own_r h1
theorem rwords_any (h : RegX w br s c F) : Calls Tryd.prog 44 #[P br] w (IntPost s.W w) := by
  obtain ⟨ok, bm, gm, wa, ra, cc, h1, h2, h3⟩ := h
  exact words_any h1
theorem rcells_any (h : RegX w br s c F) : Calls Tryd.prog 42 #[P br] w (AllPost w s.m) := by
  obtain ⟨ok, bm, gm, wa, ra, cc, h1, h2, h3⟩ := h
  exact cells_any h1 ok
def DPost (br : Nat) (b : Bool) (s : St) (c : Int) (F : Nat → Prop) (w : World) (e : Ending) (w' : World) : Prop := e = .returned (.bool b) ∧ RegX w' br s c F ∧ Only F w w'
theorem wdrop_any (h : RegX w br s c F) : Calls Tryd.prog 39 #[P br, .bool true] w (DPost br s.wr.isSome { s with wr := none } c F w) := by
  obtain ⟨ok, bm, gm, wa, ra, cc, h1, h2, h3⟩ := h
  exact (drop_w h1).mono fun e w' ⟨he, hr, hO⟩ => ⟨he, ⟨ok_wdrop ok, bm, gm, wa, ra, cc, hr, h2, h3⟩, hO⟩
theorem rdrop_any (h : RegX w br s c F) : Calls Tryd.prog 39 #[P br, .bool false] w (DPost br s.rd.isSome { s with rd := none } c F w) := by
  obtain ⟨ok, bm, gm, wa, ra, cc, h1, h2, h3⟩ := h
  exact (drop_r h1).mono fun e w' ⟨he, hr, hO⟩ => ⟨he, ⟨ok_rdrop ok, bm, gm, wa, ra, cc, hr, h2, h3⟩, hO⟩
def RNPost (n : Int) (w : World) (e : Ending) (w' : World) : Prop := ∃ br, e = .returned (P br) ∧ RegX w' br (s0 (fW n)) 0 (fun b => w.heap.size ≤ b) ∧ Below w.heap.size w w'
theorem rnew_any (n : Int) (hn : n ≤ 9223372036854775807) : Calls Tryd.prog 27 #[.int .i64 n] w (RNPost n w) :=
  (new_any n hn).mono fun e w' ⟨br, bm, gm, he, hr, hb⟩ => ⟨br, he, ⟨ok_s0 (fW_bd n).1 (fW_bd n).2, bm, gm, wa0, ra0, 0, hr, by omega, by omega⟩, hb⟩
end Go.Proofs.YtppmfmgmlicefabDoor.T3
