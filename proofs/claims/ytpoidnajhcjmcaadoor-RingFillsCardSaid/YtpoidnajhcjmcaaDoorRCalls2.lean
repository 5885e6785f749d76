/- A ring: Push, Pop, Reset, Count, Places, Words, Cells. -/
import Derived.Test.YtpoidnajhcjmcaaDoorRCalls
import Derived.Test.YtpoidnajhcjmcaaDoorRAll
namespace Go.Proofs.YtpoidnajhcjmcaaDoor.R8
open Go.RowKit Go.Proofs.YtpoidnajhcjmcaaDoor.G Go.Proofs.YtpoidnajhcjmcaaDoor.Cell Go.Proofs.YtpoidnajhcjmcaaDoor.Ob
set_option maxRecDepth 100000
variable {w w' : World} {br bm gm : Nat} {u o : Sv} {s : St} {c : Int} {F : Nat → Prop} {x : Pu} {y : Po}

/-! ### Push -/
theorem busy_u_reg (h : Reg w br bm gm u o s c F) : Calls Tryd.prog 65 #[P br, .bool true] w (BoolPost s.pu.isSome w) := by
  have hp := h.pu
  cases hx : s.pu with
  | none =>
    rw [hx] at hp
    have hp : u = zS := hp
    subst hp
    exact busy_un h.head
  | some x =>
    rw [hx] at hp
    exact busy_u h.head hp.1
theorem busy_o_reg (h : Reg w br bm gm u o s c F) : Calls Tryd.prog 65 #[P br, .bool false] w (BoolPost s.po.isSome w) := by
  have hp := h.po
  cases hx : s.po with
  | none =>
    rw [hx] at hp
    have hp : o = zS := hp
    subst hp
    exact busy_on h.head
  | some x =>
    rw [hx] at hp
    exact busy_o h.head hp.1
theorem push_len {A : Option Addr} {cp n : Nat} (h : Reg w br bm gm u o s c F) (hn : n ≠ s.W) :
    Calls Tryd.prog 57 #[P br, .slice A n cp] w fun e w' => e = .returned (.int .i64 3) ∧ w = w' := by
  have k0 := h.head.cell
  have t0 : ((n : Int) != (s.W : Int)) = true := by rw [bne_iff_ne]; omega
  clear h hn
  unfold hd P at k0
  unfold P
  go_enter Tryd.func57, Tryd.ntmps57
  go_wp2
  go_ret
  exact ⟨rfl, rfl⟩
theorem push_bad {A : Option Addr} {cp : Nat} {l : List Int} (h : Reg w br bm gm u o s c F) (hr : Row w A (iv' l)) (hl : l.length = s.W) (hW : s.W ≤ 6) (hok : allOk l = false) :
    Calls Tryd.prog 57 #[P br, .slice A l.length cp] w fun e w' => e = .returned (.int .i64 3) ∧ w = w' := by
  have k0 := h.head.cell
  have HA := Lib.hid (has_any (cp := cp) hr (by omega))
  unfold hd P at k0
  rw [← hl] at k0
  rw [hok] at HA
  clear h hr hl hok
  unfold P
  go_enter Tryd.func57, Tryd.ntmps57
  go_wp2_with (go_at_call 83; refine HA.out.mono ?_; rintro e w1 ⟨rfl, rfl⟩)
  go_ret
  exact ⟨rfl, rfl⟩
theorem push_busy {A : Option Addr} {cp : Nat} {l : List Int} (h : Reg w br bm gm u o s c F) (hr : Row w A (iv' l)) (hl : l.length = s.W) (hW : s.W ≤ 6) (hok : allOk l = true) (hx : s.pu = some x) :
    Calls Tryd.prog 57 #[P br, .slice A l.length cp] w fun e w' => e = .returned (.int .i64 1) ∧ w = w' := by
  have k0 := h.head.cell
  have HA := Lib.hid (has_any (cp := cp) hr (by omega))
  have HB := Lib.hid (busy_u_reg h)
  unfold hd P at k0
  rw [← hl] at k0
  rw [hok] at HA
  rw [hx] at HB
  unfold P at HB
  clear h hr hl hok hx
  unfold P
  go_enter Tryd.func57, Tryd.ntmps57
  go_wp2_with (first
    | (go_at_call 83; refine HA.out.mono ?_; rintro e w1 ⟨rfl, rfl⟩)
    | (go_at_call 65; refine HB.out.mono ?_; rintro e w1 ⟨rfl, rfl⟩))
  go_ret
  exact ⟨rfl, rfl⟩
/-- A side's five cells, new. -/
abbrev putS (w : World) (b i : Nat) (n : Value) (l : Value) : World := ((((w.setCell ⟨b, i, none⟩ n).setCell ⟨b, i + 1, none⟩ (.int .i64 0)).setCell ⟨b, i + 2, none⟩ (.int .i64 0)).setCell ⟨b, i + 3, none⟩ l).setCell ⟨b, i + 4, none⟩ (.slice none 0 0)
theorem putS_only (V : World) (br i : Nat) (n l : Value) : Only (fun b => b = br) V (putS V br i n l) := by
  have h0 : Only (fun b => b = br) V V := Only.refl _ _
  exact ((((h0.set_ rfl i _).set_ rfl (i + 1) _).set_ rfl (i + 2) _).set_ rfl (i + 3) _).set_ rfl (i + 4) _
theorem Reg.pushed {V : World} {l : List Int} {v : Value} (h : Reg w br bm gm u o s c F) (hb : Below w.heap.size w V) (hL : LF V (fun g => w.heap.size ≤ g) v l) :
    Reg (putS V br 3 (fnV 89 br) v) br bm gm ⟨fnV 89 br, .int .i64 0, .int .i64 0, v, .slice none 0 0⟩ o { s with pu := some ⟨0, 0, 0, l⟩ } c (Gr F w.heap.size) ∧ Only F w (putS V br 3 (fnV 89 br) v) := by
  have h1 := h.below hb
  have hO := putS_only V br 3 (fnV 89 br) v
  have hlt := h.head.lt
  have hlt2 := h.mem.head.lt
  have hlt3 := h.mem.words.lt
  have h2 : OAt V br s.W (fun g => No br bm gm F g ∧ g < w.heap.size) o s.po := (h.po.mono (fun g hg hh => ⟨hh, hg⟩)).only (G := fun _ => False) (.of_below hb) fun _ _ => id
  have e1 : Blk (putS V br 3 (fnV 89 br) v) br 132 (hd s.D s.W bm ⟨fnV 89 br, .int .i64 0, .int .i64 0, v, .slice none 0 0⟩ o) :=
    ((((h1.head.set_ 3 (fnV 89 br)).set_ 4 (.int .i64 0)).set_ 5 (.int .i64 0)).set_ 6 v).set_ 7 (.slice none 0 0)
  refine ⟨⟨e1, mem_only h1.mem h1.head hO, ⟨.inl h.own.1, .inl h.own.2.1, .inl h.own.2.2⟩, ⟨rfl, rfl, rfl, ?_, rfl⟩, ?_⟩, (Only.of_below hb).trans_ (hO.mono fun b e => e ▸ h.own.1)⟩
  · refine LF.mono (N := fun g => w.heap.size ≤ g) (hL.only hO (fun g hg e => by omega)) (fun g _ hg => ⟨.inr hg, by omega, by omega, by omega, fun e => ?_⟩)
    cases hy : s.po with
    | none =>
      have h0 := h.po
      rw [hy] at h0
      have h0 : o = zS := h0
      rw [h0] at e
      simp [zS, Value.ownBlock] at e
    | some y =>
      have h0 := h2
      rw [hy] at h0
      have := (h0.2.2.2.2.2 g e).2
      omega
  · exact (h2.only hO (fun g hg e => hg.1.2.1 e)).mono fun g _ hg => ⟨.inl hg.1.1, hg.1.2⟩
def BPost (br bm gm : Nat) (s : St) (n : Int) (c : Int) (F : Nat → Prop) (w : World) (e : Ending) (w' : World) : Prop := e = .returned (.int .i64 n) ∧ (∃ u o, Reg w' br bm gm u o s c (Gr F w.heap.size)) ∧ Only F w w'
theorem push_ok {A : Option Addr} {cp : Nat} {l : List Int} (h : Reg w br bm gm u o s c F) (hr : Row w A (iv' l)) (hl : l.length = s.W) (hW1 : 1 ≤ s.W) (hW : s.W ≤ 6) (hok : allOk l = true) (hx : s.pu = none) :
    Calls Tryd.prog 57 #[P br, .slice A l.length cp] w (BPost br bm gm { s with pu := some ⟨0, 0, 0, l⟩ } 0 c F w) := by
  have k0 := h.head.cell
  have HA := Lib.hid (has_any (cp := cp) hr (by omega))
  have HB := Lib.hid (busy_u_reg h)
  have HC := Lib.hid (clone2_any (cp := cp) hr (by omega) (by omega))
  have HR := Lib.hid h
  unfold hd P at k0
  rw [← hl] at k0
  rw [hok] at HA
  rw [hx] at HB
  unfold P at HB
  clear h hr hl hok hx
  unfold P
  go_enter Tryd.func57, Tryd.ntmps57
  go_wp2_with (first
    | (go_at_call 83; refine HA.out.mono ?_; rintro e w1 ⟨rfl, rfl⟩)
    | (go_at_call 65; refine HB.out.mono ?_; rintro e w1 ⟨rfl, rfl⟩)
    | (go_at_call 85; refine HC.out.mono ?_; rintro e w1 ⟨A', c', rfl, hL, hb⟩; have HF := Lib.hid (HR.out.pushed hb hL); have R1 := (HR.out.below hb).head; have k1 := R1.cell; have f1 := R1.frozen; have z1 := R1.lt; unfold hd P at k1; unfold fnV P at HF))
  go_ret
  exact ⟨rfl, ⟨_, _, HF.out.1⟩, HF.out.2⟩
/-! ### Pop -/
theorem pop_busy (h : Reg w br bm gm u o s c F) (hy : s.po = some y) : Calls Tryd.prog 59 #[P br] w fun e w' => e = .returned (.int .i64 1) ∧ w = w' := by
  have HB := Lib.hid (busy_o_reg h)
  rw [hy] at HB
  unfold P at HB
  clear h hy
  unfold P
  go_enter Tryd.func59, Tryd.ntmps59
  go_wp2_with (go_at_call 65; refine HB.out.mono ?_; rintro e w1 ⟨rfl, rfl⟩)
  go_ret
  exact ⟨rfl, rfl⟩
theorem Reg.popped (h : Reg w br bm gm u o s c F) (hy : s.po = none) :
    Reg (putS w br 8 (fnV 90 br) (.slice none 0 0)) br bm gm u ⟨fnV 90 br, .int .i64 0, .int .i64 0, .slice none 0 0, .slice none 0 0⟩ { s with po := some ⟨0, 0, 0, []⟩ } c F ∧ Only F w (putS w br 8 (fnV 90 br) (.slice none 0 0)) := by
  have hO := putS_only w br 8 (fnV 90 br) (.slice none 0 0)
  have hp := h.po
  rw [hy] at hp
  have hp : o = zS := hp
  have e1 : Blk (putS w br 8 (fnV 90 br) (.slice none 0 0)) br 132 (hd s.D s.W bm u ⟨fnV 90 br, .int .i64 0, .int .i64 0, .slice none 0 0, .slice none 0 0⟩) :=
    ((((h.head.set_ 8 (fnV 90 br)).set_ 9 (.int .i64 0)).set_ 10 (.int .i64 0)).set_ 11 (.slice none 0 0)).set_ 12 (.slice none 0 0)
  refine ⟨⟨e1, mem_only h.mem h.head hO, h.own, ?_, ⟨rfl, rfl, rfl, rfl, Own.nil_ _ 0 3 1, fun g e => by simp [Value.ownBlock] at e⟩⟩, hO.mono fun b e => e ▸ h.own.1⟩
  exact (h.pu.only hO (fun g hg e => hg.2.1 e)).mono fun g _ hg => ⟨hg.1, hg.2.1, hg.2.2.1, hg.2.2.2.1, fun e => by simp [Value.ownBlock] at e⟩
theorem pop_ok (h : Reg w br bm gm u o s c F) (hy : s.po = none) : Calls Tryd.prog 59 #[P br] w (BPost br bm gm { s with po := some ⟨0, 0, 0, []⟩ } 0 c F w) := by
  have HB := Lib.hid (busy_o_reg h)
  rw [hy] at HB
  have HF := Lib.hid (h.popped hy)
  have k0 := h.head.cell
  have f0 := h.head.frozen
  have z0 := h.head.lt
  unfold hd P at k0
  unfold P at HB
  unfold fnV P at HF
  clear h hy
  unfold P
  go_enter Tryd.func59, Tryd.ntmps59
  go_wp2_with (go_at_call 65; refine HB.out.mono ?_; rintro e w1 ⟨rfl, rfl⟩)
  go_ret
  exact ⟨rfl, ⟨_, _, HF.out.1.mono fun _ _ hf => .inl hf⟩, HF.out.2⟩
theorem push_nil {A : Option Addr} {n cp : Nat} : Calls Tryd.prog 57 #[.pointer none, .slice A n cp] w fun e w' => e = .returned (.int .i64 3) ∧ w = w' := by
  go_enter Tryd.func57, Tryd.ntmps57
  go_wp2
  go_ret
  exact ⟨rfl, rfl⟩
theorem pop_nil : Calls Tryd.prog 59 #[.pointer none] w fun e w' => e = .returned (.int .i64 1) ∧ w = w' := by
  go_enter Tryd.func59, Tryd.ntmps59
  go_wp2
  go_ret
  exact ⟨rfl, rfl⟩
/-! ### Places, Words, Cells, Count -/
theorem places_any (h : Reg w br bm gm u o s c F) : Calls Tryd.prog 71 #[P br] w (IntPost s.D w) := by
  have k0 := h.head.cell
  clear h
  unfold hd P at k0
  unfold P
  go_enter Tryd.func71, Tryd.ntmps71
  go_wp2
  go_ret
  exact ⟨rfl, rfl⟩
theorem words_any (h : Reg w br bm gm u o s c F) : Calls Tryd.prog 70 #[P br] w (IntPost s.W w) := by
  have k0 := h.head.cell
  clear h
  unfold hd P at k0
  unfold P
  go_enter Tryd.func70, Tryd.ntmps70
  go_wp2
  go_ret
  exact ⟨rfl, rfl⟩
theorem cells_any (h : Reg w br bm gm u o s c F) (hl : s.m.length ≤ 4096) : Calls Tryd.prog 68 #[P br] w (AllPost w s.m) := by
  have k0 := h.head.cell
  have HA := Lib.hid (all_any h.mem hl)
  clear h
  unfold hd P at k0
  unfold P
  go_enter Tryd.func68, Tryd.ntmps68
  go_wp2_with (go_at_call 82; refine HA.out.mono ?_; rintro e w1 ⟨v, rfl, hv, hb⟩)
  go_ret
  exact ⟨v, rfl, hv, hb⟩
theorem places_nil : Calls Tryd.prog 71 #[.pointer none] w (IntPost 0 w) := by
  go_enter Tryd.func71, Tryd.ntmps71
  go_wp2
  go_ret
  exact ⟨rfl, rfl⟩
theorem words_nil : Calls Tryd.prog 70 #[.pointer none] w (IntPost 0 w) := by
  go_enter Tryd.func70, Tryd.ntmps70
  go_wp2
  go_ret
  exact ⟨rfl, rfl⟩
theorem cells_nil : Calls Tryd.prog 68 #[.pointer none] w fun e w' => e = .returned (.slice none 0 0) ∧ w = w' := by
  go_enter Tryd.func68, Tryd.ntmps68
  go_wp2
  go_ret
  exact ⟨rfl, rfl⟩
theorem count_nil : Calls Tryd.prog 66 #[.pointer none] w fun e w' => e = .returned (.int .i64 0) ∧ w = w' := by
  go_enter Tryd.func66, Tryd.ntmps66
  go_wp2_with (go_at_call 68; refine cells_nil.mono ?_; rintro e w1 ⟨rfl, rfl⟩)
  go_ret
  exact ⟨rfl, rfl⟩
def CntPost (n : Int) (w : World) (e : Ending) (w' : World) : Prop := e = .returned (.int .i64 n) ∧ Below w.heap.size w w'
theorem count_any (h : Reg w br bm gm u o s c F) (ok : Ok s) : Calls Tryd.prog 66 #[P br] w (CntPost (cnt s) w) := by
  have hDW := DW_bd ok
  have hlen := ok.len
  have HC := Lib.hid (cells_any h (by omega))
  have HH : Hid (∀ V, Below w.heap.size w V → Calls Tryd.prog 96 #[P br, .int .i64 (nth s.m 0), .int .i64 (nth s.m 1)] V fun e w' => e = .returned (.int .i64 (cnt s)) ∧ V = w') := fun V hV => held_any (h.head.bel hV) ⟨ok.d1, ok.d8⟩ ok.h ok.t
  have HL : Hid (2 ≤ s.m.length) := by show 2 ≤ s.m.length; omega
  clear h ok hlen hDW
  unfold CntPost
  generalize cnt s = q at *
  generalize s.m = m at *
  unfold P at HC HH ⊢
  go_enter Tryd.func66, Tryd.ntmps66
  go_wp2_with fail
  refine HC.out.mono ?_
  rintro e w1 ⟨v, rfl, hv, hb⟩
  obtain ⟨A, c1, rfl, hrow, hc1, hc2, -⟩ := Own.row hv
  have hl2 := HL.out
  obtain ⟨g, a, rfl, hg, hcell⟩ := hrow (by simp; omega)
  have d0 := hcell 0 (.int .i64 (nth m 0)) (iv'_at m (by omega))
  have d1 := hcell 1 (.int .i64 (nth m 1)) (iv'_at m (by omega))
  rw [Nat.add_zero] at d0
  have HB1 := Lib.hid hb
  have b0 : 0 < m.length := by omega
  have b1 : 1 < m.length := by omega
  clear hcell hrow hv hb
  go_wp2_with fail
  go_quiet ((go_at_call 96; exact quiet_left (HH.out _ (bn HB1.out _))))
  go_wp2
  go_ret
  exact ⟨rfl, bn HB1.out _⟩
end Go.Proofs.YtpoidnajhcjmcaaDoor.R8
