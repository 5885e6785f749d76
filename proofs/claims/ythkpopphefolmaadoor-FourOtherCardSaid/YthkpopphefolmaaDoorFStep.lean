/- A register of four slots: Left, Drop, Step. -/
import Derived.Test.YthkpopphefolmaaDoorFLift
namespace Go.Proofs.YthkpopphefolmaaDoor.F4
open Go.RowKit Go.Proofs.YthkpopphefolmaaDoor.G Go.Proofs.YthkpopphefolmaaDoor.Cell
attribute [local go_sem ↓] Go.wp_at_zero Go.wp_at_succ
set_option maxRecDepth 100000
variable {w w' : World} {br bm gm : Nat} {wa : WA} {ra : RA} {s : St} {c : Int} {F : Nat → Prop} {x : Wr} {y : Rr}

def wLeft (s : St) : Nat := match s.wr with
  | none => 0
  | some x => 4 + s.W - x.k
def rLeft (s : St) : Nat := match s.rd with
  | none => 0
  | some y => 3 + s.W - y.k
def IntPost (n : Nat) (w : World) (e : Ending) (w' : World) : Prop := e = .returned (.int .i64 (n : Int)) ∧ w = w'
theorem wpt_some (hx : s.wr = some x) : wpt s wa = .pointer (some ⟨wa.u, 0, none⟩) := by simp [wpt, hx]
theorem rpt_some (hy : s.rd = some y) : rpt s ra = .pointer (some ⟨ra.u, 0, none⟩) := by simp [rpt, hy]
theorem wpt_none (hx : s.wr = none) : wpt s wa = .pointer none := by simp [wpt, hx]
theorem rpt_none (hy : s.rd = none) : rpt s ra = .pointer none := by simp [rpt, hy]
theorem left_w (h : Reg w br bm gm wa ra s c F) : Calls Tryd.prog 63 #[P br, .bool true] w (IntPost (wLeft s) w) := by
  have HU := Lib.hid (under_w h.head)
  unfold wLeft
  cases hx : s.wr with
  | none =>
    rw [wpt_none hx] at HU
    have HX := Lib.hid hx; clear hx
    unfold P at HU ⊢
    go_enter Tryd.func63, Tryd.ntmps63
    go_wp2_with (go_at_call 105; refine HU.out.mono ?_; rintro e w1 ⟨rfl, rfl⟩)
    go_ret
    exact ⟨rfl, rfl⟩
  | some x =>
    rw [wpt_some hx] at HU
    have hr := (h.wr x hx).run
    simp only
    generalize 4 + s.W - x.k = n at *
    generalize wa.cap - x.k = cp at *
    have k0 := hr.cell
    have HX := Lib.hid hx; clear hx h
    unfold P at HU ⊢
    go_enter Tryd.func63, Tryd.ntmps63
    go_wp2_with (go_at_call 105; refine HU.out.mono ?_; rintro e w1 ⟨rfl, rfl⟩)
    go_ret
    exact ⟨rfl, rfl⟩
theorem left_r (h : Reg w br bm gm wa ra s c F) : Calls Tryd.prog 63 #[P br, .bool false] w (IntPost (rLeft s) w) := by
  have HU := Lib.hid (under_r h.head)
  unfold rLeft
  cases hx : s.rd with
  | none =>
    rw [rpt_none hx] at HU
    have HX := Lib.hid hx; clear hx
    unfold P at HU ⊢
    go_enter Tryd.func63, Tryd.ntmps63
    go_wp2_with (go_at_call 105; refine HU.out.mono ?_; rintro e w1 ⟨rfl, rfl⟩)
    go_ret
    exact ⟨rfl, rfl⟩
  | some y =>
    rw [rpt_some hx] at HU
    have hr := (h.rd y hx).run
    simp only
    generalize 3 + s.W - y.k = n at *
    generalize ra.cap - y.k = cp at *
    have k0 := hr.cell
    have HX := Lib.hid hx; clear hx h
    unfold P at HU ⊢
    go_enter Tryd.func63, Tryd.ntmps63
    go_wp2_with (go_at_call 105; refine HU.out.mono ?_; rintro e w1 ⟨rfl, rfl⟩)
    go_ret
    exact ⟨rfl, rfl⟩
theorem left_nil (b : Bool) (w : World) : Calls Tryd.prog 63 #[.pointer none, .bool b] w (IntPost 0 w) := by
  go_enter Tryd.func63, Tryd.ntmps63
  go_wp2_with (go_at_call 105; refine (under_nil b _).mono ?_; rintro e w1 ⟨rfl, rfl⟩)
  go_ret
  exact ⟨rfl, rfl⟩
theorem words_any (h : Reg w br bm gm wa ra s c F) : Calls Tryd.prog 67 #[P br] w (IntPost s.W w) := by
  have k0 := h.head.cell
  clear h
  unfold P at k0 ⊢
  go_enter Tryd.func67, Tryd.ntmps67
  go_wp2
  go_ret
  exact ⟨rfl, rfl⟩
theorem words_nil (w : World) : Calls Tryd.prog 67 #[.pointer none] w (IntPost 0 w) := by
  go_enter Tryd.func67, Tryd.ntmps67
  go_wp2
  go_ret
  exact ⟨rfl, rfl⟩
theorem cells_any (h : Reg w br bm gm wa ra s c F) (ok : Ok s) : Calls Tryd.prog 65 #[P br] w (AllPost w s.m) := by
  have k0 := h.head.cell
  have HA := Lib.hid (all_any h.mem (by have := ok.len; have := ok.w6; omega))
  clear h
  unfold P at k0 ⊢
  go_enter Tryd.func65, Tryd.ntmps65
  go_wp2_with (go_at_call 33; refine HA.out.mono ?_; rintro e w1 ⟨v, rfl, hv, hb⟩)
  go_ret
  exact ⟨v, rfl, hv, hb⟩
theorem cells_nil (w : World) : Calls Tryd.prog 65 #[.pointer none] w fun e w' => e = .returned (.slice none 0 0) ∧ w = w' := by
  go_enter Tryd.func65, Tryd.ntmps65
  go_wp2
  go_ret
  exact ⟨rfl, rfl⟩
/-! ### Drop -/
theorem drop_w (h : Reg w br bm gm wa ra s c F) : Calls Tryd.prog 62 #[P br, .bool true] w fun e w' => e = .returned (.bool s.wr.isSome) ∧ Reg w' br bm gm wa ra { s with wr := none } c F ∧ Only F w w' := by
  have HU := Lib.hid (under_w h.head)
  have k0 := h.head.cell
  have f0 := h.head.frozen
  cases hx : s.wr with
  | none =>
    rw [wpt_none hx] at HU
    have hs : ({ s with wr := none } : St) = s := by rw [← hx]
    have HR : Hid (Reg w br bm gm wa ra { s with wr := none } c F) := by show Reg w br bm gm wa ra { s with wr := none } c F; rw [hs]; exact h
    clear hx h hs
    unfold P at HU k0 ⊢
    go_enter Tryd.func62, Tryd.ntmps62
    go_wp2_with (go_at_call 105; refine HU.out.mono ?_; rintro e w1 ⟨rfl, rfl⟩)
    go_ret
    exact ⟨rfl, HR.out, .refl _ _⟩
  | some x =>
    rw [wpt_some hx] at HU
    rw [wpt_some hx] at k0
    have HR := Lib.hid h.wnone
    have HO : Hid (Only F w (w.setCell ⟨br, 2, none⟩ (.pointer none))) := (Only.refl F w).set_ h.own.1 2 _
    clear hx h
    unfold P at HU k0 ⊢
    go_enter Tryd.func62, Tryd.ntmps62
    go_wp2_with (go_at_call 105; refine HU.out.mono ?_; rintro e w1 ⟨rfl, rfl⟩)
    go_ret
    exact ⟨rfl, HR.out, HO.out⟩
theorem drop_r (h : Reg w br bm gm wa ra s c F) : Calls Tryd.prog 62 #[P br, .bool false] w fun e w' => e = .returned (.bool s.rd.isSome) ∧ Reg w' br bm gm wa ra { s with rd := none } c F ∧ Only F w w' := by
  have HU := Lib.hid (under_r h.head)
  have k0 := h.head.cell
  have f0 := h.head.frozen
  cases hx : s.rd with
  | none =>
    rw [rpt_none hx] at HU
    have hs : ({ s with rd := none } : St) = s := by rw [← hx]
    have HR : Hid (Reg w br bm gm wa ra { s with rd := none } c F) := by show Reg w br bm gm wa ra { s with rd := none } c F; rw [hs]; exact h
    clear hx h hs
    unfold P at HU k0 ⊢
    go_enter Tryd.func62, Tryd.ntmps62
    go_wp2_with (go_at_call 105; refine HU.out.mono ?_; rintro e w1 ⟨rfl, rfl⟩)
    go_ret
    exact ⟨rfl, HR.out, .refl _ _⟩
  | some x =>
    rw [rpt_some hx] at HU
    rw [rpt_some hx] at k0
    have HR := Lib.hid h.rnone
    have HO : Hid (Only F w (w.setCell ⟨br, 3, none⟩ (.pointer none))) := (Only.refl F w).set_ h.own.1 3 _
    clear hx h
    unfold P at HU k0 ⊢
    go_enter Tryd.func62, Tryd.ntmps62
    go_wp2_with (go_at_call 105; refine HU.out.mono ?_; rintro e w1 ⟨rfl, rfl⟩)
    go_ret
    exact ⟨rfl, HR.out, HO.out⟩
theorem drop_nil (b : Bool) (w : World) : Calls Tryd.prog 62 #[.pointer none, .bool b] w fun e w' => e = .returned (.bool false) ∧ w = w' := by
  go_enter Tryd.func62, Tryd.ntmps62
  go_wp2_with (go_at_call 105; refine (under_nil b _).mono ?_; rintro e w1 ⟨rfl, rfl⟩)
  go_ret
  exact ⟨rfl, rfl⟩
end Go.Proofs.YthkpopphefolmaaDoor.F4
