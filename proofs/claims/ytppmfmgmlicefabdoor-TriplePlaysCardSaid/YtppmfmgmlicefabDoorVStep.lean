/- A register of three slots: Busy, Own, Words, Cells, Drop, and a step of each side. -/
import Derived.Test.YtppmfmgmlicefabDoorVAcc2
namespace Go.Proofs.YtppmfmgmlicefabDoor.T3
open Go.RowKit Go.Proofs.YtppmfmgmlicefabDoor.G Go.Proofs.YtppmfmgmlicefabDoor.Cell
attribute [local go_sem ↓] Go.wp_at_zero Go.wp_at_succ
set_option maxRecDepth 100000
variable {w w' : World} {br bm gm : Nat} {wa : WA} {ra : RA} {s : St} {c : Int} {F : Nat → Prop} {x : Wr} {y : Rr}

theorem Reg.hd_ (h : Reg w br bm gm wa ra s c F) : Blk w br 109 #[.int .i64 s.W, P bm, .int .i64 s.b, .int .i64 s.f, wpt s wa, rpt s ra] := h.head
theorem busy_w (h : Reg w br bm gm wa ra s c F) : Calls Tryd.prog 40 #[P br, .bool true] w (BoolPost s.wr.isSome w) := by
  have hh := h.hd_
  cases hx : s.wr with
  | none =>
    rw [wpt_none hx] at hh
    have k0 := hh.cell
    clear h hh hx
    unfold P at k0 ⊢
    go_enter Tryd.func40, Tryd.ntmps40
    go_wp2
    go_ret
    exact ⟨rfl, rfl⟩
  | some x =>
    rw [wpt_some hx] at hh
    have k0 := hh.cell
    clear h hh hx
    unfold P at k0 ⊢
    go_enter Tryd.func40, Tryd.ntmps40
    go_wp2
    go_ret
    exact ⟨rfl, rfl⟩
theorem busy_r (h : Reg w br bm gm wa ra s c F) : Calls Tryd.prog 40 #[P br, .bool false] w (BoolPost s.rd.isSome w) := by
  have hh := h.hd_
  cases hx : s.rd with
  | none =>
    rw [rpt_none hx] at hh
    have k0 := hh.cell
    clear h hh hx
    unfold P at k0 ⊢
    go_enter Tryd.func40, Tryd.ntmps40
    go_wp2
    go_ret
    exact ⟨rfl, rfl⟩
  | some x =>
    rw [rpt_some hx] at hh
    have k0 := hh.cell
    clear h hh hx
    unfold P at k0 ⊢
    go_enter Tryd.func40, Tryd.ntmps40
    go_wp2
    go_ret
    exact ⟨rfl, rfl⟩
theorem busy_nil (b : Bool) (w : World) : Calls Tryd.prog 40 #[.pointer none, .bool b] w (BoolPost false w) := by
  go_enter Tryd.func40, Tryd.ntmps40
  go_wp2
  go_ret
  exact ⟨rfl, rfl⟩
theorem own_w (h : Reg w br bm gm wa ra s c F) : Calls Tryd.prog 41 #[P br, .bool true] w (IntPost s.b w) := by
  have k0 := h.hd_.cell
  clear h
  unfold P at k0 ⊢
  go_enter Tryd.func41, Tryd.ntmps41
  go_wp2
  go_ret
  exact ⟨rfl, rfl⟩
theorem own_r (h : Reg w br bm gm wa ra s c F) : Calls Tryd.prog 41 #[P br, .bool false] w (IntPost s.f w) := by
  have k0 := h.hd_.cell
  clear h
  unfold P at k0 ⊢
  go_enter Tryd.func41, Tryd.ntmps41
  go_wp2
  go_ret
  exact ⟨rfl, rfl⟩
theorem own_nil (b : Bool) (w : World) : Calls Tryd.prog 41 #[.pointer none, .bool b] w (IntPost 0 w) := by
  go_enter Tryd.func41, Tryd.ntmps41
  go_wp2
  go_ret
  exact ⟨rfl, rfl⟩
theorem words_any (h : Reg w br bm gm wa ra s c F) : Calls Tryd.prog 44 #[P br] w (IntPost s.W w) := by
  have k0 := h.hd_.cell
  clear h
  unfold P at k0 ⊢
  go_enter Tryd.func44, Tryd.ntmps44
  go_wp2
  go_ret
  exact ⟨rfl, rfl⟩
theorem words_nil (w : World) : Calls Tryd.prog 44 #[.pointer none] w (IntPost 0 w) := by
  go_enter Tryd.func44, Tryd.ntmps44
  go_wp2
  go_ret
  exact ⟨rfl, rfl⟩
theorem cells_any (h : Reg w br bm gm wa ra s c F) (ok : Ok s) : Calls Tryd.prog 42 #[P br] w (AllPost w s.m) := by
  have k0 := h.hd_.cell
  have HA := Lib.hid (all_any h.mem (by have := ok.len; have := ok.w6; omega))
  clear h
  unfold P at k0 ⊢
  go_enter Tryd.func42, Tryd.ntmps42
  go_wp2_with (go_at_call 75; refine HA.out.mono ?_; rintro e w1 ⟨v, rfl, hv, hb⟩)
  go_ret
  exact ⟨v, rfl, hv, hb⟩
theorem cells_nil (w : World) : Calls Tryd.prog 42 #[.pointer none] w fun e w' => e = .returned (.slice none 0 0) ∧ w = w' := by
  go_enter Tryd.func42, Tryd.ntmps42
  go_wp2
  go_ret
  exact ⟨rfl, rfl⟩
/-- What is under way is over. -/
theorem Reg.wnone (h : Reg w br bm gm wa ra s c F) : Reg (w.setCell ⟨br, 4, none⟩ (.pointer none)) br bm gm wa ra { s with wr := none } c F := by
  obtain ⟨n1, n2, n3⟩ := h.offm
  have hO : Only (fun b => b = br) w (w.setCell ⟨br, 4, none⟩ (.pointer none)) := Only.set_ (F := fun b => b = br) (Only.refl _ _) rfl 4 _
  exact h.new_ rfl (fun e => absurd rfl e) id (h.hd_.set_ 4 (.pointer none)) ⟨h.mem.head.far (p := ⟨br, 4, none⟩) (Ne.symm n1) _, h.mem.words.far (p := ⟨br, 4, none⟩) (Ne.symm n2) _⟩ (fun z e => (by cases e)) (fun z e => (h.rd z e).only hO (h.offr e).1 (h.offr e).2.2.2.1)
theorem Reg.rnone (h : Reg w br bm gm wa ra s c F) : Reg (w.setCell ⟨br, 5, none⟩ (.pointer none)) br bm gm wa ra { s with rd := none } c F := by
  obtain ⟨n1, n2, n3⟩ := h.offm
  have hO : Only (fun b => b = br) w (w.setCell ⟨br, 5, none⟩ (.pointer none)) := Only.set_ (F := fun b => b = br) (Only.refl _ _) rfl 5 _
  exact h.new_ rfl id (fun e => absurd rfl e) (h.hd_.set_ 5 (.pointer none)) ⟨h.mem.head.far (p := ⟨br, 5, none⟩) (Ne.symm n1) _, h.mem.words.far (p := ⟨br, 5, none⟩) (Ne.symm n2) _⟩ (fun z e => (h.wr z e).only hO (h.offw e).1 (h.offw e).2.2.2.1) (fun z e => (by cases e))
theorem drop_w (h : Reg w br bm gm wa ra s c F) : Calls Tryd.prog 39 #[P br, .bool true] w fun e w' => e = .returned (.bool s.wr.isSome) ∧ Reg w' br bm gm wa ra { s with wr := none } c F ∧ Only F w w' := by
  have HB := Lib.hid (busy_w h)
  have k0 := h.hd_.cell
  have f0 := h.hd_.frozen
  have HR := Lib.hid h.wnone
  have HO : Hid (Only F w (w.setCell ⟨br, 4, none⟩ (.pointer none))) := (Only.refl F w).set_ h.own.1 4 _
  cases hx : s.wr with
  | none =>
    rw [hx] at HB
    have hs : ({ s with wr := none } : St) = s := by rw [← hx]
    rw [hs]
    have HR := Lib.hid h
    clear hx h hs
    unfold P at HB k0 ⊢
    go_enter Tryd.func39, Tryd.ntmps39
    go_wp2_with (go_at_call 40; refine HB.out.mono ?_; rintro e w1 ⟨rfl, rfl⟩)
    go_ret
    exact ⟨rfl, HR.out, .refl _ _⟩
  | some x =>
    rw [hx] at HB
    clear hx h
    unfold P at HB k0 ⊢
    go_enter Tryd.func39, Tryd.ntmps39
    go_wp2_with (go_at_call 40; refine HB.out.mono ?_; rintro e w1 ⟨rfl, rfl⟩)
    go_ret
    exact ⟨rfl, HR.out, HO.out⟩
theorem drop_r (h : Reg w br bm gm wa ra s c F) : Calls Tryd.prog 39 #[P br, .bool false] w fun e w' => e = .returned (.bool s.rd.isSome) ∧ Reg w' br bm gm wa ra { s with rd := none } c F ∧ Only F w w' := by
  have HB := Lib.hid (busy_r h)
  have k0 := h.hd_.cell
  have f0 := h.hd_.frozen
  have HR := Lib.hid h.rnone
  have HO : Hid (Only F w (w.setCell ⟨br, 5, none⟩ (.pointer none))) := (Only.refl F w).set_ h.own.1 5 _
  cases hx : s.rd with
  | none =>
    rw [hx] at HB
    have hs : ({ s with rd := none } : St) = s := by rw [← hx]
    rw [hs]
    have HR := Lib.hid h
    clear hx h hs
    unfold P at HB k0 ⊢
    go_enter Tryd.func39, Tryd.ntmps39
    go_wp2_with (go_at_call 40; refine HB.out.mono ?_; rintro e w1 ⟨rfl, rfl⟩)
    go_ret
    exact ⟨rfl, HR.out, .refl _ _⟩
  | some x =>
    rw [hx] at HB
    clear hx h
    unfold P at HB k0 ⊢
    go_enter Tryd.func39, Tryd.ntmps39
    go_wp2_with (go_at_call 40; refine HB.out.mono ?_; rintro e w1 ⟨rfl, rfl⟩)
    go_ret
    exact ⟨rfl, HR.out, HO.out⟩
theorem drop_nil (b : Bool) (w : World) : Calls Tryd.prog 39 #[.pointer none, .bool b] w fun e w' => e = .returned (.bool false) ∧ w = w' := by
  go_enter Tryd.func39, Tryd.ntmps39
  go_wp2_with (go_at_call 40; refine (busy_nil b _).mono ?_; rintro e w1 ⟨rfl, rfl⟩)
  go_ret
  exact ⟨rfl, rfl⟩
theorem step_nil (b : Bool) (w : World) : Calls Tryd.prog 37 #[.pointer none, .bool b] w fun e w' => e = .returned (.tuple #[.slice none 0 0, .bool false, .int .i64 2]) ∧ w = w' := by
  go_enter Tryd.func37, Tryd.ntmps37
  go_wp2_with (go_at_call 40; refine (busy_nil b _).mono ?_; rintro e w1 ⟨rfl, rfl⟩)
  go_ret3
  exact ⟨rfl, rfl⟩
theorem read_nil (w : World) : Calls Tryd.prog 35 #[.pointer none] w fun e w' => e = .returned (.int .i64 1) ∧ w = w' := by
  go_enter Tryd.func35, Tryd.ntmps35
  go_wp2
  go_ret
  exact ⟨rfl, rfl⟩
theorem write_nil (v : Value) (w : World) : Calls Tryd.prog 33 #[.pointer none, v] w fun e w' => e = .returned (.int .i64 3) ∧ w = w' := by
  go_enter Tryd.func33, Tryd.ntmps33
  go_wp2
  go_ret
  exact ⟨rfl, rfl⟩
end Go.Proofs.YtppmfmgmlicefabDoor.T3
