/- A register of four slots: Step. -/
import Derived.Test.YthkpopphefolmaaDoorFStep
namespace Go.Proofs.YthkpopphefolmaaDoor.F4
open Go.RowKit Go.Proofs.YthkpopphefolmaaDoor.G Go.Proofs.YthkpopphefolmaaDoor.Cell
attribute [local go_sem ↓] Go.wp_at_zero Go.wp_at_succ
set_option maxRecDepth 100000
variable {w w' : World} {br bm gm : Nat} {wa : WA} {ra : RA} {s : St} {c : Int} {F : Nat → Prop} {x : Wr} {y : Rr}

theorem wDo_at (hx : s.wr = some x) : (wDo s x).W = s.W ∧ ∃ x', (wDo s x).wr = some x' ∧ x'.k = x.k := by
  unfold wDo
  split
  · exact ⟨rfl, _, rfl, rfl⟩
  split
  · exact ⟨rfl, _, rfl, rfl⟩
  split
  · exact ⟨rfl, x, hx, rfl⟩
  split
  · exact ⟨rfl, x, hx, rfl⟩
  · exact ⟨rfl, x, hx, rfl⟩
theorem rDo_at (hy : s.rd = some y) : (rDo s y).W = s.W ∧ ∃ y', (rDo s y).rd = some y' ∧ y'.k = y.k := by
  unfold rDo
  split
  · exact ⟨rfl, _, rfl, rfl⟩
  split
  · exact ⟨rfl, y, hy, rfl⟩
  split
  · exact ⟨rfl, _, rfl, rfl⟩
  · exact ⟨rfl, _, rfl, rfl⟩
theorem step_w (h : Reg w br bm gm wa ra s c F) (ok : Ok s) (hx : s.wr = some x) (hk : x.k ≤ 2 + s.W) (c0 : 0 ≤ c) (c1 : c ≤ 1099511627776) :
    Calls Tryd.prog 60 #[P br, .bool true] w fun e w' => e = .returned (.tuple #[.slice none 0 0, .bool false, .int .i64 0]) ∧ Reg w' br bm gm wa ra (wNext s x) (c + 1) F ∧ Only F w w' := by
  obtain ⟨K, caps, hK, hCF, HK⟩ := wacc h ok hx c0 c1
  have HU := Lib.hid (under_w h.head)
  rw [wpt_some hx] at HU
  have hL : wLeft s = 4 + s.W - x.k := by simp [wLeft, hx]
  have HL := Lib.hid (left_w h)
  rw [hL] at HL
  have hw := h.wr x hx
  obtain ⟨o1, o2, o3⟩ := h.wo (by rw [hx]; simp)
  have hcap := o1.cap
  have hcap2 := o1.cap2
  obtain ⟨cs, hrow, hcs⟩ := hw.row
  have hrow := (hrow.cell x.k).trans (hcs x.k (by omega))
  rw [hK] at hrow
  have k0 := hw.run.cell
  have HN : Hid (wNext s x = wAdv (wDo s x)) := wNext_adv hx hk
  have HKK := Lib.hid HK
  have hWD := wDo_at hx
  have HU2 : Hid (F wa.u) := o3 _ o1.u.1 o1.u.2
  have HUN : Hid (wa.u ≠ br) := (h.ne_w hx o1.u.1).1
  have fin : ∀ w1, Reg w1 br bm gm wa ra (wDo s x) (c + 1) F → Only F w w1 → (∀ i, w1.cell? ⟨wa.u, i, none⟩ = (#[.slice (some ⟨wa.L, x.k, none⟩) (4 + s.W - x.k) (wa.cap - x.k), .slice none 0 0] : Array Value)[i]?) ∧ (∀ i, w1.frozen? ⟨wa.u, i, none⟩ = false) ∧
      Reg (w1.setCell ⟨wa.u, 0, none⟩ (.slice (some ⟨wa.L, x.k + 1, none⟩) (4 + s.W - (x.k + 1)) (wa.cap - (x.k + 1)))) br bm gm wa ra (wNext s x) (c + 1) F ∧ Only F w (w1.setCell ⟨wa.u, 0, none⟩ (.slice (some ⟨wa.L, x.k + 1, none⟩) (4 + s.W - (x.k + 1)) (wa.cap - (x.k + 1)))) := by
    intro w1 h1 hO
    obtain ⟨eW, x', ex, ek⟩ := hWD
    have hr := (h1.wr x' ex).run
    rw [eW, ek] at hr
    refine ⟨hr.cell, hr.frozen, ?_, hO.set_ HU2.out 0 _⟩
    rw [HN.out]
    refine h1.wadv ex ?_ (Only.set_ (F := fun b => b = wa.u) (Only.refl _ _) rfl 0 _)
    rw [eW, ek]
    exact hr.set_ 0 _
  have FIN := Lib.hid fin
  clear fin hWD hcs hK HK hL hx ok h o1 o2 o3 hw
  have n2 : 2 ≤ 4 + s.W - x.k := by omega
  have ncp : 4 + s.W - x.k ≤ wa.cap - x.k := by omega
  have cp2 : wa.cap - x.k ≤ 9223372036854775807 := by omega
  have en : 4 + s.W - (x.k + 1) = 4 + s.W - x.k - 1 := by omega
  have ec : wa.cap - (x.k + 1) = wa.cap - x.k - 1 := by omega
  rw [en, ec] at FIN
  clear en ec hk hcap hcap2
  generalize 4 + s.W - x.k = n at *
  generalize wa.cap - x.k = cp at *
  have t0 : ((n : Int) == 0) = false := by rw [beq_eq_false_iff_ne]; omega
  have t1 : ((n : Int) == 1) = false := by rw [beq_eq_false_iff_ne]; omega
  unfold P at HU HL ⊢
  go_enter_defers Tryd.func60, Tryd.ntmps60
  go_wp2_with (first
    | (go_at_call 105; refine HU.out.mono ?_; rintro e w1 ⟨rfl, rfl⟩)
    | (go_at_call 63; refine HL.out.mono ?_; rintro e w1 ⟨rfl, rfl⟩))
  refine HKK.out.mono ?_
  rintro e w1 ⟨rfl, h1, hO⟩
  obtain ⟨k1, f1, r1, r2⟩ := FIN.out w1 h1 hO
  have R := Lib.hid (And.intro r1 r2)
  clear r1 r2 h1 hO
  go_wp2_with fail
  exact ⟨.tuple #[.slice none 0 0, .bool false, .int .i64 0], by simp [results, Tryd.results60, go_sem], rfl, R.out.1, R.out.2⟩
theorem drop_wd {W : Nat} {u1 : Nat} {u2 : Value} (h : Blk w br 153 #[.int .i64 W, P bm, .pointer (some ⟨u1, 0, none⟩), u2]) (u : FrameMode) : CallsD Tryd.prog 62 #[P br, .bool true] u w fun e u' w' => u' = u ∧ (∃ v, e = .returned v) ∧ w' = w.setCell ⟨br, 2, none⟩ (.pointer none) := by
  have HU := Lib.hid (under_w h)
  have k0 := h.cell
  have f0 := h.frozen
  clear h
  unfold P at HU k0 ⊢
  go_enter_d Tryd.func62, Tryd.ntmps62
  go_wp2_with (go_at_call 105; refine HU.out.mono ?_; rintro e w1 ⟨rfl, rfl⟩)
  go_ret
  exact ⟨⟨_, rfl⟩, rfl⟩
theorem drop_rd {W : Nat} {u1 : Nat} {u2 : Value} (h : Blk w br 153 #[.int .i64 W, P bm, u2, .pointer (some ⟨u1, 0, none⟩)]) (u : FrameMode) : CallsD Tryd.prog 62 #[P br, .bool false] u w fun e u' w' => u' = u ∧ (∃ v, e = .returned v) ∧ w' = w.setCell ⟨br, 3, none⟩ (.pointer none) := by
  have HU := Lib.hid (under_r h)
  have k0 := h.cell
  have f0 := h.frozen
  clear h
  unfold P at HU k0 ⊢
  go_enter_d Tryd.func62, Tryd.ntmps62
  go_wp2_with (go_at_call 105; refine HU.out.mono ?_; rintro e w1 ⟨rfl, rfl⟩)
  go_ret
  exact ⟨⟨_, rfl⟩, rfl⟩
theorem Reg.wend (h : Reg w br bm gm wa ra s c F) (hx : s.wr = some x) (v : Value) : Blk (w.setCell ⟨wa.u, 0, none⟩ v) br 153 #[.int .i64 s.W, P bm, .pointer (some ⟨wa.u, 0, none⟩), rpt s ra] ∧
    Reg ((w.setCell ⟨wa.u, 0, none⟩ v).setCell ⟨br, 2, none⟩ (.pointer none)) br bm gm wa ra { s with wr := none } c F ∧ Only F w ((w.setCell ⟨wa.u, 0, none⟩ v).setCell ⟨br, 2, none⟩ (.pointer none)) := by
  obtain ⟨o1, o2, o3⟩ := h.wo (by rw [hx]; simp)
  have hun := h.ne_w hx o1.u.1
  have hlt := h.lt
  have hh : Blk (w.setCell ⟨wa.u, 0, none⟩ v) br 153 #[.int .i64 s.W, P bm, .pointer (some ⟨wa.u, 0, none⟩), rpt s ra] := by
    have := h.head.far (p := ⟨wa.u, 0, none⟩) (Ne.symm hun.1) v
    rwa [wpt_some hx] at this
  have hO : Only F w ((w.setCell ⟨wa.u, 0, none⟩ v).setCell ⟨br, 2, none⟩ (.pointer none)) := ((Only.refl F w).set_ (o3 _ o1.u.1 o1.u.2) 0 v).set_ h.own.1 2 _
  refine ⟨hh, h.w_ rfl rfl (fun e => absurd rfl e) (hh.set_ 2 (.pointer none)) ⟨(h.mem.head.far (p := ⟨wa.u, 0, none⟩) (Ne.symm hun.2.1) v).far (p := ⟨br, 2, none⟩) (by show bm ≠ br; omega) _, (h.mem.words.far (p := ⟨wa.u, 0, none⟩) (Ne.symm hun.2.2) v).far (p := ⟨br, 2, none⟩) (by show gm ≠ br; omega) _⟩ (fun z e => (by cases e)) (fun b h0 h1 h2 h3 h4 => ?_), hO⟩
  rw [Below.heap_setCell _ ⟨br, 2, none⟩ _ _ h1, Below.heap_setCell _ ⟨wa.u, 0, none⟩ _ _ (fun e => h4 (by rw [show b = wa.u from e]; exact ⟨o1.u.1, o1.u.2, by rw [hx]; simp⟩))]
theorem Reg.rend (h : Reg w br bm gm wa ra s c F) (hy : s.rd = some y) (v : Value) : Blk (w.setCell ⟨ra.u, 0, none⟩ v) br 153 #[.int .i64 s.W, P bm, wpt s wa, .pointer (some ⟨ra.u, 0, none⟩)] ∧
    Reg ((w.setCell ⟨ra.u, 0, none⟩ v).setCell ⟨br, 3, none⟩ (.pointer none)) br bm gm wa ra { s with rd := none } c F ∧ Only F w ((w.setCell ⟨ra.u, 0, none⟩ v).setCell ⟨br, 3, none⟩ (.pointer none)) ∧
    Blk ((w.setCell ⟨ra.u, 0, none⟩ v).setCell ⟨br, 3, none⟩ (.pointer none)) ra.t 3 (ints y.t) := by
  obtain ⟨o1, o2, o3⟩ := h.ro (by rw [hy]; simp)
  have hun := h.ne_r hy o1.u.1
  have htn := h.ne_r hy o1.t.1
  have hlt := h.lt
  have hr := h.rd y hy
  have hh : Blk (w.setCell ⟨ra.u, 0, none⟩ v) br 153 #[.int .i64 s.W, P bm, wpt s wa, .pointer (some ⟨ra.u, 0, none⟩)] := by
    have := h.head.far (p := ⟨ra.u, 0, none⟩) (Ne.symm hun.1) v
    rwa [rpt_some hy] at this
  have hO : Only F w ((w.setCell ⟨ra.u, 0, none⟩ v).setCell ⟨br, 3, none⟩ (.pointer none)) := ((Only.refl F w).set_ (o3 _ o1.u.1 o1.u.2) 0 v).set_ h.own.1 3 _
  refine ⟨hh, h.r_ rfl rfl (fun e => absurd rfl e) (hh.set_ 3 (.pointer none)) ⟨(h.mem.head.far (p := ⟨ra.u, 0, none⟩) (Ne.symm hun.2.1) v).far (p := ⟨br, 3, none⟩) (by show bm ≠ br; omega) _, (h.mem.words.far (p := ⟨ra.u, 0, none⟩) (Ne.symm hun.2.2) v).far (p := ⟨br, 3, none⟩) (by show gm ≠ br; omega) _⟩ (fun z e => (by cases e)) (fun b h0 h1 h2 h3 h4 => ?_), hO, (hr.t.far (p := ⟨ra.u, 0, none⟩) (hr.t.ne_ hr.run (by decide)) v).far (p := ⟨br, 3, none⟩) htn.1 _⟩
  rw [Below.heap_setCell _ ⟨br, 3, none⟩ _ _ h1, Below.heap_setCell _ ⟨ra.u, 0, none⟩ _ _ (fun e => h4 (by rw [show b = ra.u from e]; exact ⟨o1.u.1, o1.u.2, by rw [hy]; simp⟩))]
theorem step_wl (h : Reg w br bm gm wa ra s c F) (ok : Ok s) (hx : s.wr = some x) (hk : x.k = 3 + s.W) (c0 : 0 ≤ c) (c1 : c ≤ 1099511627776) :
    Calls Tryd.prog 60 #[P br, .bool true] w fun e w' => e = .returned (.tuple #[.slice none 0 0, .bool true, .int .i64 0]) ∧ Reg w' br bm gm wa ra (wNext s x) (c + 1) F ∧ Only F w w' := by
  obtain ⟨K, caps, hK, hCF, HK⟩ := wacc h ok hx c0 c1
  have HU := Lib.hid (under_w h.head)
  rw [wpt_some hx] at HU
  have hL : wLeft s = 1 := by simp [wLeft, hx]; omega
  have HL := Lib.hid (left_w h)
  rw [hL] at HL
  have hw := h.wr x hx
  obtain ⟨o1, o2, o3⟩ := h.wo (by rw [hx]; simp)
  have hcap := o1.cap
  have hcap2 := o1.cap2
  obtain ⟨cs, hrow, hcs⟩ := hw.row
  have hrow := (hrow.cell x.k).trans (hcs x.k (by omega))
  rw [hK] at hrow
  have hr0 := hw.run
  have e1 : 4 + s.W - x.k = 1 := by omega
  rw [e1] at hr0
  have k0 := hr0.cell
  have HN : Hid (wNext s x = { wDo s x with wr := none }) := wNext_last hk
  have HKK := Lib.hid HK
  have hWD := wDo_at hx
  have fin : ∀ w1, Reg w1 br bm gm wa ra (wDo s x) (c + 1) F → Only F w w1 → (∀ i, w1.cell? ⟨wa.u, i, none⟩ = (#[.slice (some ⟨wa.L, x.k, none⟩) 1 (wa.cap - x.k), .slice none 0 0] : Array Value)[i]?) ∧ (∀ i, w1.frozen? ⟨wa.u, i, none⟩ = false) ∧
      ∀ v, (∃ u2, Blk (w1.setCell ⟨wa.u, 0, none⟩ v) br 153 #[.int .i64 (wDo s x).W, P bm, .pointer (some ⟨wa.u, 0, none⟩), u2]) ∧ Reg ((w1.setCell ⟨wa.u, 0, none⟩ v).setCell ⟨br, 2, none⟩ (.pointer none)) br bm gm wa ra (wNext s x) (c + 1) F ∧ Only F w ((w1.setCell ⟨wa.u, 0, none⟩ v).setCell ⟨br, 2, none⟩ (.pointer none)) := by
    intro w1 h1 hO
    obtain ⟨eW, x', ex, ek⟩ := hWD
    have hr := (h1.wr x' ex).run
    rw [eW, ek, e1] at hr
    refine ⟨hr.cell, hr.frozen, fun v => ?_⟩
    obtain ⟨a1, a2, a3⟩ := h1.wend ex v
    rw [HN.out]
    exact ⟨⟨_, a1⟩, a2, hO.trans_ a3⟩
  have FIN := Lib.hid fin
  clear fin hWD hcs hK HK hL hx ok h o1 o2 o3 hw hr0
  have ncp : 1 ≤ wa.cap - x.k := by omega
  have cp2 : wa.cap - x.k ≤ 9223372036854775807 := by omega
  clear e1 hk hcap hcap2
  generalize wa.cap - x.k = cp at *
  unfold P at HU HL ⊢
  rcases Nat.lt_or_ge 1 cp with hcp | hcp
  · go_enter_defers Tryd.func60, Tryd.ntmps60
    go_wp2_with (first
      | (go_at_call 105; refine HU.out.mono ?_; rintro e w1 ⟨rfl, rfl⟩)
      | (go_at_call 63; refine HL.out.mono ?_; rintro e w1 ⟨rfl, rfl⟩))
    refine HKK.out.mono ?_
    rintro e w1 ⟨rfl, h1, hO⟩
    obtain ⟨k1, f1, r1⟩ := FIN.out w1 h1 hO
    have R := Lib.hid r1
    clear r1 h1 hO
    go_wp2_with fail
    refine leaves_cons (f := 62) (args := #[.pointer (some ⟨br, 0, none⟩), .bool true]) (by simp) (by simp [go_sem]) ?_
    obtain ⟨⟨u2, a1⟩, a2, a3⟩ := R.out _
    refine (drop_wd a1 .returning).mono ?_
    rintro e u' w2 ⟨rfl, ⟨v, rfl⟩, rfl⟩
    exact ⟨.tuple #[.slice none 0 0, .bool true, .int .i64 0], by simp [results, Tryd.results60, go_sem], rfl, a2, a3⟩
  · obtain rfl : cp = 1 := by omega
    clear hcp
    go_enter_defers Tryd.func60, Tryd.ntmps60
    go_wp2_with (first
      | (go_at_call 105; refine HU.out.mono ?_; rintro e w1 ⟨rfl, rfl⟩)
      | (go_at_call 63; refine HL.out.mono ?_; rintro e w1 ⟨rfl, rfl⟩))
    refine HKK.out.mono ?_
    rintro e w1 ⟨rfl, h1, hO⟩
    obtain ⟨k1, f1, r1⟩ := FIN.out w1 h1 hO
    have R := Lib.hid r1
    clear r1 h1 hO
    go_wp2_with fail
    refine leaves_cons (f := 62) (args := #[.pointer (some ⟨br, 0, none⟩), .bool true]) (by simp) (by simp [go_sem]) ?_
    obtain ⟨⟨u2, a1⟩, a2, a3⟩ := R.out _
    refine (drop_wd a1 .returning).mono ?_
    rintro e u' w2 ⟨rfl, ⟨v, rfl⟩, rfl⟩
    exact ⟨.tuple #[.slice none 0 0, .bool true, .int .i64 0], by simp [results, Tryd.results60, go_sem], rfl, a2, a3⟩
end Go.Proofs.YthkpopphefolmaaDoor.F4
