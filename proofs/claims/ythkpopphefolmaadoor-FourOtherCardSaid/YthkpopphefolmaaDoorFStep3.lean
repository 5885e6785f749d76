/- A register of four slots: Step of the reader, and where none is under way. -/
import Derived.Test.YthkpopphefolmaaDoorFStep2
namespace Go.Proofs.YthkpopphefolmaaDoor.F4
open Go.RowKit Go.Proofs.YthkpopphefolmaaDoor.G Go.Proofs.YthkpopphefolmaaDoor.Cell
attribute [local go_sem ↓] Go.wp_at_zero Go.wp_at_succ
set_option maxRecDepth 100000
variable {w w' : World} {br bm gm : Nat} {wa : WA} {ra : RA} {s : St} {c : Int} {F : Nat → Prop} {x : Wr} {y : Rr}

theorem rDo_last (hk : 3 ≤ y.k) : (rDo s y).rd = some { y with t := rTold s y } := by
  unfold rDo
  rw [if_neg (by omega), if_neg (by omega), if_neg (by omega)]
theorem step_r (h : Reg w br bm gm wa ra s c F) (ok : Ok s) (hy : s.rd = some y) (hk : y.k < 2 + s.W) (c0 : 0 ≤ c) (c1 : c ≤ 1099511627776) :
    Calls Tryd.prog 60 #[P br, .bool false] w fun e w' => e = .returned (.tuple #[.slice none 0 0, .bool false, .int .i64 0]) ∧ Reg w' br bm gm wa ra (rNext s y) (c + 1) F ∧ Only F w w' := by
  obtain ⟨K, caps, hK, hCF, HK⟩ := racc h ok hy c0 c1
  have HU := Lib.hid (under_r h.head)
  rw [rpt_some hy] at HU
  have hL : rLeft s = 3 + s.W - y.k := by simp [rLeft, hy]
  have HL := Lib.hid (left_r h)
  rw [hL] at HL
  have hw := h.rd y hy
  obtain ⟨o1, o2, o3⟩ := h.ro (by rw [hy]; simp)
  have hcap := o1.cap
  have hcap2 := o1.cap2
  obtain ⟨cs, hrow, hcs⟩ := hw.row
  have hrow := (hrow.cell y.k).trans (hcs y.k (by omega))
  rw [hK] at hrow
  have k0 := hw.run.cell
  have HN : Hid (rNext s y = rAdv (rDo s y)) := rNext_adv hy hk
  have HKK := Lib.hid HK
  have hWD := rDo_at hy
  have HU2 : Hid (F ra.u) := o3 _ o1.u.1 o1.u.2
  have HUN : Hid (ra.u ≠ br) := (h.ne_r hy o1.u.1).1
  have fin : ∀ w1, Reg w1 br bm gm wa ra (rDo s y) (c + 1) F → Only F w w1 → (∀ i, w1.cell? ⟨ra.u, i, none⟩ = (#[.slice (some ⟨ra.L, y.k, none⟩) (3 + s.W - y.k) (ra.cap - y.k), .slice (some ⟨ra.t, 0, none⟩) s.W s.W] : Array Value)[i]?) ∧ (∀ i, w1.frozen? ⟨ra.u, i, none⟩ = false) ∧
      Reg (w1.setCell ⟨ra.u, 0, none⟩ (.slice (some ⟨ra.L, y.k + 1, none⟩) (3 + s.W - (y.k + 1)) (ra.cap - (y.k + 1)))) br bm gm wa ra (rNext s y) (c + 1) F ∧ Only F w (w1.setCell ⟨ra.u, 0, none⟩ (.slice (some ⟨ra.L, y.k + 1, none⟩) (3 + s.W - (y.k + 1)) (ra.cap - (y.k + 1)))) := by
    intro w1 h1 hO
    obtain ⟨eW, y', ey, ek⟩ := hWD
    have hr := (h1.rd y' ey).run
    rw [eW, ek] at hr
    refine ⟨hr.cell, hr.frozen, ?_, hO.set_ HU2.out 0 _⟩
    rw [HN.out]
    refine h1.radv ey ?_ (Only.set_ (F := fun b => b = ra.u) (Only.refl _ _) rfl 0 _)
    rw [eW, ek]
    exact hr.set_ 0 _
  have FIN := Lib.hid fin
  clear fin hWD hcs hK HK hL hy ok h o1 o2 o3 hw
  have n2 : 2 ≤ 3 + s.W - y.k := by omega
  have ncp : 3 + s.W - y.k ≤ ra.cap - y.k := by omega
  have cp2 : ra.cap - y.k ≤ 9223372036854775807 := by omega
  have en : 3 + s.W - (y.k + 1) = 3 + s.W - y.k - 1 := by omega
  have ec : ra.cap - (y.k + 1) = ra.cap - y.k - 1 := by omega
  rw [en, ec] at FIN
  clear en ec hk hcap hcap2
  generalize 3 + s.W - y.k = n at *
  generalize ra.cap - y.k = cp at *
  have t0 : ((n : Int) == 0) = false := by rw [beq_eq_false_iff_ne]; omega
  have t1 : ((n : Int) == 1) = false := by rw [beq_eq_false_iff_ne]; omega
  unfold P at HU HL ⊢
  go_enter_defers Tryd.func60, Tryd.ntmps60
  go_wp2_with (first
    | (go_at_call 105; refine HU.out.mono ?_; rintro e w1 ⟨rfl, rfl⟩)
    | (go_at_call 63; refine HL.out.mono ?_; rintro e w1 ⟨rfl, rfl⟩))
  refine HKK.out.mono ?_
  rintro e w1 ⟨rfl, h1, hO⟩
  obtain ⟨k1, f1, r1, r2⟩ := FIN.out w1 h1 hO
  have R := Lib.hid (And.intro r1 r2)
  clear r1 r2 h1 hO
  go_wp2_with fail
  exact ⟨.tuple #[.slice none 0 0, .bool false, .int .i64 0], by simp [results, Tryd.results60, go_sem], rfl, R.out.1, R.out.2⟩
theorem step_rl (h : Reg w br bm gm wa ra s c F) (ok : Ok s) (hy : s.rd = some y) (hk : y.k = 2 + s.W) (c0 : 0 ≤ c) (c1 : c ≤ 1099511627776) :
    Calls Tryd.prog 60 #[P br, .bool false] w fun e w' => e = .returned (.tuple #[.slice (some ⟨ra.t, 0, none⟩) s.W s.W, .bool true, .int .i64 0]) ∧ Reg w' br bm gm wa ra (rNext s y) (c + 1) F ∧ Only F w w' ∧ Blk w' ra.t 3 (ints (rTold s y)) := by
  obtain ⟨K, caps, hK, hCF, HK⟩ := racc h ok hy c0 c1
  have HU := Lib.hid (under_r h.head)
  rw [rpt_some hy] at HU
  have hL : rLeft s = 1 := by simp [rLeft, hy]; omega
  have HL := Lib.hid (left_r h)
  rw [hL] at HL
  have hw := h.rd y hy
  obtain ⟨o1, o2, o3⟩ := h.ro (by rw [hy]; simp)
  have hcap := o1.cap
  have hcap2 := o1.cap2
  obtain ⟨cs, hrow, hcs⟩ := hw.row
  have hrow := (hrow.cell y.k).trans (hcs y.k (by omega))
  rw [hK] at hrow
  have hr0 := hw.run
  have e1 : 3 + s.W - y.k = 1 := by omega
  rw [e1] at hr0
  have k0 := hr0.cell
  have HN : Hid (rNext s y = { rDo s y with rd := none }) := rNext_last ok.w1 hk
  have HKK := Lib.hid HK
  have hWD := rDo_at hy
  have hw1 := ok.w1
  have hWL := rDo_last (s := s) (y := y) (by omega)
  have fin : ∀ w1, Reg w1 br bm gm wa ra (rDo s y) (c + 1) F → Only F w w1 → (∀ i, w1.cell? ⟨ra.u, i, none⟩ = (#[.slice (some ⟨ra.L, y.k, none⟩) 1 (ra.cap - y.k), .slice (some ⟨ra.t, 0, none⟩) s.W s.W] : Array Value)[i]?) ∧ (∀ i, w1.frozen? ⟨ra.u, i, none⟩ = false) ∧
      ∀ v, (∃ u2, Blk (w1.setCell ⟨ra.u, 0, none⟩ v) br 153 #[.int .i64 (rDo s y).W, P bm, u2, .pointer (some ⟨ra.u, 0, none⟩)]) ∧ Reg ((w1.setCell ⟨ra.u, 0, none⟩ v).setCell ⟨br, 3, none⟩ (.pointer none)) br bm gm wa ra (rNext s y) (c + 1) F ∧ Only F w ((w1.setCell ⟨ra.u, 0, none⟩ v).setCell ⟨br, 3, none⟩ (.pointer none)) ∧ Blk ((w1.setCell ⟨ra.u, 0, none⟩ v).setCell ⟨br, 3, none⟩ (.pointer none)) ra.t 3 (ints (rTold s y)) := by
    intro w1 h1 hO
    have eW := hWD.1
    have ey := hWL
    have hr := (h1.rd _ ey).run
    rw [eW] at hr
    simp only [e1] at hr
    refine ⟨hr.cell, hr.frozen, fun v => ?_⟩
    obtain ⟨a1, a2, a3, a4⟩ := h1.rend ey v
    rw [HN.out]
    exact ⟨⟨_, a1⟩, a2, hO.trans_ a3, a4⟩
  have FIN := Lib.hid fin
  clear fin hWL hWD hw1 hcs hK HK hL hy ok h o1 o2 o3 hw hr0
  have ncp : 1 ≤ ra.cap - y.k := by omega
  have cp2 : ra.cap - y.k ≤ 9223372036854775807 := by omega
  clear e1 hk hcap hcap2
  generalize ra.cap - y.k = cp at *
  unfold P at HU HL ⊢
  rcases Nat.lt_or_ge 1 cp with hcp | hcp
  · go_enter_defers Tryd.func60, Tryd.ntmps60
    go_wp2_with (first
      | (go_at_call 105; refine HU.out.mono ?_; rintro e w1 ⟨rfl, rfl⟩)
      | (go_at_call 63; refine HL.out.mono ?_; rintro e w1 ⟨rfl, rfl⟩))
    refine HKK.out.mono ?_
    rintro e w1 ⟨rfl, h1, hO⟩
    obtain ⟨k1, f1, r1⟩ := FIN.out w1 h1 hO
    have R := Lib.hid r1
    clear r1 h1 hO
    go_wp2_with fail
    refine leaves_cons (f := 62) (args := #[.pointer (some ⟨br, 0, none⟩), .bool false]) (by simp) (by simp [go_sem]) ?_
    obtain ⟨⟨u2, a1⟩, a2, a3, a4⟩ := R.out _
    refine (drop_rd a1 .returning).mono ?_
    rintro e u' w2 ⟨rfl, ⟨v, rfl⟩, rfl⟩
    exact ⟨.tuple #[.slice (some ⟨ra.t, 0, none⟩) s.W s.W, .bool true, .int .i64 0], by simp [results, Tryd.results60, go_sem], rfl, a2, a3, a4⟩
  · obtain rfl : cp = 1 := by omega
    clear hcp
    go_enter_defers Tryd.func60, Tryd.ntmps60
    go_wp2_with (first
      | (go_at_call 105; refine HU.out.mono ?_; rintro e w1 ⟨rfl, rfl⟩)
      | (go_at_call 63; refine HL.out.mono ?_; rintro e w1 ⟨rfl, rfl⟩))
    refine HKK.out.mono ?_
    rintro e w1 ⟨rfl, h1, hO⟩
    obtain ⟨k1, f1, r1⟩ := FIN.out w1 h1 hO
    have R := Lib.hid r1
    clear r1 h1 hO
    go_wp2_with fail
    refine leaves_cons (f := 62) (args := #[.pointer (some ⟨br, 0, none⟩), .bool false]) (by simp) (by simp [go_sem]) ?_
    obtain ⟨⟨u2, a1⟩, a2, a3, a4⟩ := R.out _
    refine (drop_rd a1 .returning).mono ?_
    rintro e u' w2 ⟨rfl, ⟨v, rfl⟩, rfl⟩
    exact ⟨.tuple #[.slice (some ⟨ra.t, 0, none⟩) s.W s.W, .bool true, .int .i64 0], by simp [results, Tryd.results60, go_sem], rfl, a2, a3, a4⟩
theorem step_wn (h : Reg w br bm gm wa ra s c F) (hx : s.wr = none) : Calls Tryd.prog 60 #[P br, .bool true] w fun e w' => e = .returned (.tuple #[.slice none 0 0, .bool false, .int .i64 2]) ∧ w = w' := by
  have HU := Lib.hid (under_w h.head)
  rw [wpt_none hx] at HU
  have HL := Lib.hid (left_w h)
  have hL : wLeft s = 0 := by simp [wLeft, hx]
  rw [hL] at HL
  clear h hx hL
  unfold P at HU HL ⊢
  go_enter_defers Tryd.func60, Tryd.ntmps60
  go_wp2_with (first
    | (go_at_call 105; refine HU.out.mono ?_; rintro e w1 ⟨rfl, rfl⟩)
    | (go_at_call 63; refine HL.out.mono ?_; rintro e w1 ⟨rfl, rfl⟩))
  exact ⟨.tuple #[.slice none 0 0, .bool false, .int .i64 2], by simp [results, Tryd.results60, go_sem], rfl, rfl⟩
theorem step_rn (h : Reg w br bm gm wa ra s c F) (hy : s.rd = none) : Calls Tryd.prog 60 #[P br, .bool false] w fun e w' => e = .returned (.tuple #[.slice none 0 0, .bool false, .int .i64 2]) ∧ w = w' := by
  have HU := Lib.hid (under_r h.head)
  rw [rpt_none hy] at HU
  have HL := Lib.hid (left_r h)
  have hL : rLeft s = 0 := by simp [rLeft, hy]
  rw [hL] at HL
  clear h hy hL
  unfold P at HU HL ⊢
  go_enter_defers Tryd.func60, Tryd.ntmps60
  go_wp2_with (first
    | (go_at_call 105; refine HU.out.mono ?_; rintro e w1 ⟨rfl, rfl⟩)
    | (go_at_call 63; refine HL.out.mono ?_; rintro e w1 ⟨rfl, rfl⟩))
  exact ⟨.tuple #[.slice none 0 0, .bool false, .int .i64 2], by simp [results, Tryd.results60, go_sem], rfl, rfl⟩
theorem step_nil (b : Bool) (w : World) : Calls Tryd.prog 60 #[.pointer none, .bool b] w fun e w' => e = .returned (.tuple #[.slice none 0 0, .bool false, .int .i64 2]) ∧ w = w' := by
  go_enter_defers Tryd.func60, Tryd.ntmps60
  go_wp2_with (first
    | (go_at_call 105; refine (under_nil b _).mono ?_; rintro e w1 ⟨rfl, rfl⟩)
    | (go_at_call 63; refine (left_nil b _).mono ?_; rintro e w1 ⟨rfl, rfl⟩))
  exact ⟨.tuple #[.slice none 0 0, .bool false, .int .i64 2], by simp [results, Tryd.results60, go_sem], rfl, rfl⟩
end Go.Proofs.YthkpopphefolmaaDoor.F4
