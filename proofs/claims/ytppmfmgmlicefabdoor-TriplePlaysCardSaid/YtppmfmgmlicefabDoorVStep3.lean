/- A register of three slots: the reader's accesses, and Step. -/
import Derived.Test.YtppmfmgmlicefabDoorVStep2
namespace Go.Proofs.YtppmfmgmlicefabDoor.T3
open Go.RowKit Go.Proofs.YtppmfmgmlicefabDoor.G Go.Proofs.YtppmfmgmlicefabDoor.Cell
attribute [local go_sem ↓] Go.wp_at_zero Go.wp_at_succ
set_option maxRecDepth 100000
variable {w w' : World} {br bm gm : Nat} {wa : WA} {ra : RA} {s : St} {c : Int} {F : Nat → Prop} {x : Wr} {y : Rr}

/-- What the reader's next access turns. -/
def aS (s : St) (y : Rr) : St :=
  if y.k = 0 then s else if y.k = 1 then { s with m := s.m.set 0 s.f, f := mid s } else s
def aY (s : St) (y : Rr) : Rr :=
  if y.k = 0 then { y with k := if nth s.m 0 < 4 then 2 else 1 } else if y.k = 1 then { y with k := 2 } else { k := y.k + 1, t := rTold s y }
def O5 (a b c d e : Nat) : Nat → Prop := fun k => k = a ∨ k = b ∨ k = c ∨ k = d ∨ k = e
def APost (br bm gm : Nat) (u1 u2 : Value) (ra : RA) (s : St) (y : Rr) (c : Int) (w : World) (e : Ending) (w' : World) : Prop :=
  e = .returned (.tuple #[]) ∧ MemAt w' bm gm (aS s y).m (c + 1) ∧ Blk w' br 109 #[.int .i64 s.W, P bm, .int .i64 s.b, .int .i64 (aS s y).f, u1, u2] ∧ RdAt w' s.W ra (aY s y) ∧ Only (O5 bm gm br ra.t ra.u) w w'
/-- The reader's next access, whatever the struct tells of what is under way. -/
theorem acc_any {u1 u2 : Value} (hh : Blk w br 109 #[.int .i64 s.W, P bm, .int .i64 s.b, .int .i64 s.f, u1, u2]) (hm : MemAt w bm gm s.m c) (hr : RdAt w s.W ra y) (hg : ra.t ≠ gm) (ok : Ok s) (okr : OkR s y) (c0 : 0 ≤ c) (c1 : c ≤ 1099511627776) :
    Calls Tryd.prog 107 #[P br, P ra.u] w (APost br bm gm u1 u2 ra s y c w) := by
  have hlen := ok.len
  have hW6 := ok.w6
  have hrun := hr.run
  unfold APost aS aY
  by_cases k0 : y.k = 0
  · simp only [k0, if_true]
    rw [k0] at hrun
    refine (look_any hh hm hrun (by omega) (by omega) c0 c1).mono ?_
    rintro e w' ⟨rfl, h1, h2, hO⟩
    refine ⟨rfl, h1, Only.blk hh hO ?_, ⟨?_, Only.blk hr.t hO ?_⟩, hO.mono fun b hb => ?_⟩
    · have a1 := hh.ne_ hm.head (by decide); have a2 := hh.ne_ hm.words (by decide); have a3 := hh.ne_ hr.run (by decide)
      unfold O3; omega
    · have e1 : (((if nth s.m 0 < 4 then 2 else 1 : Nat) : Int) - 2) = if nth s.m 0 < 4 then 0 else -1 := by split <;> rfl
      show Blk w' ra.u 114 #[.int .i64 (((if nth s.m 0 < 4 then 2 else 1 : Nat) : Int) - 2), _]
      rw [e1]; exact h2
    · have a1 := hr.t.ne_ hm.head (by decide); have a3 := hr.t.ne_ hr.run (by decide)
      unfold O3; omega
    · rcases hb with rfl | rfl | rfl
      · exact .inl rfl
      · exact .inr (.inl rfl)
      · exact .inr (.inr (.inr (.inr rfl)))
  by_cases k1 : y.k = 1
  · simp only [k1, if_true, if_neg (show ¬ (1 : Nat) = 0 by omega)]
    rw [k1] at hrun
    refine (take_any hh hm hrun (by omega) (by omega) c0 c1 ok.f (mid_tmod ok)).mono ?_
    rintro e w' ⟨rfl, h1, h2, h3, hO⟩
    refine ⟨rfl, h1, h2, ⟨h3, Only.blk hr.t hO ?_⟩, hO.mono fun b hb => ?_⟩
    · have a1 := hr.t.ne_ hm.head (by decide); have a3 := hr.t.ne_ hr.run (by decide); have a4 := hr.t.ne_ hh (by decide)
      unfold O4; omega
    · rcases hb with rfl | rfl | rfl | rfl
      · exact .inl rfl
      · exact .inr (.inl rfl)
      · exact .inr (.inr (.inl rfl))
      · exact .inr (.inr (.inr (.inr rfl)))
  · rw [if_neg k0, if_neg k1, if_neg k0, if_neg k1]
    have hk := okr.k
    have e1 : (y.k : Int) - 2 = ((y.k - 2 : Nat) : Int) := by omega
    rw [e1] at hrun
    refine (rword_any hh hm hrun hr.t hg hlen okr.len hW6 c0 c1 ok.f (by omega)).mono ?_
    rintro e w' ⟨rfl, h1, h2, h3, hO⟩
    refine ⟨rfl, h1, Only.blk hh hO ?_, ⟨?_, h2⟩, hO.mono fun b hb => ?_⟩
    · have a1 := hh.ne_ hm.head (by decide); have a2 := hh.ne_ hm.words (by decide); have a3 := hh.ne_ hr.run (by decide); have a4 := hh.ne_ hr.t (by decide)
      unfold O4; omega
    · have e2 : ((y.k + 1 : Nat) : Int) - 2 = ((y.k - 2 : Nat) : Int) + 1 := by omega
      show Blk w' ra.u 114 #[.int .i64 (((y.k + 1 : Nat) : Int) - 2), _]
      rw [e2]; exact h3
    · rcases hb with rfl | rfl | rfl | rfl
      · exact .inl rfl
      · exact .inr (.inl rfl)
      · exact .inr (.inr (.inr (.inl rfl)))
      · exact .inr (.inr (.inr (.inr rfl)))
theorem rNext_a {s : St} {y : Rr} (hk : y.k < 1 + s.W) : rNext s y = { aS s y with rd := some (aY s y) } := by
  unfold rNext aS aY
  by_cases k0 : y.k = 0
  · rw [if_pos k0, if_pos k0, if_pos k0]
  · by_cases k1 : y.k = 1
    · rw [if_neg k0, if_pos k1, if_neg k0, if_pos k1, if_neg k0, if_pos k1]
    · rw [if_neg k0, if_neg k1, if_pos hk, if_neg k0, if_neg k1, if_neg k0, if_neg k1]
theorem aS_same (s : St) (y : Rr) : (aS s y).W = s.W ∧ (aS s y).b = s.b ∧ (aS s y).wr = s.wr ∧ (aS s y).rd = s.rd := by
  unfold aS; split
  · exact ⟨rfl, rfl, rfl, rfl⟩
  · split <;> exact ⟨rfl, rfl, rfl, rfl⟩
theorem O5_own (h : Reg w br bm gm wa ra s c F) (hy : s.rd = some y) : ∀ b, O5 bm gm br ra.t ra.u b → F b := by
  have o := h.ro (by rw [hy]; simp)
  rintro b (rfl | rfl | rfl | rfl | rfl)
  · exact h.own.2.1
  · exact h.own.2.2
  · exact h.own.1
  · exact o.t
  · exact o.u
/-- The reader's accesses but the last one. -/
theorem stepR_ (h : Reg w br bm gm wa ra s c F) (ok : Ok s) (hy : s.rd = some y) (hk : y.k < 1 + s.W) (c0 : 0 ≤ c) (c1 : c ≤ 1099511627776) :
    Calls Tryd.prog 80 #[P br] w fun e w' => e = .returned (.tuple #[.slice none 0 0, .bool false]) ∧ Reg w' br bm gm wa ra (rNext s y) (c + 1) F ∧ Only F w w' := by
  have hh := h.hd_
  rw [rpt_some hy] at hh
  have hr := h.rd y hy
  have k0 := hh.cell
  have k1 := hr.run.cell
  have hW6 := ok.w6
  have hW1 := ok.w1
  have HA := Lib.hid (acc_any hh h.mem hr (h.ro (by rw [hy]; simp)).tg ok (ok.rd y hy) c0 c1)
  have fin : ∀ e w2, APost br bm gm (wpt s wa) (.pointer (some ⟨ra.u, 0, none⟩)) ra s y c w e w2 → e = .returned (.tuple #[]) ∧ Reg w2 br bm gm wa ra (rNext s y) (c + 1) F ∧ Only F w w2 := by
    rintro e w2 ⟨rfl, h1, h2, h3, hO⟩
    refine ⟨rfl, ?_, hO.mono (O5_own h hy)⟩
    rw [rNext_a hk]
    obtain ⟨a1, a2, a3, a4⟩ := aS_same s y
    refine h.new_ a1 (fun e => by rw [← a3]; exact e) (fun _ => by rw [hy]; simp) ?_ h1 (fun z e => ?_) (fun z e => ?_)
    · have e2 : hd { aS s y with rd := some (aY s y) } bm (wpt { aS s y with rd := some (aY s y) } wa) (rpt { aS s y with rd := some (aY s y) } ra) = #[.int .i64 s.W, P bm, .int .i64 s.b, .int .i64 (aS s y).f, wpt s wa, .pointer (some ⟨ra.u, 0, none⟩)] := by
        simp [hd, wpt, rpt, a1, a2, a3]
      rw [e2]; exact h2
    · have e : s.wr = some z := by rw [← a3]; exact e
      obtain ⟨p1, p2, p3, p4, p5, p6, p7⟩ := h.offw e
      obtain ⟨q1, q2, q3, q4⟩ := h.offb e hy
      exact (h.wr z e).only hO (by unfold O5; omega) (by unfold O5; omega)
    · obtain rfl := Option.some.inj e
      exact h3
  have FIN := Lib.hid fin
  have t0 : ((y.k : Int) - 2 == (s.W : Int) - 1) = false := by rw [beq_eq_false_iff_ne]; omega
  clear fin hh hr h ok hy
  unfold P at k0 HA ⊢
  go_enter Tryd.func80, Tryd.ntmps80
  go_wp2_with (go_at_call 107; refine HA.out.mono ?_; intro e w2 hP; obtain ⟨rfl, r1, r2⟩ := FIN.out _ _ hP; have R := Lib.hid (And.intro r1 r2); clear r1 r2 hP)
  go_ret2
  exact ⟨rfl, R.out.1, R.out.2⟩
/-- The reader's last access. -/
theorem stepRl_ (h : Reg w br bm gm wa ra s c F) (ok : Ok s) (hy : s.rd = some y) (hk : y.k = 1 + s.W) (c0 : 0 ≤ c) (c1 : c ≤ 1099511627776) :
    Calls Tryd.prog 80 #[P br] w fun e w' => e = .returned (.tuple #[.slice (some ⟨ra.t, 0, none⟩) s.W s.W, .bool true]) ∧ Reg w' br bm gm wa ra (rNext s y) (c + 1) F ∧ Only F w w' ∧ Blk w' ra.t 3 (ints (rTold s y)) := by
  have hh := h.hd_
  rw [rpt_some hy] at hh
  have hr := h.rd y hy
  have k0 := hh.cell
  have f0 := hh.frozen
  have z0 := hh.lt
  have k1 := hr.run.cell
  have hW6 := ok.w6
  have hW1 := ok.w1
  obtain ⟨n1, n2, n3⟩ := h.offm
  obtain ⟨p1, p2, p3, p4, p5, p6, p7⟩ := h.offr hy
  have hO0 : Only (fun b => b = br) w (w.setCell ⟨br, 5, none⟩ (.pointer none)) := Only.set_ (F := fun b => b = br) (Only.refl _ _) rfl 5 _
  have hr1 : RdAt (w.setCell ⟨br, 5, none⟩ (.pointer none)) s.W ra y := hr.only hO0 p1 p4
  have hh1 : Blk (w.setCell ⟨br, 5, none⟩ (.pointer none)) br 109 #[.int .i64 s.W, P bm, .int .i64 s.b, .int .i64 s.f, wpt s wa, .pointer none] := hh.set_ 5 (.pointer none)
  have hm1 : MemAt (w.setCell ⟨br, 5, none⟩ (.pointer none)) bm gm s.m c := ⟨h.mem.head.far (p := ⟨br, 5, none⟩) (Ne.symm n1) _, h.mem.words.far (p := ⟨br, 5, none⟩) (Ne.symm n2) _⟩
  have HA := Lib.hid (acc_any hh1 hm1 hr1 (h.ro (by rw [hy]; simp)).tg ok (ok.rd y hy) c0 c1)
  have hub : ra.u ≠ br := p1
  have e1 : rNext s y = { s with rd := none } := by unfold rNext; rw [if_neg (by omega), if_neg (by omega), if_neg (by omega)]
  have e3 : aS s y = s := by unfold aS; rw [if_neg (by omega), if_neg (by omega)]
  have e4 : aY s y = { k := y.k + 1, t := rTold s y } := by unfold aY; rw [if_neg (by omega), if_neg (by omega)]
  have fin : ∀ e w2, APost br bm gm (wpt s wa) (.pointer none) ra s y c (w.setCell ⟨br, 5, none⟩ (.pointer none)) e w2 → e = .returned (.tuple #[]) ∧ Reg w2 br bm gm wa ra (rNext s y) (c + 1) F ∧ Only F w w2 ∧ Blk w2 ra.t 3 (ints (rTold s y)) := by
    rintro e w2 ⟨rfl, h1, h2, h3, hO⟩
    have hOw : Only (O5 bm gm br ra.t ra.u) w w2 := (hO0.mono fun b hb => by rw [hb]; exact .inr (.inr (.inl rfl))).trans_ hO
    rw [e3] at h1 h2
    rw [e4] at h3
    refine ⟨rfl, ?_, hOw.mono (O5_own h hy), h3.t⟩
    rw [e1]
    refine h.new_ rfl id (fun e => absurd rfl e) h2 h1 (fun z e => ?_) (fun z e => (by cases e))
    obtain ⟨p1, p2, p3, p4, p5, p6, p7⟩ := h.offw e
    obtain ⟨q1, q2, q3, q4⟩ := h.offb e hy
    exact (h.wr z e).only hOw (by unfold O5; omega) (by unfold O5; omega)
  have FIN := Lib.hid fin
  have t0 : ((y.k : Int) - 2 == (s.W : Int) - 1) = true := by rw [beq_iff_eq]; omega
  clear fin hh hr h ok hy e1 e3 e4 hO0 hr1 hh1 hm1
  unfold P at k0 HA ⊢
  go_enter Tryd.func80, Tryd.ntmps80
  go_wp2_with (go_at_call 107; refine HA.out.mono ?_; intro e w2 hP; obtain ⟨rfl, r1, r2⟩ := FIN.out _ _ hP; have R := Lib.hid (And.intro r1 r2); clear r1 r2 hP)
  go_ret2
  exact ⟨rfl, R.out.1, R.out.2⟩
/-! ### Step -/
theorem step_w (h : Reg w br bm gm wa ra s c F) (ok : Ok s) (hx : s.wr = some x) (hk : x.k < s.W) (c0 : 0 ≤ c) (c1 : c ≤ 1099511627776) :
    Calls Tryd.prog 37 #[P br, .bool true] w fun e w' => e = .returned (.tuple #[.slice none 0 0, .bool false, .int .i64 0]) ∧ Reg w' br bm gm wa ra (wNext s x) (c + 1) F ∧ Only F w w' := by
  have HB := Lib.hid (busy_w h)
  rw [hx] at HB
  have HS := Lib.hid (stepW_ h ok hx hk c0 c1)
  clear h ok hx hk
  go_enter Tryd.func37, Tryd.ntmps37
  go_wp2_with (first | (go_at_call 40; refine HB.out.mono ?_; rintro e w1 ⟨rfl, rfl⟩) | (go_at_call 79; refine HS.out.mono ?_; rintro e w1 ⟨rfl, r1, r2⟩; have R := Lib.hid (And.intro r1 r2); clear r1 r2))
  go_ret3
  exact ⟨rfl, R.out.1, R.out.2⟩
theorem step_wl (h : Reg w br bm gm wa ra s c F) (ok : Ok s) (hx : s.wr = some x) (hk : x.k = s.W) (c0 : 0 ≤ c) (c1 : c ≤ 1099511627776) :
    Calls Tryd.prog 37 #[P br, .bool true] w fun e w' => e = .returned (.tuple #[.slice none 0 0, .bool true, .int .i64 0]) ∧ Reg w' br bm gm wa ra (wNext s x) (c + 1) F ∧ Only F w w' := by
  have HB := Lib.hid (busy_w h)
  rw [hx] at HB
  have HS := Lib.hid (stepWl_ h ok hx hk c0 c1)
  clear h ok hx hk
  go_enter Tryd.func37, Tryd.ntmps37
  go_wp2_with (first | (go_at_call 40; refine HB.out.mono ?_; rintro e w1 ⟨rfl, rfl⟩) | (go_at_call 79; refine HS.out.mono ?_; rintro e w1 ⟨rfl, r1, r2⟩; have R := Lib.hid (And.intro r1 r2); clear r1 r2))
  go_ret3
  exact ⟨rfl, R.out.1, R.out.2⟩
theorem step_r (h : Reg w br bm gm wa ra s c F) (ok : Ok s) (hy : s.rd = some y) (hk : y.k < 1 + s.W) (c0 : 0 ≤ c) (c1 : c ≤ 1099511627776) :
    Calls Tryd.prog 37 #[P br, .bool false] w fun e w' => e = .returned (.tuple #[.slice none 0 0, .bool false, .int .i64 0]) ∧ Reg w' br bm gm wa ra (rNext s y) (c + 1) F ∧ Only F w w' := by
  have HB := Lib.hid (busy_r h)
  rw [hy] at HB
  have HS := Lib.hid (stepR_ h ok hy hk c0 c1)
  clear h ok hy hk
  go_enter Tryd.func37, Tryd.ntmps37
  go_wp2_with (first | (go_at_call 40; refine HB.out.mono ?_; rintro e w1 ⟨rfl, rfl⟩) | (go_at_call 80; refine HS.out.mono ?_; rintro e w1 ⟨rfl, r1, r2⟩; have R := Lib.hid (And.intro r1 r2); clear r1 r2))
  go_ret3
  exact ⟨rfl, R.out.1, R.out.2⟩
theorem step_rl (h : Reg w br bm gm wa ra s c F) (ok : Ok s) (hy : s.rd = some y) (hk : y.k = 1 + s.W) (c0 : 0 ≤ c) (c1 : c ≤ 1099511627776) :
    Calls Tryd.prog 37 #[P br, .bool false] w fun e w' => e = .returned (.tuple #[.slice (some ⟨ra.t, 0, none⟩) s.W s.W, .bool true, .int .i64 0]) ∧ Reg w' br bm gm wa ra (rNext s y) (c + 1) F ∧ Only F w w' ∧ Blk w' ra.t 3 (ints (rTold s y)) := by
  have HB := Lib.hid (busy_r h)
  rw [hy] at HB
  have HS := Lib.hid (stepRl_ h ok hy hk c0 c1)
  clear h ok hy hk
  go_enter Tryd.func37, Tryd.ntmps37
  go_wp2_with (first | (go_at_call 40; refine HB.out.mono ?_; rintro e w1 ⟨rfl, rfl⟩) | (go_at_call 80; refine HS.out.mono ?_; rintro e w1 ⟨rfl, r1, r2⟩; have R := Lib.hid (And.intro r1 r2); clear r1 r2))
  go_ret3
  exact ⟨rfl, R.out.1, R.out.2⟩
theorem step_wn (h : Reg w br bm gm wa ra s c F) (hx : s.wr = none) : Calls Tryd.prog 37 #[P br, .bool true] w fun e w' => e = .returned (.tuple #[.slice none 0 0, .bool false, .int .i64 2]) ∧ w = w' := by
  have HB := Lib.hid (busy_w h)
  rw [hx] at HB
  clear h hx
  go_enter Tryd.func37, Tryd.ntmps37
  go_wp2_with (go_at_call 40; refine HB.out.mono ?_; rintro e w1 ⟨rfl, rfl⟩)
  go_ret3
  exact ⟨rfl, rfl⟩
theorem step_rn (h : Reg w br bm gm wa ra s c F) (hy : s.rd = none) : Calls Tryd.prog 37 #[P br, .bool false] w fun e w' => e = .returned (.tuple #[.slice none 0 0, .bool false, .int .i64 2]) ∧ w = w' := by
  have HB := Lib.hid (busy_r h)
  rw [hy] at HB
  clear h hy
  go_enter Tryd.func37, Tryd.ntmps37
  go_wp2_with (go_at_call 40; refine HB.out.mono ?_; rintro e w1 ⟨rfl, rfl⟩)
  go_ret3
  exact ⟨rfl, rfl⟩
end Go.Proofs.YtppmfmgmlicefabDoor.T3
