/- A register of three slots: Step. -/
import Derived.Test.YtppmfmgmlicefabDoorVStep
namespace Go.Proofs.YtppmfmgmlicefabDoor.T3
open Go.RowKit Go.Proofs.YtppmfmgmlicefabDoor.G Go.Proofs.YtppmfmgmlicefabDoor.Cell
attribute [local go_sem ↓] Go.wp_at_zero Go.wp_at_succ
set_option maxRecDepth 100000
variable {w w' : World} {br bm gm : Nat} {wa : WA} {ra : RA} {s : St} {c : Int} {F : Nat → Prop} {x : Wr} {y : Rr}

theorem mid_tmod (ok : Ok s) : (nth s.m 0).tmod 4 = mid s := by
  have := ok.m0
  rw [mid_cast ok, Int.tmod_eq_emod_of_nonneg this]
/-- The writer's access of a word. -/
theorem stepW_ (h : Reg w br bm gm wa ra s c F) (ok : Ok s) (hx : s.wr = some x) (hk : x.k < s.W) (c0 : 0 ≤ c) (c1 : c ≤ 1099511627776) :
    Calls Tryd.prog 79 #[P br] w fun e w' => e = .returned (.bool false) ∧ Reg w' br bm gm wa ra (wNext s x) (c + 1) F ∧ Only F w w' := by
  have hh := h.hd_
  rw [wpt_some hx] at hh
  have hw := h.wr x hx
  have o := h.wo (by rw [hx]; simp)
  have okx := ok.wr x hx
  obtain ⟨cs, hg, hcs⟩ := hw.list
  obtain ⟨n1, n2, n3⟩ := h.offm
  obtain ⟨m1, m2, m3, m4, m5, m6, m7⟩ := h.offw hx
  refine (wword_any hh h.mem hw.run hg o.Lg (hcs x.k hk) ok.len ok.w6 c0 c1 ok.b hk o.cap o.cap2 (okx.ok _)).mono ?_
  rintro e w' ⟨rfl, w2, hm, hK, rfl⟩
  have hO : Only (O3 bm gm wa.u) w (w2.setCell ⟨wa.u, 0, none⟩ (.int .i64 ((x.k : Int) + 1))) := keep3s hK 0 _
  have e1 : wNext s x = { s with m := s.m.set (pl s.W s.b + x.k) (nth x.l x.k), wr := some { x with k := x.k + 1 } } := by unfold wNext; rw [if_pos hk]
  rw [e1]
  refine ⟨rfl, h.new_ rfl (fun _ => by rw [hx]; simp) id ?_ ⟨hm.head.far (p := ⟨wa.u, 0, none⟩) (Ne.symm m2) _, hm.words.far (p := ⟨wa.u, 0, none⟩) (Ne.symm m3) _⟩ (fun z e => ?_) (fun z e => ?_), hO.mono fun b hb => ?_⟩
  · have e2 : wpt { s with m := s.m.set (pl s.W s.b + x.k) (nth x.l x.k), wr := some { x with k := x.k + 1 } } wa = wpt s wa := by simp [wpt, hx]
    rw [e2]
    exact Only.blk h.head hO (by unfold O3; omega)
  · obtain rfl := Option.some.inj e
    refine ⟨?_, hw.list.only hO (by unfold O3; omega)⟩
    have := (Blk.keep hw.run hK m2 m3).set_ 0 (.int .i64 ((x.k : Int) + 1))
    simpa using this
  · obtain ⟨p1, p2, p3, p4, p5, p6, p7⟩ := h.offr e
    obtain ⟨q1, q2, q3, q4⟩ := h.offb hx e
    exact (h.rd z e).only hO (by unfold O3; omega) (by unfold O3; omega)
  · rcases hb with rfl | rfl | rfl
    · exact h.own.2.1
    · exact h.own.2.2
    · exact o.u
/-- The writer's swap. -/
theorem stepWl_ (h : Reg w br bm gm wa ra s c F) (ok : Ok s) (hx : s.wr = some x) (hk : x.k = s.W) (c0 : 0 ≤ c) (c1 : c ≤ 1099511627776) :
    Calls Tryd.prog 79 #[P br] w fun e w' => e = .returned (.bool true) ∧ Reg w' br bm gm wa ra (wNext s x) (c + 1) F ∧ Only F w w' := by
  have hh := h.hd_
  rw [wpt_some hx] at hh
  have hw := h.wr x hx
  obtain ⟨n1, n2, n3⟩ := h.offm
  have hb2 := ok.b
  have hlen := ok.len
  have hW6 := ok.w6
  have k0 := hh.cell
  have k1 := hw.run.cell
  have hh1 : Blk w.drew br 109 #[.int .i64 s.W, P bm, .int .i64 s.b, .int .i64 s.f, .pointer (some ⟨wa.u, 0, none⟩), rpt s ra] := hh
  have hm1 : MemAt w.drew bm gm s.m c := ⟨h.mem.head, h.mem.words⟩
  have j0 := hh1.cell
  have j1 : ∀ i, w.drew.cell? ⟨wa.u, i, none⟩ = (#[.int .i64 x.k, .slice (some ⟨wa.L, 0, none⟩) s.W wa.cap] : Array Value)[i]? := hw.run.cell
  have t0 : ((x.k : Int) == (s.W : Int)) = true := by rw [beq_iff_eq]; omega
  have HS := Lib.hid (swap_any hh1 hm1 (by omega) (by omega) c0 c1 ((s.b : Int) + 4) (okV_mk (by omega) (by omega)) (mid_tmod ok))
  have e1 : wNext s x = { s with m := s.m.set 0 ((s.b : Int) + 4), b := mid s, wr := none } := by unfold wNext; rw [if_neg (by omega)]
  have fin : ∀ w2, MemAt w2 bm gm (s.m.set 0 ((s.b : Int) + 4)) (c + 1) → Keep bm gm w w2 → Blk w2 br 109 #[.int .i64 s.W, P bm, .int .i64 s.b, .int .i64 s.f, .pointer (some ⟨wa.u, 0, none⟩), rpt s ra] ∧
      Reg ((w2.setCell ⟨br, 2, none⟩ (.int .i64 (mid s))).setCell ⟨br, 4, none⟩ (.pointer none)) br bm gm wa ra (wNext s x) (c + 1) F ∧ Only F w ((w2.setCell ⟨br, 2, none⟩ (.int .i64 (mid s))).setCell ⟨br, 4, none⟩ (.pointer none)) := by
    intro w2 hm hK
    have hO : Only (O3 bm gm br) w ((w2.setCell ⟨br, 2, none⟩ (.int .i64 (mid s))).setCell ⟨br, 4, none⟩ (.pointer none)) := ((keep3 hK).set_ (.inr (.inr rfl)) 2 _).set_ (.inr (.inr rfl)) 4 _
    have hb := Blk.keep hh hK n1 n2
    refine ⟨hb, ?_, hO.mono fun b hb => ?_⟩
    · rw [e1]
      refine h.new_ rfl (fun e => absurd rfl e) id ((hb.set_ 2 (.int .i64 (mid s))).set_ 4 (.pointer none)) ⟨(hm.head.far (p := ⟨br, 2, none⟩) (Ne.symm n1) _).far (p := ⟨br, 4, none⟩) (Ne.symm n1) _, (hm.words.far (p := ⟨br, 2, none⟩) (Ne.symm n2) _).far (p := ⟨br, 4, none⟩) (Ne.symm n2) _⟩ (fun z e => (by cases e)) (fun z e => ?_)
      obtain ⟨p1, p2, p3, p4, p5, p6, p7⟩ := h.offr e
      exact (h.rd z e).only hO (by unfold O3; omega) (by unfold O3; omega)
    · rcases hb with rfl | rfl | rfl
      · exact h.own.2.1
      · exact h.own.2.2
      · exact h.own.1
  have FIN := Lib.hid fin
  clear fin e1 hh hw h ok hx hk hh1 hm1
  unfold P at k0 j0 HS ⊢
  go_enter Tryd.func79, Tryd.ntmps79
  go_upto_region 2 with fail
  clear k0 k1
  go_region
  go_upto_region 3 with fail
  go_wp2_with (go_at_call 105; refine HS.out.mono ?_; rintro e w2 ⟨rfl, hm', hk'⟩; have hk2 : Keep bm gm w w2 := ⟨hk'.os, hk'.tape, hk'.output, hk'.size, hk'.block⟩; obtain ⟨b1, r1, r2⟩ := FIN.out _ hm' hk2; have l0 := b1.cell; have l1 := b1.frozen; have l2 := b1.lt; unfold P at l0; have R := Lib.hid (And.intro r1 r2); clear r1 r2 b1 hk2)
  go_ret
  exact ⟨rfl, R.out.1, R.out.2⟩
end Go.Proofs.YtppmfmgmlicefabDoor.T3
