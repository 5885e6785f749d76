/- The walk of TripleThree. -/
import Derived.Test.YtdablfanmlmjkaaDoorVBase
import Derived.Deep.DeepCutAuto
import Derived.Deep.CutRange
import Derived.Deep.CutBlock
import Derived.BigQuiet
import Derived.Deep.QuietTactic
namespace Go.Proofs.YtdablfanmlmjkaaDoor.tripleThree
open Go.RowKit Go.Proofs.YtdablfanmlmjkaaDoor.G Go.Proofs.YtdablfanmlmjkaaDoor.Cell Go.Proofs.YtdablfanmlmjkaaDoor.T3
attribute [local go_sem ↓] Go.wp_at_zero Go.wp_at_succ
set_option maxRecDepth 100000
/-- A callee that leaves the world alone, met behind some draws. -/
theorem quiet_left {P : Program} {f : FuncId} {args : Array Value} {w : World} {n : Nat} {v : Value}
    (h : Calls P f args (w.drewN n) fun e w' => e = .returned v ∧ w.drewN n = w') : Calls P f args (w.drewN n) fun e w'' => e = .returned v ∧ ∃ m, w'' = w.drewN m :=
  h.mono fun _ _ ⟨he, hm⟩ => ⟨he, n, hm.symm⟩
def InvT (w : World) (gw br : Nat) (k : Int) (V : World) : Prop := ∃ (s : T3.St) (b o lo la c gm gf : Int) (F : Nat → Prop), TW V gw br s b o lo 0 c F ∧ Inv s b o lo la gm gf ∧ 0 ≤ b ∧ b ≤ k ∧ c ≤ k ∧ Below w.heap.size w V ∧ (∀ q, F q → w.heap.size ≤ q)
def InvTh (w : World) (gw br : Nat) (n : Nat) (i : Value) (V : World) : Prop := ∃ k : Nat, i = .int .i64 k ∧ k ≤ n ∧ k ≤ 200 ∧ InvT w gw br k V
set_option maxHeartbeats 12000000 in
theorem walk {w : World} {n : Int} {A : Option Addr} {l : List Tn} {cp : Nat} (hg : Et w) (hn : n ≤ 9223372036854775807) (hr : Row w A (tvs l)) (hl : l.length ≤ cp) (hc : cp ≤ 9223372036854775807) :
    Calls Tryd.prog 5 #[.int .i64 n, .slice A l.length cp] w fun e w' => e = .returned (.bool true) ∧ Below w.heap.size w w' := by
  have HG := Lib.hid hg
  have HR := Lib.hid hr
  clear hg hr
  go_enter Tryd.func5, Tryd.ntmps5
  go_wp2_with fail
  refine (lives_any HG.out).mono ?_
  rintro e w1 ⟨rfl, hb1⟩
  go_wp2_with fail
  refine (rnew_any n hn).mono ?_
  rintro e w2 ⟨br, rfl, hr2, hb2⟩
  have hp := HG.out.pos
  obtain ⟨F, hT, hF, hB⟩ := tw_new (w := w1) (by have := hb1.size; omega) hr2 hb2
  have HT := Lib.hid hT
  have HF : Hid (∀ q, F q → w.heap.size ≤ q) := fun q hq => Nat.le_trans hb1.size (hF q hq)
  have HB : Hid (Below w.heap.size w (w2.alloc (.cells #[P br, .int .i64 0, .int .i64 0, .int .i64 0, .int .i64 0, .bool true] 56))) := bt hb1 hB
  have HGW : Hid (w.heap.size ≤ w2.heap.size) := Nat.le_trans hb1.size hb2.size
  unfold P at HT HB ⊢
  clear hT hF hB hr2 hb2 hb1
  obtain ⟨gw, hgw⟩ : ∃ g, w2.heap.size = g := ⟨_, rfl⟩
  rw [hgw] at HT HGW
  go_wp2_with fail
  generalize w2.alloc (.cells #[.pointer (some ⟨br, 0, none⟩), .int .i64 0, .int .i64 0, .int .i64 0, .int .i64 0, .bool true] 56) = V0 at *
  clear hgw
  go_loopw [6] (fun i V => InvTh w gw br l.length i V) (fun i _ => l.length - (intOf i).toNat)
  case atStart => exact ⟨0, rfl, by omega, by omega, _, 0, 0, 0, 0, 0, 0, 0, F, HT.out, inv_s0 (fW_bd n).1 (fW_bd n).2, by omega, by omega, by omega, HB.out, HF.out⟩
  case round =>
    clear HT HF HB
    obtain ⟨k, rfl, hk, hk4, s, b, o, lo, la, c, gm, gf, F, hT, hI, hb0, hbk, hck, hB, hF⟩ := hrel
    have HT := Lib.hid hT
    have HI := Lib.hid hI
    have HB := Lib.hid hB
    have HF := Lib.hid hF
    clear hT hI hB hF
    by_cases hlt : k < l.length ∧ k < 200
    · obtain ⟨hlt1, hlt4⟩ := hlt
      obtain ⟨u, hu⟩ : ∃ u, l[k]? = some u := ⟨_, List.getElem?_eq_getElem hlt1⟩
      obtain ⟨ab, ao, rfl, hab, hc0, hc1⟩ := tvs_at (HR.out.below HB.out) hu
      have hsz := HB.out.size
      have HOB : Hid (okV (b + 1) = true) := okV_mk (by omega) (by omega)
      clear hu
      obtain ⟨uw, ud⟩ := u
      simp only at hc0 hc1
      go_upto_block 2 with fail
      go_cut [29, 45] (fun _ _ V => InvT w gw br (k + 1) V)
      case first =>
        cases ud with
        | true =>
          have S0 : Below wr.heap.size wr wr.drew := (Below.refl _ _).drew
          have kw := HT.out.box.cell
          have kz := HT.out.box.lt
          unfold P at kw
          have HTd := Lib.hid (HT.out.below S0)
          have HBd := Lib.hid (HB.out.drew)
          clear S0
          cases uw with
          | true =>
            go_upto_region 9 with fail
            go_still_tail 9, (by kernel_rfl)
            clear kw kz hc0 hc1
            go_wp2_with fail
            refine (wdrop_any HTd.out.reg).mono ?_
            rintro e w5 ⟨rfl, hr5, hO5⟩
            obtain ⟨F5, hT5, hM5, hG5⟩ := HTd.out.call hr5 (More.refl _ _) hO5
            have HT5 := Lib.hid hT5
            have HF5 : Hid (∀ q, F5 q → w.heap.size ≤ q) := low_more HF.out hM5 hsz
            have HB5 := Lib.hid (below_only HBd.out hG5 HF.out HGW.out)
            clear hr5 hO5 hT5 hM5 hG5
            go_wp2_with fail
            go_meet
            exact ⟨_, _, _, _, _, _, _, _, F5, HT5.out, inv_wdrop HI.out, by omega, by omega, by omega, HB5.out, HF5.out⟩
          | false =>
            go_upto_region 9 with fail
            go_still_tail 9, (by kernel_rfl)
            clear kw kz hc0 hc1
            go_wp2_with fail
            refine (rdrop_any HTd.out.reg).mono ?_
            rintro e w5 ⟨rfl, hr5, hO5⟩
            obtain ⟨F5, hT5, hM5, hG5⟩ := HTd.out.call hr5 (More.refl _ _) hO5
            have HT5 := Lib.hid hT5
            have HF5 : Hid (∀ q, F5 q → w.heap.size ≤ q) := low_more HF.out hM5 hsz
            have HB5 := Lib.hid (below_only HBd.out hG5 HF.out HGW.out)
            clear hr5 hO5 hT5 hM5 hG5
            go_wp2_with fail
            go_meet
            exact ⟨_, _, _, _, _, _, _, _, F5, HT5.out, inv_rdrop HI.out, by omega, by omega, by omega, HB5.out, HF5.out⟩
        | false =>
          cases uw with
          | true =>
            obtain ⟨gm', hI', hb1, hb2⟩ := inv_tw HI.out HOB.out
            have HI' := Lib.hid hI'
            clear hI'
            go_wp2_with fail
            refine (turn_w HT.out HOB.out hb0 (by omega)).mono ?_
            rintro e w5 ⟨rfl, F5, hT5, hM5, hO5⟩
            have HT5 := Lib.hid hT5
            have HF5 : Hid (∀ q, F5 q → w.heap.size ≤ q) := low_more HF.out hM5 hsz
            have HB5 := Lib.hid (below_only HB.out hO5 HF.out HGW.out)
            clear hT5 hM5 hO5
            go_wp2_with fail
            go_meet
            exact ⟨_, _, _, _, _, _, _, _, F5, HT5.out, HI'.out, by omega, by omega, by omega, HB5.out, HF5.out⟩
          | false =>
            obtain ⟨v, gm', gf', hv1, hv2, hI'⟩ := inv_tr HI.out
            have HI' := Lib.hid hI'
            have HV1 := Lib.hid hv1
            clear hI' hv1 hv2
            go_wp2_with fail
            refine (turn_r HT.out (by omega) v HV1.out).mono ?_
            rintro e w5 ⟨rfl, F5, hT5, hM5, hO5⟩
            have HF5 : Hid (∀ q, F5 q → w.heap.size ≤ q) := low_more HF.out hM5 hsz
            have HB5 := Lib.hid (below_only HB.out hO5 HF.out HGW.out)
            have HT5 := Lib.hid hT5
            clear hO5 hM5 hT5
            obtain ⟨zv, hzv⟩ : ∃ z, (if rDone (rBegin s) = true then v else -1) = z := ⟨_, rfl⟩
            rw [hzv]
            clear hzv
            go_wp2_with fail
            go_meet
            exact ⟨_, _, _, _, _, _, _, _, F5, HT5.out, HI'.out, by omega, by omega, by omega, HB5.out, HF5.out⟩
      case rest =>
        clear HT HI HB HF HOB hc0 hc1
        obtain ⟨s, b, o, lo, la, c, gm, gf, F, hT, hI, hb0, hbk, hck, hB, hF⟩ := hcut
        have HT := Lib.hid hT
        have HI := Lib.hid hI
        have HB := Lib.hid hB
        have HF := Lib.hid hF
        have ok := hI.ok
        clear hT hI hB hF
        have k5 := HT.out.box.cell
        unfold P at k5
        go_wp2_with fail
        refine (rcells_any HT.out.reg).mono ?_
        rintro e w6 ⟨v6, rfl, hv6, hb6⟩
        obtain ⟨A6, c6, rfl, hra, -⟩ := lst_rd hv6
        have hlen := ok.len
        have hw1 := ok.w1
        obtain ⟨a6, o6, rfl, hcl⟩ := hra (by omega)
        have hq0 := hcl 0 (by omega)
        rw [Nat.add_zero] at hq0
        have HT6 := Lib.hid (HT.out.below hb6)
        have HB6 := Lib.hid (bt HB.out hb6)
        obtain ⟨L, hL⟩ : ∃ L, s.m.length = L := ⟨_, rfl⟩
        have hLp : (L : Int) ≠ 0 := by omega
        have hL0 : (0 : Int) < L := by omega
        obtain ⟨m0, hm0⟩ : ∃ z, nth s.m 0 = z := ⟨_, rfl⟩
        have hm4 : m0.tmod 4 = mid s := by rw [← hm0]; exact mid_tmod ok
        rw [hm0] at hq0
        rw [hL]
        have HWo : Hid (∀ n, Calls Tryd.prog 25 #[.pointer (some ⟨br, 0, none⟩), .bool true] (w6.drewN n) fun e w' => e = .returned (.int .i64 s.b) ∧ w6.drewN n = w') := fun n => wown_any (HT6.out.reg.below (bn (Below.refl w6.heap.size w6) n))
        have HRo : Hid (∀ n, Calls Tryd.prog 25 #[.pointer (some ⟨br, 0, none⟩), .bool false] (w6.drewN n) fun e w' => e = .returned (.int .i64 s.f) ∧ w6.drewN n = w') := fun n => rown_any (HT6.out.reg.below (bn (Below.refl w6.heap.size w6) n))
        obtain ⟨zb, hzb⟩ : ∃ z : Int, (s.b : Int) = z := ⟨_, rfl⟩
        obtain ⟨zf, hzf⟩ : ∃ z : Int, (s.f : Int) = z := ⟨_, rfl⟩
        obtain ⟨zm, hzm⟩ : ∃ z : Int, (mid s : Int) = z := ⟨_, rfl⟩
        rw [hzb] at HWo
        rw [hzf] at HRo
        rw [hzm] at hm4
        have o1 := ok.b
        have o2 := ok.f
        have o3 := ok.md
        have o4 := ok.bf
        have o5 := ok.bm
        have o6' := ok.fm
        have e1 : 0 ≤ zb := by omega
        have e2 : zb ≤ 2 := by omega
        have e3 : 0 ≤ zf := by omega
        have e4 : zf ≤ 2 := by omega
        have e5 : zm ≤ 2 := by omega
        have t1 : (zb == zf) = false := by rw [beq_eq_false_iff_ne]; omega
        have t2 : (zb == zm) = false := by rw [beq_eq_false_iff_ne]; omega
        have t3 : (zf == zm) = false := by rw [beq_eq_false_iff_ne]; omega
        have k6 := HT6.out.box.cell
        unfold P at k6
        clear hv6 hra hcl k5 ok hlen hL hm0 hzb hzf hzm o1 o2 o3 o4 o5 o6' hb6 hw1
        go_upto_region 15 with fail
        go_quiet (first | (go_at_call 25; first | with_reducible exact quiet_left (HWo.out _) | with_reducible exact quiet_left (HRo.out _)))
        go_wp2_with fail
        go_roundw
        case rel => exact ⟨k + 1, by go_num, by omega, by omega, _, _, _, _, _, _, _, _, F, HT6.out.below (bn (Below.refl w6.heap.size w6) nq), HI.out, hb0, by omega, by omega, bn HB6.out nq, HF.out⟩
        case measure => simp [intOf]; omega
    · have hx : l.length ≤ k ∨ (k < l.length ∧ 200 ≤ k) := by omega
      clear hlt
      rcases hx with hx | ⟨hx1, hx2⟩
      · go_wp2_with fail
        go_ret
        exact ⟨rfl, HB.out⟩
      · go_wp2_with fail
        go_ret
        exact ⟨rfl, HB.out⟩
end Go.Proofs.YtdablfanmlmjkaaDoor.tripleThree
