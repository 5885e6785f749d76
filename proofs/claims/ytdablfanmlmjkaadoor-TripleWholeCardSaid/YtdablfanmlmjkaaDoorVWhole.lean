/- The walk of TripleWhole. -/
import Derived.Test.YtdablfanmlmjkaaDoorVBase
namespace Go.Proofs.YtdablfanmlmjkaaDoor.tripleWhole
open Go.RowKit Go.Proofs.YtdablfanmlmjkaaDoor.G Go.Proofs.YtdablfanmlmjkaaDoor.Cell Go.Proofs.YtdablfanmlmjkaaDoor.T3
attribute [local go_sem ↓] Go.wp_at_zero Go.wp_at_succ
set_option maxRecDepth 100000

def InvWh (w : World) (gw br : Nat) (n : Nat) (i : Value) (V : World) : Prop := ∃ (k : Nat) (s : St) (b o lo la c gm gf : Int) (F : Nat → Prop), i = .int .i64 k ∧ k ≤ n ∧ k ≤ 300 ∧ TW V gw br s b o lo la c F ∧ Inv s b o lo la gm gf ∧ 0 ≤ la ∧ 0 ≤ b ∧ b ≤ k ∧ c ≤ k ∧ Below w.heap.size w V ∧ (∀ q, F q → w.heap.size ≤ q)
set_option maxHeartbeats 3000000 in
theorem walk {w : World} {n : Int} {A : Option Addr} {l : List Tn} {cp : Nat} (hg : Et w) (hn : n ≤ 9223372036854775807) (hr : Row w A (tvs l)) (hl : l.length ≤ cp) (hc : cp ≤ 9223372036854775807) :
    Calls Tryd.prog 4 #[.int .i64 n, .slice A l.length cp] w fun e w' => e = .returned (.bool true) ∧ Below w.heap.size w w' := by
  have HG := Lib.hid hg
  have HR := Lib.hid hr
  clear hg hr
  go_enter Tryd.func4, Tryd.ntmps4
  go_wp2_with fail
  refine (lives_any HG.out).mono ?_
  rintro e w1 ⟨rfl, hb1⟩
  go_wp2_with fail
  refine (rnew_any n hn).mono ?_
  rintro e w2 ⟨br, rfl, hr2, hb2⟩
  have hp := HG.out.pos
  obtain ⟨F, hT, hF, hB⟩ := tw_new (w := w1) (by have := hb1.size; omega) hr2 hb2
  have HT := Lib.hid hT
  have HF : Hid (∀ q, F q → w.heap.size ≤ q) := fun q hq => Nat.le_trans hb1.size (hF q hq)
  have HB : Hid (Below w.heap.size w (w2.alloc (.cells #[P br, .int .i64 0, .int .i64 0, .int .i64 0, .int .i64 0, .bool true] 56))) := bt hb1 hB
  have HGW : Hid (w.heap.size ≤ w2.heap.size) := Nat.le_trans hb1.size hb2.size
  unfold P at HT HB ⊢
  clear hT hF hB hr2 hb2 hb1
  obtain ⟨gw, hgw⟩ : ∃ g, w2.heap.size = g := ⟨_, rfl⟩
  rw [hgw] at HT HGW
  go_wp2_with fail
  generalize w2.alloc (.cells #[.pointer (some ⟨br, 0, none⟩), .int .i64 0, .int .i64 0, .int .i64 0, .int .i64 0, .bool true] 56) = V0 at *
  clear hgw
  go_loopw [6] (fun i V => InvWh w gw br l.length i V) (fun i _ => l.length - (intOf i).toNat)
  case atStart => exact ⟨0, _, 0, 0, 0, 0, 0, 0, 0, F, rfl, by omega, by omega, HT.out, inv_s0 (fW_bd n).1 (fW_bd n).2, by omega, by omega, by omega, by omega, HB.out, HF.out⟩
  case round =>
    clear HT HF HB
    obtain ⟨k, s, b, o, lo, la, c, gm, gf, F, rfl, hk, hk4, hT, hI, hla, hb0, hbk, hck, hB, hF⟩ := hrel
    have HT := Lib.hid hT
    have HI := Lib.hid hI
    have HB := Lib.hid hB
    have HF := Lib.hid hF
    clear hT hI hB hF
    by_cases hlt : k < l.length ∧ k < 300
    · obtain ⟨hlt1, hlt4⟩ := hlt
      obtain ⟨u, hu⟩ : ∃ u, l[k]? = some u := ⟨_, List.getElem?_eq_getElem hlt1⟩
      obtain ⟨ab, ao, rfl, hab, hc0, hc1⟩ := tvs_at (HR.out.below HB.out) hu
      have hsz := HB.out.size
      have HOB : Hid (okV (b + 1) = true) := okV_mk (by omega) (by omega)
      clear hu
      obtain ⟨uw, ud⟩ := u
      simp only at hc0 hc1
      cases ud with
      | true =>
        have S0 : Below wr.heap.size wr wr.drew := (Below.refl _ _).drew
        have kw := HT.out.box.cell
        have kz := HT.out.box.lt
        unfold P at kw
        have HTd := Lib.hid (HT.out.below S0)
        have HBd := Lib.hid (HB.out.drew)
        clear S0
        cases uw with
        | true =>
          go_upto_region 8 with fail
          go_still_tail 9, (by kernel_rfl)
          clear kw kz hc0 hc1
          go_wp2_with fail
          refine (wdrop_any HTd.out.reg).mono ?_
          rintro e w5 ⟨rfl, hr5, hO5⟩
          obtain ⟨F5, hT5, hM5, hG5⟩ := HTd.out.call hr5 (More.refl _ _) hO5
          have HT5 := Lib.hid hT5
          have HF5 : Hid (∀ q, F5 q → w.heap.size ≤ q) := low_more HF.out hM5 hsz
          have HB5 := Lib.hid (below_only HBd.out hG5 HF.out HGW.out)
          clear hr5 hO5 hT5 hM5 hG5
          go_wp2_with fail
          go_roundw
          case rel => exact ⟨k + 1, _, _, _, _, _, _, _, _, F5, by go_num, by omega, by omega, HT5.out, inv_wdrop HI.out, hla, by omega, by omega, by omega, HB5.out, HF5.out⟩
          case measure => simp [intOf]; omega
        | false =>
          go_upto_region 8 with fail
          go_still_tail 9, (by kernel_rfl)
          clear kw kz hc0 hc1
          go_wp2_with fail
          refine (rdrop_any HTd.out.reg).mono ?_
          rintro e w5 ⟨rfl, hr5, hO5⟩
          obtain ⟨F5, hT5, hM5, hG5⟩ := HTd.out.call hr5 (More.refl _ _) hO5
          have HT5 := Lib.hid hT5
          have HF5 : Hid (∀ q, F5 q → w.heap.size ≤ q) := low_more HF.out hM5 hsz
          have HB5 := Lib.hid (below_only HBd.out hG5 HF.out HGW.out)
          clear hr5 hO5 hT5 hM5 hG5
          go_wp2_with fail
          go_roundw
          case rel => exact ⟨k + 1, _, _, _, _, _, _, _, _, F5, by go_num, by omega, by omega, HT5.out, inv_rdrop HI.out, hla, by omega, by omega, by omega, HB5.out, HF5.out⟩
          case measure => simp [intOf]; omega
      | false =>
        cases uw with
        | true =>
          obtain ⟨gm', hI', hb1, hb2⟩ := inv_tw HI.out HOB.out
          have HI' := Lib.hid hI'
          clear hI'
          go_wp2_with fail
          refine (turn_w HT.out HOB.out hb0 (by omega)).mono ?_
          rintro e w5 ⟨rfl, F5, hT5, hM5, hO5⟩
          have HT5 := Lib.hid hT5
          have HF5 : Hid (∀ q, F5 q → w.heap.size ≤ q) := low_more HF.out hM5 hsz
          have HB5 := Lib.hid (below_only HB.out hO5 HF.out HGW.out)
          have k5 := hT5.box.cell
          unfold P at k5
          clear hT5 hM5 hO5
          go_wp2_with fail
          go_roundw
          case rel => exact ⟨k + 1, _, _, _, _, _, _, _, _, F5, by go_num, by omega, by omega, HT5.out, HI'.out, hla, by omega, by omega, by omega, HB5.out, HF5.out⟩
          case measure => simp [intOf]; omega
        | false =>
          obtain ⟨v, gm', gf', hv1, hv2, hI'⟩ := inv_tr HI.out
          have HV2 := Lib.hid hv2
          have HI' := Lib.hid hI'
          have HV1 := Lib.hid hv1
          clear hI' hv1 hv2
          go_wp2_with fail
          refine (turn_r HT.out (by omega) v HV1.out).mono ?_
          rintro e w5 ⟨rfl, F5, hT5, hM5, hO5⟩
          have HF5 : Hid (∀ q, F5 q → w.heap.size ≤ q) := low_more HF.out hM5 hsz
          have HB5 := Lib.hid (below_only HB.out hO5 HF.out HGW.out)
          have HM5 := Lib.hid hM5
          have k5 := hT5.box.cell
          unfold P at k5
          have f5 := hT5.box.frozen
          have HT5 := Lib.hid hT5
          clear hO5 hM5
          cases hd : rDone (rBegin s) with
          | false =>
            rw [hd] at HI'
            obtain ⟨lo1, hlo1⟩ : ∃ x, l1 s o lo = x := ⟨_, rfl⟩
            rw [hlo1] at k5 HI' HT5
            clear hT5 hd hlo1
            rw [if_neg (by simp)]
            go_wp2_with fail
            go_roundw
            case rel =>
              have T6 := HT5.out.set_ 4 (.int .i64 la) rfl
              exact ⟨k + 1, _, _, _, _, _, _, _, _, F5, by go_num, by omega, by omega, T6.1, HI'.out, hla, by omega, by omega, by omega, below_only HB5.out T6.2 HF5.out HGW.out, HF5.out⟩
            case measure => simp [intOf]; omega
          | true =>
            rw [hd] at HI'
            obtain ⟨v1, v2, v3⟩ := HV2.out hd
            obtain ⟨lo1, hlo1⟩ : ∃ x, l1 s o lo = x := ⟨_, rfl⟩
            rw [hlo1] at v1 k5 HI' HT5
            clear hT5 hd hlo1
            rw [if_pos rfl]
            go_wp2_with fail
            go_roundw
            case rel =>
              have T6 := HT5.out.set_ (L2 := v) 4 (.int .i64 v) rfl
              have e : (if la < v then v else la) = v := by split <;> omega
              rw [e]
              exact ⟨k + 1, _, _, _, _, _, _, _, _, F5, by go_num, by omega, by omega, T6.1, HI'.out, by omega, by omega, by omega, by omega, below_only HB5.out T6.2 HF5.out HGW.out, HF5.out⟩
            case measure => simp [intOf]; omega
    · have hx : l.length ≤ k ∨ (k < l.length ∧ 300 ≤ k) := by omega
      clear hlt
      rcases hx with hx | ⟨hx1, hx2⟩
      · go_wp2_with fail
        go_ret
        exact ⟨rfl, HB.out⟩
      · go_wp2_with fail
        go_ret
        exact ⟨rfl, HB.out⟩
end Go.Proofs.YtdablfanmlmjkaaDoor.tripleWhole
