/- A turn of the reader as the statements of stage 7 take it. -/
import Derived.Test.YtdablfanmlmjkaaDoorVTurn
import Derived.BigRegion
import Derived.RegionTactic
namespace Go.Proofs.YtdablfanmlmjkaaDoor.T3
open Go.RowKit Go.Proofs.YtdablfanmlmjkaaDoor.G Go.Proofs.YtdablfanmlmjkaaDoor.Cell
attribute [local go_sem ↓] Go.wp_at_zero Go.wp_at_succ
set_option maxRecDepth 100000
variable {w w' : World} {br : Nat} {s : St} {c : Int} {F : Nat → Prop} {gw : Nat} {b o lo L : Int}

def TRP (gw br : Nat) (s : St) (b o lo L c : Int) (F : Nat → Prop) (v : Int) (w : World) (e : Ending) (w' : World) : Prop :=
  e = .returned (.int .i64 (if rDone (rBegin s) then v else -1)) ∧ ∃ F', TW w' gw br (rStep (rBegin s)) b o (l1 s o lo) L (c + 1) F' ∧ More F F' w.heap.size ∧ Only (FG F gw) w w'
def InvCmp (gw br : Nat) (s : St) (b o lo L c : Int) (F : Nat → Prop) (tg : Nat) (l : List Int) (V0 : World) (i : Value) (V : World) : Prop := ∃ k : Nat, i = .int .i64 k ∧ k ≤ l.length ∧ TW V gw br s b o lo L c F ∧ Blk V tg 3 (ints l) ∧ Only (FG F gw) V0 V
theorem rStep_W (s : St) : (rStep s).W = s.W := by
  unfold rStep
  cases s.rd with
  | none => rfl
  | some y =>
    show (rNext s y).W = s.W
    unfold rNext
    split
    · rfl
    · split
      · rfl
      · split <;> rfl
set_option maxHeartbeats 4000000 in
theorem turn_r (h : TW w gw br s b o lo L c F) (hc : c ≤ 1099511627776) (v : Int) (hv : rDone (rBegin s) = true → ∀ i, i < s.W → nth (rOut (rBegin s)) i = v) : Calls Tryd.prog 30 #[.pointer (some ⟨gw, 0, none⟩)] w (TRP gw br s b o lo L c F v w) := by
  have HT := Lib.hid h
  have k0 := h.box.cell
  have f0 := h.box.frozen
  have z0 := h.box.lt
  unfold P at k0
  have hok := h.reg.ok
  have hW6 := hok.w6
  have hW1 := hok.w1
  have HBu := Lib.hid (rbusy_any h.reg)
  obtain ⟨s1, hs1⟩ : ∃ s1, rBegin s = s1 := ⟨_, rfl⟩
  have HS := Lib.hid hs1
  obtain ⟨W, hWW⟩ : ∃ W, s.W = W := ⟨_, rfl⟩
  have HWW := Lib.hid hWW
  have HW1 : Hid (s1.W = W) := by show s1.W = W; rw [← hs1, ← hWW]; unfold rBegin; split <;> rfl
  have HOK1 : Hid (Ok s1) := by
    show Ok s1
    rw [← hs1]; unfold rBegin
    split
    · exact hok
    · exact ok_read hok
  rw [hs1, hWW] at hv
  rw [hWW] at hW6 hW1
  have HV := Lib.hid hv
  have HEr : Hid (rErr s1 = 0) := by
    obtain ⟨y, hy⟩ := r1_some s
    rw [hs1] at hy
    show rErr s1 = 0
    simp [rErr, hy]
  obtain ⟨lo1, hlo1⟩ : ∃ x, l1 s o lo = x := ⟨_, rfl⟩
  have HL1 := Lib.hid hlo1
  have HOK := Lib.hid hok
  clear h hok hv hWW
  cases hy : s.rd with
  | some y =>
    have e1 : s = s1 := by rw [← hs1]; simp [rBegin, hy]
    have e2 : lo = lo1 := by rw [← hlo1]; simp [l1, hy]
    have HTx : Hid (TW w gw br s1 b o lo1 L c F) := by show TW w gw br s1 b o lo1 L c F; rw [← e1, ← e2]; exact HT.out
    have HMx : Hid (More F F w.heap.size) := More.refl _ _
    have HGx : Hid (Only (FG F gw) w w) := .refl _ _
    rw [hy, Option.isSome_some] at HBu
    clear e1 e2 hy hs1 hlo1
    go_enter Tryd.func30, Tryd.ntmps30
    go_wp2_with fail
    refine HBu.out.mono ?_
    rintro e w' ⟨rfl, rfl⟩
    go_upto_region 4 with fail
    clear k0 f0 z0 HT HBu
    have kx := HTx.out.box.cell
    unfold P at kx
    go_wp2_with fail
    refine (rstep_any HTx.out.reg hc).mono ?_
    rintro e w2 ⟨v5, rfl, ho5, hr2, hO2⟩
    rw [HEr.out]
    obtain ⟨F2, hT2, hM2, hG2⟩ := HTx.out.call hr2 (More.refl _ _) hO2
    have HWo := Lib.hid (rwords_any hT2.reg)
    rw [rStep_W, HW1.out] at HWo
    unfold P at HWo
    have hMx := HMx.out
    have hGx := HGx.out
    have hsx := hGx.size
    have hM2' : More F F2 w.heap.size := hMx.trans hM2 hsx
    have k2 := hT2.box.cell
    have f2 := hT2.box.frozen
    unfold P at k2
    obtain ⟨t1, t2⟩ := hT2.set_ 5 (.bool true) rfl
    have HO3 := Lib.hid (ho5.far hT2.box (by decide) 5 (.bool true))
    have HT3 := Lib.hid t1
    have HM3 := Lib.hid hM2'
    have HG3 := Lib.hid (only_chain (only_chain hGx hMx hG2) hM2' t2)
    clear hr2 hO2 hT2 hM2 hG2 ho5 t1 t2 hMx hGx hsx hM2' kx
    cases hd : rDone s1 with
    | false =>
      have HD := Lib.hid hd
      clear hd
      go_wp2_with fail
      go_ret
      unfold TRP
      rw [HS.out, HL1.out, HD.out]
      exact ⟨rfl, F2, HT3.out, HM3.out, HG3.out⟩
    | true =>
      have hlen := rOut_len HOK1.out hd
      have hvv := HV.out hd
      have HD := Lib.hid hd
      obtain ⟨l, hl⟩ : ∃ l, rOut s1 = l := ⟨_, rfl⟩
      have ho := HO3.out
      rw [hl, HW1.out] at hlen
      rw [hl] at hvv
      rw [hl] at ho
      obtain ⟨_, h2⟩ := ho
      rcases h2 with ⟨e0, _⟩ | ⟨tg, rfl, htb⟩
      · exfalso; rw [e0] at hlen; simp at hlen; omega
      have HVV := Lib.hid hvv
      have HTB := Lib.hid htb
      have tl1 : ((l.length : Int) == (W : Int)) = true := by rw [beq_iff_eq]; omega
      have hl0 : 0 < (l.length : Int) := by omega
      have HLen := Lib.hid hlen
      clear hd hl hvv htb HO3
      go_upto_region 6 with (go_at_call 28; refine HWo.out.mono ?_; rintro e w' ⟨rfl, rfl⟩)
      have dW : decide (0 < W) = true := decide_eq_true (by omega)
      rw [dW]
      clear dW
      generalize w2.setCell ⟨gw, 5, none⟩ (.bool true) = V3 at *
      clear k2 f2 tl1 hl0
      have k3 := HT3.out.box.cell
      unfold P at k3
      go_wp2_with fail
      clear k3
      go_loopw [6] (fun i V => InvCmp gw br (rStep s1) b o lo1 L (c + 1) F2 tg l V3 i V) (fun i _ => l.length - (intOf i).toNat)
      case atStart => exact ⟨0, rfl, by omega, HT3.out, HTB.out, .refl _ _⟩
      case round =>
        clear HT3 HTB
        obtain ⟨k, rfl, hk, hT, hB, hO⟩ := hrel
        have HT := Lib.hid hT
        have HB := Lib.hid hB
        have HO := Lib.hid hO
        have n0 : nth l 0 = v := HVV.out 0 (by rw [← HLen.out] at hW1; omega)
        have hpos : 0 < l.length := by rw [HLen.out]; omega
        have c0 := (hB.cell 0).trans (Cell.ints_at l 0 (by omega))
        rw [n0] at c0
        by_cases hlt : k < l.length
        · have nk : nth l k = v := HVV.out k (by omega)
          have c1 := (hB.cell k).trans (Cell.ints_at l k hlt)
          rw [nk] at c1
          have S0 : Below wr.heap.size wr wr.drew := (Below.refl _ _).drew
          have hTd := hT.below S0
          have hBd := hB.bel S0
          have T5 := hTd.set_ 5 (.bool true) rfl
          have HT5 := Lib.hid T5.1
          have HO5 := Lib.hid (hO.trans_ ((Only.of_below S0).trans_ T5.2))
          have HB5 := Lib.hid (hBd.far (p := ⟨gw, 5, none⟩) (hBd.ne_ hTd.box (by decide)) (.bool true))
          have d0 : wr.drew.cell? ⟨tg, 0, none⟩ = some (.int .i64 v) := c0
          have d1 : wr.drew.cell? ⟨tg, k, none⟩ = some (.int .i64 v) := c1
          have dk := hTd.box.cell
          have df := hTd.box.frozen
          have dz := hTd.box.lt
          unfold P at dk
          clear hT hB hO T5 nk n0 c0 c1 hTd hBd S0 hpos
          go_upto_region 11 with fail
          go_region
          go_wp2_with fail
          go_roundw
          case rel => exact ⟨k + 1, by go_num, by omega, HT5.out, HB5.out, HO5.out⟩
          case measure => simp [intOf]; omega
        · clear hT hB hO n0
          go_wp2_with fail
          go_ret
          unfold TRP
          rw [HS.out, HL1.out, HD.out]
          exact ⟨rfl, F2, HT.out, HM3.out, only_chain HG3.out HM3.out HO.out⟩
  | none =>
    have eC : rCode s = 0 := by simp [rCode, hy]
    have e2 : o = lo1 := by rw [← hlo1]; simp [l1, hy]
    obtain ⟨T1, O1⟩ := HT.out.set_ (lo2 := o) 3 (.int .i64 o) rfl
    have HT1 := Lib.hid T1
    have HO1 := Lib.hid O1
    have q1 := T1.box.cell
    unfold P at q1
    have HX := Lib.hid (And.intro eC e2)
    rw [hy, Option.isSome_none] at HBu
    clear eC e2 hy hs1 hlo1 T1 O1
    go_enter Tryd.func30, Tryd.ntmps30
    go_wp2_with fail
    refine HBu.out.mono ?_
    rintro e w' ⟨rfl, rfl⟩
    go_upto_region 3 with fail
    obtain ⟨V1, hV1⟩ : ∃ V, w.setCell ⟨gw, 3, none⟩ (.int .i64 o) = V := ⟨_, rfl⟩
    rw [hV1] at HT1 HO1 q1 ⊢
    clear hV1 k0 f0 z0 HT HBu
    go_wp2_with fail
    refine (rread_any HT1.out.reg).mono ?_
    rintro e w4 ⟨rfl, hr4, hO4⟩
    rw [HX.out.1]
    obtain ⟨F4, hT4, hM4, hG4⟩ := HT1.out.call hr4 (more_gr _ _) hO4
    have k4 := hT4.box.cell
    have f4 := hT4.box.frozen
    unfold P at k4
    obtain ⟨t1, t2⟩ := hT4.set_ 5 (.bool true) rfl
    have hs : w.heap.size ≤ V1.heap.size := HO1.out.size
    have hM : More F F4 w.heap.size := fun q hq => (hM4 q hq).imp id fun h => Nat.le_trans hs h
    have hO' : Only (FG F gw) w w4 := HO1.out.trans_ hG4
    have HMx := Lib.hid hM
    have HGx := Lib.hid (only_chain hO' hM t2)
    have HTx : Hid (TW (w4.setCell ⟨gw, 5, none⟩ (.bool true)) gw br s1 b o lo1 L c F4) := by
      have h1 := t1
      rw [HS.out] at h1
      have h2 := HX.out.2
      rw [← h2]; exact h1
    clear hr4 hO4 hT4 hM4 hG4 t1 t2 hs hM hO' HT1 HO1 q1
    go_upto_region 4 with fail
    generalize w4.setCell ⟨gw, 5, none⟩ (.bool true) = VX at *
    clear k4 f4
    have kx := HTx.out.box.cell
    unfold P at kx
    go_wp2_with fail
    refine (rstep_any HTx.out.reg hc).mono ?_
    rintro e w2 ⟨v5, rfl, ho5, hr2, hO2⟩
    rw [HEr.out]
    obtain ⟨F2, hT2, hM2, hG2⟩ := HTx.out.call hr2 (More.refl _ _) hO2
    have HWo := Lib.hid (rwords_any hT2.reg)
    rw [rStep_W, HW1.out] at HWo
    unfold P at HWo
    have hMx := HMx.out
    have hGx := HGx.out
    have hsx := hGx.size
    have hM2' : More F F2 w.heap.size := hMx.trans hM2 hsx
    have k2 := hT2.box.cell
    have f2 := hT2.box.frozen
    unfold P at k2
    obtain ⟨t1, t2⟩ := hT2.set_ 5 (.bool true) rfl
    have HO3 := Lib.hid (ho5.far hT2.box (by decide) 5 (.bool true))
    have HT3 := Lib.hid t1
    have HM3 := Lib.hid hM2'
    have HG3 := Lib.hid (only_chain (only_chain hGx hMx hG2) hM2' t2)
    clear hr2 hO2 hT2 hM2 hG2 ho5 t1 t2 hMx hGx hsx hM2' kx
    cases hd : rDone s1 with
    | false =>
      have HD := Lib.hid hd
      clear hd
      go_wp2_with fail
      go_ret
      unfold TRP
      rw [HS.out, HL1.out, HD.out]
      exact ⟨rfl, F2, HT3.out, HM3.out, HG3.out⟩
    | true =>
      have hlen := rOut_len HOK1.out hd
      have hvv := HV.out hd
      have HD := Lib.hid hd
      obtain ⟨l, hl⟩ : ∃ l, rOut s1 = l := ⟨_, rfl⟩
      have ho := HO3.out
      rw [hl, HW1.out] at hlen
      rw [hl] at hvv
      rw [hl] at ho
      obtain ⟨_, h2⟩ := ho
      rcases h2 with ⟨e0, _⟩ | ⟨tg, rfl, htb⟩
      · exfalso; rw [e0] at hlen; simp at hlen; omega
      have HVV := Lib.hid hvv
      have HTB := Lib.hid htb
      have tl1 : ((l.length : Int) == (W : Int)) = true := by rw [beq_iff_eq]; omega
      have hl0 : 0 < (l.length : Int) := by omega
      have HLen := Lib.hid hlen
      clear hd hl hvv htb HO3
      go_upto_region 6 with (go_at_call 28; refine HWo.out.mono ?_; rintro e w' ⟨rfl, rfl⟩)
      have dW : decide (0 < W) = true := decide_eq_true (by omega)
      rw [dW]
      clear dW
      generalize w2.setCell ⟨gw, 5, none⟩ (.bool true) = V3 at *
      clear k2 f2 tl1 hl0
      have k3 := HT3.out.box.cell
      unfold P at k3
      go_wp2_with fail
      clear k3
      go_loopw [6] (fun i V => InvCmp gw br (rStep s1) b o lo1 L (c + 1) F2 tg l V3 i V) (fun i _ => l.length - (intOf i).toNat)
      case atStart => exact ⟨0, rfl, by omega, HT3.out, HTB.out, .refl _ _⟩
      case round =>
        clear HT3 HTB
        obtain ⟨k, rfl, hk, hT, hB, hO⟩ := hrel
        have HT := Lib.hid hT
        have HB := Lib.hid hB
        have HO := Lib.hid hO
        have n0 : nth l 0 = v := HVV.out 0 (by rw [← HLen.out] at hW1; omega)
        have hpos : 0 < l.length := by rw [HLen.out]; omega
        have c0 := (hB.cell 0).trans (Cell.ints_at l 0 (by omega))
        rw [n0] at c0
        by_cases hlt : k < l.length
        · have nk : nth l k = v := HVV.out k (by omega)
          have c1 := (hB.cell k).trans (Cell.ints_at l k hlt)
          rw [nk] at c1
          have S0 : Below wr.heap.size wr wr.drew := (Below.refl _ _).drew
          have hTd := hT.below S0
          have hBd := hB.bel S0
          have T5 := hTd.set_ 5 (.bool true) rfl
          have HT5 := Lib.hid T5.1
          have HO5 := Lib.hid (hO.trans_ ((Only.of_below S0).trans_ T5.2))
          have HB5 := Lib.hid (hBd.far (p := ⟨gw, 5, none⟩) (hBd.ne_ hTd.box (by decide)) (.bool true))
          have d0 : wr.drew.cell? ⟨tg, 0, none⟩ = some (.int .i64 v) := c0
          have d1 : wr.drew.cell? ⟨tg, k, none⟩ = some (.int .i64 v) := c1
          have dk := hTd.box.cell
          have df := hTd.box.frozen
          have dz := hTd.box.lt
          unfold P at dk
          clear hT hB hO T5 nk n0 c0 c1 hTd hBd S0 hpos
          go_upto_region 11 with fail
          go_region
          go_wp2_with fail
          go_roundw
          case rel => exact ⟨k + 1, by go_num, by omega, HT5.out, HB5.out, HO5.out⟩
          case measure => simp [intOf]; omega
        · clear hT hB hO n0
          go_wp2_with fail
          go_ret
          unfold TRP
          rw [HS.out, HL1.out, HD.out]
          exact ⟨rfl, F2, HT.out, HM3.out, only_chain HG3.out HM3.out HO.out⟩
end Go.Proofs.YtdablfanmlmjkaaDoor.T3
