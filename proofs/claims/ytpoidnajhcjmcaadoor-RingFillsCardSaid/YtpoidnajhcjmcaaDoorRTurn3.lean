/- A turn of who pops, as the statements of stage 8 take it. -/
import Derived.Test.YtpoidnajhcjmcaaDoorRTurn
namespace Go.Proofs.YtpoidnajhcjmcaaDoor.R8
open Go.RowKit Go.Proofs.YtpoidnajhcjmcaaDoor.G Go.Proofs.YtpoidnajhcjmcaaDoor.Cell Go.Proofs.YtpoidnajhcjmcaaDoor.Ob
set_option maxRecDepth 100000
variable {w w' : World} {br gw : Nat} {s : St} {c : Int} {F : Nat → Prop} {fu lo : Bool}
def TOP (gw br : Nat) (s : St) (i o : Nat) (fu lo : Bool) (c : Int) (F : Nat → Prop) (w : World) (e : Ending) (w' : World) : Prop :=
  e = .returned (.tuple #[]) ∧ ∃ F', TW w' gw br (oStep (oBegin s)) i (o1 s o : Nat) fu (lo1 s i o lo) (c + 1) F' ∧ More F F' w.heap.size ∧ Only (FG F gw) w w'
theorem Tld.lf {V : World} {v : Value} {l : List Int} (h : Tld V F v l) : LF V F v l := by
  obtain ⟨A, cp, e, hrow, h1, h2, h3⟩ := Own.row h.1
  unfold maxLen at h2
  refine ⟨A, cp, e, h1, h2, fun h0 => ?_⟩
  obtain ⟨b, a, rfl, hlt, hc⟩ := hrow (by simp; omega)
  obtain ⟨rfl, _, _⟩ := h3 b a rfl
  exact ⟨b, 0, rfl, h.2 b (by rw [e]; simp [Value.ownBlock]), hlt, fun j hj => hc j _ (iv'_at l hj)⟩
/-- What the tail of the turn asks. -/
def OCase (s : St) (lo : Bool) (o : Nat) : Prop := (oErr s = 0 ∧ oOver s = false) ∨ (oErr s = 0 ∧ oOver s = true ∧ oTold s = List.replicate s.W ((o : Int) + 1)) ∨ (oErr s = 2 ∧ oOver s = true ∧ lo = true)
theorem oWD (s : St) : (oStep s).W = s.W ∧ (oBegin s).W = s.W := by
  constructor
  · unfold oStep
    cases s.po with
    | none => rfl
    | some y => simp only; unfold oNext; split <;> (try split) <;> (try split) <;> rfl
  · unfold oBegin; split <;> rfl
def InvR (gw br : Nat) (s : St) (i o : Int) (fu lo : Bool) (c : Int) (F : Nat → Prop) (W : Nat) (V3 : World) (k : Value) (V : World) : Prop := ∃ n : Nat, k = .int .i64 n ∧ n ≤ W ∧ TW V gw br s i o fu lo c F ∧ Only (fun b => b = gw) V3 V
set_option maxHeartbeats 4000000 in
theorem turn_o_some {i o : Nat} {y : Po} (h : TW w gw br s i o fu lo c F) (hy : s.po = some y) (ho : o ≤ 1000000) (hc : c ≤ 1099511627776) (hf : OCase s lo o) : Calls Tryd.prog 73 #[.pointer (some ⟨gw, 0, none⟩)] w (TOP gw br s i o fu lo c F w) := by
  have HT := Lib.hid h
  have k0 := h.box.cell
  unfold P at k0
  have HBu := Lib.hid (obusy_any h.reg)
  have e1 : oBegin s = s := by simp [oBegin, hy]
  obtain ⟨s1, hs1⟩ : ∃ s1, s = s1 := ⟨_, rfl⟩
  have HS1 := Lib.hid hs1
  have HL : Hid (lo1 s i o lo = lo) := by show lo1 s i o lo = lo; simp [lo1, hy]
  have HB1 : Hid (oBegin s = s1) := e1.trans hs1
  have HO : Hid (o1 s o = if oOver s1 && decide (oErr s1 = 0) then o + 1 else o) := by show o1 s o = _; unfold o1; rw [e1, hs1]
  have HC : Hid (OCase s1 lo o) := hs1 ▸ hf
  obtain ⟨W, hW⟩ : ∃ W, s1.W = W := ⟨_, rfl⟩
  have HWW := Lib.hid hW
  have hW6 : W ≤ 6 := by rw [← hW, ← hs1]; exact h.reg.ok.w6
  rw [hy, Option.isSome_some] at HBu
  have HMo : Hid (More F F w.heap.size) := More.refl _ _
  have HOn : Hid (Only (FG F gw) w w) := .refl _ _
  have HSz : Hid (w.heap.size ≤ w.heap.size) := Nat.le_refl _
  unfold TOP
  rw [HB1.out]
  rw [hs1] at HT
  clear h e1 hf hy hW hs1
  go_enter Tryd.func73, Tryd.ntmps73
  go_wp2_with fail
  refine HBu.out.mono ?_
  rintro e w' ⟨rfl, rfl⟩
  go_wp2_with fail
  refine (ostep_any HT.out.reg hc).mono ?_
  rintro e w2 ⟨v, rfl, hv2, hr2, hO2⟩
  have HLF := Lib.hid hv2.lf
  obtain ⟨F2, hT2, hM2, hG2⟩ := HT.out.call hr2 (more_gr _ _) hO2
  have HT2 := Lib.hid hT2
  have HM2 := Lib.hid (And.intro hM2 hG2)
  have HFO := Lib.hid HT.out.out
  have k2 := hT2.box.cell
  have f2 := hT2.box.frozen
  unfold P at k2
  clear hr2 hO2 hT2 hM2 hG2 hv2
  rcases HC.out with ⟨a1, a2⟩ | ⟨a1, a2, a3⟩ | ⟨a1, a2, a3⟩
  · have HA := Lib.hid (And.intro a1 a2)
    rw [a1, a2]
    clear a1 a2
    go_wp2_with fail
    obtain ⟨t1, t2⟩ := HT2.out.set_ 5 (.bool true) rfl
    refine bodyPost_ret (v := .tuple #[]) (by simp [results, Tryd.results73, go_sem]) rfl ⟨rfl, F2, ?_, HMo.out.trans HM2.out.1 HSz.out, only_chain (only_chain HOn.out HMo.out HM2.out.2) (HMo.out.trans HM2.out.1 HSz.out) t2⟩
    rw [HO.out, HL.out, HA.out.1, HA.out.2]
    exact t1
  · have HA := Lib.hid (And.intro a1 a2)
    obtain ⟨A, cp, rfl, hc1, hc2, hcell⟩ := HLF.out
    have HLF2 := Lib.hid hcell
    have hlen : (oTold s1).length = W := by rw [a3, List.length_replicate]; exact HWW.out
    have HA3 := Lib.hid a3
    have HLE := Lib.hid hlen
    rw [a1, a2]
    rw [hlen] at hc1 HLF ⊢
    clear a1 a2 a3 hcell
    obtain ⟨t1, t2⟩ := HT2.out.set_ 5 (.bool true) rfl
    obtain ⟨t3, t4⟩ := t1.set_ (o2 := (o : Int) + 1) 2 (.int .i64 ((o : Int) + 1)) rfl
    have HT3 := Lib.hid t3
    have HO3 : Hid (Only (fun b => b = gw) w2 ((w2.setCell ⟨gw, 5, none⟩ (.bool true)).setCell ⟨gw, 2, none⟩ (.int .i64 ((o : Int) + 1)))) := ((Only.refl (fun b => b = gw) w2).set_ rfl 5 _).set_ rfl 2 _
    obtain ⟨V3, hV3⟩ : ∃ V, (w2.setCell ⟨gw, 5, none⟩ (.bool true)).setCell ⟨gw, 2, none⟩ (.int .i64 ((o : Int) + 1)) = V := ⟨_, rfl⟩
    rw [hV3] at HT3 HO3
    clear t1 t2 t3 t4
    go_upto_region 7 with fail
    clear hV3 k2 f2
    have q3 := HT3.out.box.cell
    have f3 := HT3.out.box.frozen
    have HWo := Lib.hid (rwords_any HT3.out.reg)
    rw [(oWD s1).1, HWW.out] at HWo
    unfold P at HWo q3
    go_wp2_with fail
    refine HWo.out.mono ?_
    rintro e w4 ⟨rfl, rfl⟩
    obtain ⟨t4, o4⟩ := HT3.out.set_ 5 (.bool true) rfl
    have HT4 := Lib.hid t4
    have HO4 : Hid (Only (fun b => b = gw) w2 (V3.setCell ⟨gw, 5, none⟩ (.bool true))) := HO3.out.set_ rfl 5 _
    obtain ⟨V4, hV4⟩ : ∃ V, V3.setCell ⟨gw, 5, none⟩ (.bool true) = V := ⟨_, rfl⟩
    rw [hV4] at HT4 HO4
    clear t4 o4
    go_upto_region 8 with fail
    clear hV4 q3 f3
    go_wp2_with fail
    go_loopw [5] (fun k V => InvR gw br (oStep s1) i ((o : Int) + 1) fu lo (c + 1) F2 W V4 k V) (fun k _ => W - (intOf k).toNat)
    case atStart => exact ⟨0, rfl, by omega, HT4.out, .refl _ _⟩
    case round =>
      obtain ⟨k, rfl, hk, hT5, hO5⟩ := hrel
      have HT5 := Lib.hid hT5
      have HO5 := Lib.hid hO5
      clear hT5 hO5 HT4
      by_cases hlt : k < W
      · obtain ⟨g, a, rfl, hFg, hgs, hcc⟩ := HLF2.out (by rw [HLE.out]; omega)
        have c1 : wr.cell? ⟨g, a + k, none⟩ = some (.int .i64 ((o : Int) + 1)) := by
          have hne : ¬ g = gw := fun e => HFO.out (e ▸ hFg)
          rw [World.cell?_of_block (HO5.out.block g (Nat.lt_of_lt_of_le hgs HO4.out.size) hne), World.cell?_of_block (HO4.out.block g hgs hne), hcc k (by rw [HLE.out]; exact hlt), HA3.out, nth_rep _ _ _ (by rw [HWW.out]; exact hlt)]
        have kk := HT5.out.box.cell
        unfold P at kk
        have kk0 : (0 : Int) ≤ (k : Int) := by omega
        have kk1 : (k : Int) < (W : Int) := by omega
        have ff := HT5.out.box.frozen
        obtain ⟨t6, _⟩ := HT5.out.set_ 5 (.bool true) rfl
        have HT6 := Lib.hid t6
        have HO6 : Hid (Only (fun b => b = gw) V4 (wr.setCell ⟨gw, 5, none⟩ (.bool true))) := HO5.out.set_ rfl 5 _
        clear t6
        go_wp2_with fail
        go_still_tail 18, (by kernel_rfl)
        go_wp2_with fail
        go_roundw
        case rel => exact ⟨k + 1, by go_num, by omega, HT6.out.below ((Below.refl _ _).drew), HO6.out.drew⟩
        case measure => simp [intOf]; omega
      · obtain rfl : k = W := by omega
        go_wp2_with fail
        refine bodyPost_end (v := .tuple #[]) (by simp [results, Tryd.results73, go_sem]) rfl ⟨rfl, F2, ?_, HMo.out.trans HM2.out.1 HSz.out, only_chain (only_chain HOn.out HMo.out HM2.out.2) (HMo.out.trans HM2.out.1 HSz.out) ((HO4.out.trans_ HO5.out).mono fun b e => .inr e)⟩
        rw [HO.out, HL.out, HA.out.1, HA.out.2]
        exact HT5.out
  · have HA := Lib.hid (And.intro a1 a2)
    rw [a1, a2]
    have HLo := Lib.hid a3
    rw [a3] at k2 HT2
    clear a1 a2 a3
    go_wp2_with fail
    obtain ⟨t1, t2⟩ := HT2.out.set_ 5 (.bool true) rfl
    refine bodyPost_ret (v := .tuple #[]) (by simp [results, Tryd.results73, go_sem]) rfl ⟨rfl, F2, ?_, HMo.out.trans HM2.out.1 HSz.out, only_chain (only_chain HOn.out HMo.out HM2.out.2) (HMo.out.trans HM2.out.1 HSz.out) t2⟩
    rw [HO.out, HL.out, HA.out.1, HA.out.2, HLo.out]
    exact t1
set_option maxHeartbeats 4000000 in
theorem turn_o_none {i o : Nat} (h : TW w gw br s i o fu lo c F) (hy : s.po = none) (ho : o ≤ 1000000) (hi : i ≤ 1000000) (hc : c ≤ 1099511627776) (hf : OCase (oBegin s) (lo1 s i o lo) o) : Calls Tryd.prog 73 #[.pointer (some ⟨gw, 0, none⟩)] w (TOP gw br s i o fu lo c F w) := by
  have HT0 := Lib.hid h
  have k0 := h.box.cell
  unfold P at k0
  have HBu := Lib.hid (obusy_any h.reg)
  have HPo := Lib.hid (pop_any h.reg)
  have e1 : oCode s = 0 := by simp [oCode, hy]
  obtain ⟨s1, hs1⟩ : ∃ s1, oBegin s = s1 := ⟨_, rfl⟩
  obtain ⟨lz, hlz⟩ : ∃ lz, decide (i = o) = lz := ⟨_, rfl⟩
  have e2 : lo1 s i o lo = lz := by simp [lo1, hy, hlz]
  have HL := Lib.hid e2
  have HB1 := Lib.hid hs1
  have HO : Hid (o1 s o = if oOver s1 && decide (oErr s1 = 0) then o + 1 else o) := by show o1 s o = _; unfold o1; rw [hs1]
  have HC : Hid (OCase s1 lz o) := by have := hf; rw [hs1, e2] at this; exact this
  obtain ⟨W, hW⟩ : ∃ W, s1.W = W := ⟨_, rfl⟩
  have HWW := Lib.hid hW
  have hW6 : W ≤ 6 := by rw [← hW, ← hs1, (oWD s).2]; exact h.reg.ok.w6
  rw [hy, Option.isSome_none] at HBu
  rw [e1, hs1] at HPo
  unfold P at HPo
  have tF : ((i : Int) == (o : Int)) = lz := by
    rw [← hlz, Bool.eq_iff_iff, beq_iff_eq, decide_eq_true_eq]; omega
  unfold TOP
  rw [HB1.out]
  clear h e1 e2 hf hy hW hs1 hlz
  go_enter Tryd.func73, Tryd.ntmps73
  go_wp2_with fail
  refine HBu.out.mono ?_
  rintro e w' ⟨rfl, rfl⟩
  go_wp2_with fail
  refine HPo.out.mono ?_
  rintro e w5 ⟨rfl, hr5, hO5⟩
  obtain ⟨F5, hT5, hM5, hG5⟩ := HT0.out.call hr5 (more_gr _ _) hO5
  have HMo := Lib.hid hM5
  have hq5 := hT5.box.cell
  have fq5 := hT5.box.frozen
  unfold P at hq5
  obtain ⟨t6, o6⟩ := hT5.set_ 5 (.bool true) rfl
  have HT6 := Lib.hid t6
  have HG6 := Lib.hid (only_chain hG5 hM5 o6)
  obtain ⟨V6, hV6⟩ : ∃ V, w5.setCell ⟨gw, 5, none⟩ (.bool true) = V := ⟨_, rfl⟩
  rw [hV6] at HT6 HG6
  clear hr5 hO5 hT5 hM5 hG5 t6 o6 HPo
  go_upto_region 2 with fail
  clear hV6 hq5 fq5 k0
  have q6 := HT6.out.box.cell
  have f6 := HT6.out.box.frozen
  have z6 := HT6.out.box.lt
  unfold P at q6
  go_still_tail 12, (by kernel_rfl)
  obtain ⟨t7, o7⟩ := HT6.out.set_ (lo2 := lz) 4 (.bool lz) rfl
  have HT : Hid (TW (V6.setCell ⟨gw, 4, none⟩ (.bool lz)).drew gw br s1 i o fu lz c F5) := t7.below ((Below.refl _ _).drew)
  have HOn : Hid (Only (FG F gw) w (V6.setCell ⟨gw, 4, none⟩ (.bool lz)).drew) := (only_chain HG6.out HMo.out o7).drew
  have HSz : Hid (w.heap.size ≤ (V6.setCell ⟨gw, 4, none⟩ (.bool lz)).drew.heap.size) := HOn.out.size
  clear t7 o7
  go_upto_region 3 with fail
  generalize (V6.setCell ⟨gw, 4, none⟩ (.bool lz)).drew = V7 at *
  have q7 := HT.out.box.cell
  unfold P at q7
  clear q6 f6 z6 tF
  go_wp2_with fail
  refine (ostep_any HT.out.reg hc).mono ?_
  rintro e w2 ⟨v, rfl, hv2, hr2, hO2⟩
  have HLF := Lib.hid hv2.lf
  obtain ⟨F2, hT2, hM2, hG2⟩ := HT.out.call hr2 (more_gr _ _) hO2
  have HT2 := Lib.hid hT2
  have HM2 := Lib.hid (And.intro hM2 hG2)
  have HFO := Lib.hid HT.out.out
  have k2 := hT2.box.cell
  have f2 := hT2.box.frozen
  unfold P at k2
  clear hr2 hO2 hT2 hM2 hG2 hv2
  rcases HC.out with ⟨a1, a2⟩ | ⟨a1, a2, a3⟩ | ⟨a1, a2, a3⟩
  · have HA := Lib.hid (And.intro a1 a2)
    rw [a1, a2]
    clear a1 a2
    go_wp2_with fail
    obtain ⟨t1, t2⟩ := HT2.out.set_ 5 (.bool true) rfl
    refine bodyPost_ret (v := .tuple #[]) (by simp [results, Tryd.results73, go_sem]) rfl ⟨rfl, F2, ?_, HMo.out.trans HM2.out.1 HSz.out, only_chain (only_chain HOn.out HMo.out HM2.out.2) (HMo.out.trans HM2.out.1 HSz.out) t2⟩
    rw [HO.out, HL.out, HA.out.1, HA.out.2]
    exact t1
  · have HA := Lib.hid (And.intro a1 a2)
    obtain ⟨A, cp, rfl, hc1, hc2, hcell⟩ := HLF.out
    have HLF2 := Lib.hid hcell
    have hlen : (oTold s1).length = W := by rw [a3, List.length_replicate]; exact HWW.out
    have HA3 := Lib.hid a3
    have HLE := Lib.hid hlen
    rw [a1, a2]
    rw [hlen] at hc1 HLF ⊢
    clear a1 a2 a3 hcell
    obtain ⟨t1, t2⟩ := HT2.out.set_ 5 (.bool true) rfl
    obtain ⟨t3, t4⟩ := t1.set_ (o2 := (o : Int) + 1) 2 (.int .i64 ((o : Int) + 1)) rfl
    have HT3 := Lib.hid t3
    have HO3 : Hid (Only (fun b => b = gw) w2 ((w2.setCell ⟨gw, 5, none⟩ (.bool true)).setCell ⟨gw, 2, none⟩ (.int .i64 ((o : Int) + 1)))) := ((Only.refl (fun b => b = gw) w2).set_ rfl 5 _).set_ rfl 2 _
    obtain ⟨V3, hV3⟩ : ∃ V, (w2.setCell ⟨gw, 5, none⟩ (.bool true)).setCell ⟨gw, 2, none⟩ (.int .i64 ((o : Int) + 1)) = V := ⟨_, rfl⟩
    rw [hV3] at HT3 HO3
    clear t1 t2 t3 t4
    go_upto_region 7 with fail
    clear hV3 k2 f2
    have q3 := HT3.out.box.cell
    have f3 := HT3.out.box.frozen
    have HWo := Lib.hid (rwords_any HT3.out.reg)
    rw [(oWD s1).1, HWW.out] at HWo
    unfold P at HWo q3
    go_wp2_with fail
    refine HWo.out.mono ?_
    rintro e w4 ⟨rfl, rfl⟩
    obtain ⟨t4, o4⟩ := HT3.out.set_ 5 (.bool true) rfl
    have HT4 := Lib.hid t4
    have HO4 : Hid (Only (fun b => b = gw) w2 (V3.setCell ⟨gw, 5, none⟩ (.bool true))) := HO3.out.set_ rfl 5 _
    obtain ⟨V4, hV4⟩ : ∃ V, V3.setCell ⟨gw, 5, none⟩ (.bool true) = V := ⟨_, rfl⟩
    rw [hV4] at HT4 HO4
    clear t4 o4
    go_upto_region 8 with fail
    clear hV4 q3 f3
    go_wp2_with fail
    go_loopw [5] (fun k V => InvR gw br (oStep s1) i ((o : Int) + 1) fu lz (c + 1) F2 W V4 k V) (fun k _ => W - (intOf k).toNat)
    case atStart => exact ⟨0, rfl, by omega, HT4.out, .refl _ _⟩
    case round =>
      obtain ⟨k, rfl, hk, hT5, hO5⟩ := hrel
      have HT5 := Lib.hid hT5
      have HO5 := Lib.hid hO5
      clear hT5 hO5 HT4
      by_cases hlt : k < W
      · obtain ⟨g, a, rfl, hFg, hgs, hcc⟩ := HLF2.out (by rw [HLE.out]; omega)
        have c1 : wr.cell? ⟨g, a + k, none⟩ = some (.int .i64 ((o : Int) + 1)) := by
          have hne : ¬ g = gw := fun e => HFO.out (e ▸ hFg)
          rw [World.cell?_of_block (HO5.out.block g (Nat.lt_of_lt_of_le hgs HO4.out.size) hne), World.cell?_of_block (HO4.out.block g hgs hne), hcc k (by rw [HLE.out]; exact hlt), HA3.out, nth_rep _ _ _ (by rw [HWW.out]; exact hlt)]
        have kk := HT5.out.box.cell
        unfold P at kk
        have kk0 : (0 : Int) ≤ (k : Int) := by omega
        have kk1 : (k : Int) < (W : Int) := by omega
        have ff := HT5.out.box.frozen
        obtain ⟨t6, _⟩ := HT5.out.set_ 5 (.bool true) rfl
        have HT6 := Lib.hid t6
        have HO6 : Hid (Only (fun b => b = gw) V4 (wr.setCell ⟨gw, 5, none⟩ (.bool true))) := HO5.out.set_ rfl 5 _
        clear t6
        go_wp2_with fail
        go_still_tail 18, (by kernel_rfl)
        go_wp2_with fail
        go_roundw
        case rel => exact ⟨k + 1, by go_num, by omega, HT6.out.below ((Below.refl _ _).drew), HO6.out.drew⟩
        case measure => simp [intOf]; omega
      · obtain rfl : k = W := by omega
        go_wp2_with fail
        refine bodyPost_end (v := .tuple #[]) (by simp [results, Tryd.results73, go_sem]) rfl ⟨rfl, F2, ?_, HMo.out.trans HM2.out.1 HSz.out, only_chain (only_chain HOn.out HMo.out HM2.out.2) (HMo.out.trans HM2.out.1 HSz.out) ((HO4.out.trans_ HO5.out).mono fun b e => .inr e)⟩
        rw [HO.out, HL.out, HA.out.1, HA.out.2]
        exact HT5.out
  · have HA := Lib.hid (And.intro a1 a2)
    rw [a1, a2]
    have HLo := Lib.hid a3
    rw [a3] at k2 HT2
    clear a1 a2 a3
    go_wp2_with fail
    obtain ⟨t1, t2⟩ := HT2.out.set_ 5 (.bool true) rfl
    refine bodyPost_ret (v := .tuple #[]) (by simp [results, Tryd.results73, go_sem]) rfl ⟨rfl, F2, ?_, HMo.out.trans HM2.out.1 HSz.out, only_chain (only_chain HOn.out HMo.out HM2.out.2) (HMo.out.trans HM2.out.1 HSz.out) t2⟩
    rw [HO.out, HL.out, HA.out.1, HA.out.2, HLo.out]
    exact t1
theorem turn_o {i o : Nat} (h : TW w gw br s i o fu lo c F) (hi : i ≤ 1000000) (ho : o ≤ 1000000) (hc : c ≤ 1099511627776) (hf : OCase (oBegin s) (lo1 s i o lo) o) : Calls Tryd.prog 73 #[.pointer (some ⟨gw, 0, none⟩)] w (TOP gw br s i o fu lo c F w) := by
  cases hy : s.po with
  | none => exact turn_o_none h hy ho hi hc hf
  | some y =>
    refine turn_o_some h hy ho hc ?_
    have e1 : oBegin s = s := by simp [oBegin, hy]
    have e2 : lo1 s i o lo = lo := by simp [lo1, hy]
    rwa [e1, e2] at hf
end Go.Proofs.YtpoidnajhcjmcaaDoor.R8
