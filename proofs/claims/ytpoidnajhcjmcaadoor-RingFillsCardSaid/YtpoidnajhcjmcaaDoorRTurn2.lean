/- A turn of who pushes, where none is under way. -/
import Derived.Test.YtpoidnajhcjmcaaDoorRTurn
namespace Go.Proofs.YtpoidnajhcjmcaaDoor.R8
open Go.RowKit Go.Proofs.YtpoidnajhcjmcaaDoor.G Go.Proofs.YtpoidnajhcjmcaaDoor.Cell Go.Proofs.YtpoidnajhcjmcaaDoor.Ob
set_option maxRecDepth 100000
variable {w w' : World} {br gw : Nat} {s : St} {c : Int} {F : Nat → Prop} {fu lo : Bool}
set_option maxHeartbeats 4000000 in
theorem turn_u_none {i o : Nat} (h : TW w gw br s i o fu lo c F) (hx : s.pu = none) (hi : i ≤ 1000000) (ho : o ≤ i) (hc : c ≤ 1099511627776) : Calls Tryd.prog 72 #[.pointer (some ⟨gw, 0, none⟩)] w (TWP gw br s i o fu lo c F w) := by
  have hb : okV ((i : Int) + 1) = true := okV_mk (by omega) (by omega)
  have HT := Lib.hid h
  have HOB := Lib.hid hb
  have k0 := h.box.cell
  unfold P at k0
  have hok := h.reg.ok
  have hW6 := hok.w6
  have hW1 := hok.w1
  have hD8 := hok.d8
  have HBu := Lib.hid (ubusy_any h.reg)
  have HWo := Lib.hid (rwords_any h.reg)
  clear h hb hok
  have e1 : u1 s i = { s with pu := some ⟨0, 0, 0, List.replicate s.W ((i : Int) + 1)⟩ } := by simp [u1, hx]
  have e2 : fu1 s i o fu = decide (i = o + s.D) := by simp [fu1, hx]
  have eD : uOver (u1 s i) = false := by
    rw [e1]; simp [uOver]; omega
  have eE : uErr (u1 s i) = 0 := by rw [e1]; simp [uErr]
  have eI : i1 s i = i := by unfold i1; rw [eD]; rfl
  have hall : allOk (List.replicate s.W ((i : Int) + 1)) = true := allOk_rep _ HOB.out
  have eM : may s (List.replicate s.W ((i : Int) + 1)) = true := by unfold may; rw [hall]; simp
  have eC : uCode s (List.replicate s.W ((i : Int) + 1)) = 0 := by unfold uCode; rw [eM]; simp [hx]
  have eB : uBegin s (List.replicate s.W ((i : Int) + 1)) = u1 s i := by rw [e1]; unfold uBegin; rw [eM]; simp [hx]
  have eDD : (u1 s i).D = s.D := by rw [e1]
  have HX := Lib.hid (And.intro e2 (And.intro eD (And.intro eE (And.intro eC (And.intro eB (And.intro eI eDD))))))
  rw [hx, Option.isSome_none] at HBu
  clear e1 e2 eD eE hall eM eC eB eI eDD hx
  obtain ⟨W, hWW⟩ : ∃ W, s.W = W := ⟨_, rfl⟩
  have HWW := Lib.hid hWW
  rw [hWW] at hW6 hW1 HWo
  obtain ⟨D, hDD⟩ : ∃ D, s.D = D := ⟨_, rfl⟩
  have HDD := Lib.hid hDD
  rw [hDD] at hD8
  clear hWW hDD
  have hmk := make_run W (by omega) W rfl w
  unfold P at HWo
  have b2 := b01 w (.cells (ints (zs W)) 3)
  have HG2 := Lib.hid (Blk.new w 3 (ints (zs W)))
  have HT2 := Lib.hid (HT.out.below b2)
  have HO2 : Hid (Only (FG F gw) w (w.alloc (.cells (ints (zs W)) 3))) := Only.of_below b2
  obtain ⟨gl, hgl⟩ : ∃ g, w.heap.size = g := ⟨_, rfl⟩
  have HGL := Lib.hid hgl
  have HNF : Hid (¬ F gl ∧ gw ≠ gl ∧ w.heap.size ≤ gl) := ⟨fun hf => by have := HT.out.tight gl hf; omega, by have := HT.out.box.lt; omega, by omega⟩
  rw [hgl] at HG2 hmk
  go_enter Tryd.func72, Tryd.ntmps72
  go_wp2_with fail
  refine HBu.out.mono ?_
  rintro e w' ⟨rfl, rfl⟩
  go_upto_region 3 with (go_at_call 70; refine HWo.out.mono ?_; rintro e w' ⟨rfl, rfl⟩)
  generalize w.alloc (.cells (ints (zs W)) 3) = V2 at *
  clear hgl b2 hmk
  go_wp2_with fail
  go_loopw [3] (fun k V => InvFill gl W ((i : Int) + 1) V2 k V) (fun k _ => W - (intOf k).toNat)
  case atStart => exact ⟨0, zs W, rfl, by omega, zs_length W, fun j hj => absurd hj (by omega), HG2.out, .refl _ _⟩
  case round =>
    clear HG2 k0
    obtain ⟨k, l, rfl, hk, hlen, hl, hB, hO⟩ := hrel
    have HB := Lib.hid hB
    have HO := Lib.hid hO
    have HBW := Lib.hid (Only.blk HT2.out.box hO HNF.out.2.1)
    clear hB hO
    by_cases hlt : k < W
    · have kk := HBW.out.cell
      unfold P at kk
      have c1 := (HB.out.cell k).trans (Cell.ints_at l k (by omega))
      have c2 := HB.out.frozen k
      have HL := Lib.hid hl
      have HLen := Lib.hid hlen
      clear hl hlen
      go_wp2_with fail
      go_roundw
      case rel =>
        refine ⟨k + 1, l.set k ((i : Int) + 1), by go_num, by omega, by rw [List.length_set]; exact HLen.out, fun j hj => ?_, by rw [← ints_set]; exact HB.out.set_ k _, HO.out.set_ rfl k _⟩
        by_cases hjk : j = k
        · subst hjk; exact nth_set_eq _ _ (by rw [HLen.out]; exact hlt)
        · rw [nth_set_ne _ _ (Ne.symm hjk)]; exact HL.out j (by omega)
      case measure => simp [intOf]; omega
    · obtain rfl : k = W := by omega
      have hlr : l = List.replicate k ((i : Int) + 1) := by
        apply List.ext_getElem
        · simp [hlen]
        · intro j h1 h2
          have := hl j (by omega)
          simp [nth, h1] at this
          simp [this]
      subst hlr
      have HTr : Hid (RegX wr br s c F) := HT2.out.reg.only HO.out (fun q hq e => HNF.out.1 (by rw [← e]; exact hq))
      have HRow : Hid (Row wr (some ⟨gl, 0, none⟩) (iv' (List.replicate k ((i : Int) + 1)))) := Row.of_blk HB.out fun j u hj => by unfold ints; rw [List.getElem?_toArray]; exact hj
      have HSz : Hid (V2.heap.size ≤ wr.heap.size) := HO.out.size
      have HTW : Hid (TW wr gw br s i o fu lo c F) := ⟨HTr.out, HBW.out, HT2.out.out, fun q hq => Nat.lt_of_lt_of_le (HT2.out.tight q hq) HSz.out⟩
      have HOn : Hid (Only (FG F gw) w wr) := HO2.out.trans (HO.out.mono fun q e => by rw [e]; exact .inr HNF.out.2.2)
      have kk := HBW.out.cell
      unfold P at kk
      have HWr := Lib.hid (push_any (cp := k) HTr.out HRow.out)
      rw [List.length_replicate] at HWr
      have e5 := HX.out.2.2.2.2.1
      have e4 := HX.out.2.2.2.1
      rw [HWW.out] at e5 e4
      rw [e5, e4] at HWr
      clear hl hlen HB HO e4 e5
      go_wp2_with fail
      refine HWr.out.mono ?_
      rintro e w5 ⟨rfl, hr5, hO5⟩
      obtain ⟨F5, hT5, hM5, hG5⟩ := HTW.out.call hr5 (more_gr _ _) hO5
      have HT5 := Lib.hid hT5
      have HM5 := Lib.hid hM5
      have HG5 := Lib.hid (HOn.out.trans_ hG5)
      have hq5 := hT5.box.cell
      have fq5 := hT5.box.frozen
      unfold P at hq5
      obtain ⟨t6, o6⟩ := hT5.set_ 5 (.bool true) rfl
      have HT6 := Lib.hid t6
      have HO6 := Lib.hid o6
      obtain ⟨V6, hV6⟩ : ∃ V, w5.setCell ⟨gw, 5, none⟩ (.bool true) = V := ⟨_, rfl⟩
      rw [hV6] at HT6 HO6
      clear hr5 hO5 hT5 hM5 hG5 kk t6 o6 HWr
      go_upto_region 7 with fail
      clear hV6 hq5 fq5
      have hs5 : w.heap.size ≤ V6.heap.size := Nat.le_trans HG5.out.size HO6.out.size
      have HPl := Lib.hid (fun (V : World) (hV : Below V6.heap.size V6 V) => rplaces_any ((HT6.out.below hV).reg))
      rw [HX.out.2.2.2.2.2.2, HDD.out] at HPl
      unfold P at HPl
      have q6 := HT6.out.box.cell
      have HS6 : Hid (∀ V, Below V6.heap.size V6 V → V.cell? ⟨gw, 0, none⟩ = some (.pointer (some ⟨br, 0, none⟩)) ∧ V.cell? ⟨gw, 1, none⟩ = some (.int .i64 i) ∧ V.cell? ⟨gw, 2, none⟩ = some (.int .i64 o)) := fun V hV => ⟨(HT6.out.below hV).box.cell 0, (HT6.out.below hV).box.cell 1, (HT6.out.below hV).box.cell 2⟩
      have HS7 : Hid (∀ V u, Below V6.heap.size V6 V → (V.setCell ⟨gw, 3, none⟩ u).cell? ⟨gw, 0, none⟩ = some (.pointer (some ⟨br, 0, none⟩)) ∧ (V.setCell ⟨gw, 3, none⟩ u).cell? ⟨gw, 1, none⟩ = some (.int .i64 i) ∧ (V.setCell ⟨gw, 3, none⟩ u).cell? ⟨gw, 2, none⟩ = some (.int .i64 o)) := fun V u hV => ⟨((HT6.out.below hV).box.set_ 3 u).cell 0, ((HT6.out.below hV).box.set_ 3 u).cell 1, ((HT6.out.below hV).box.set_ 3 u).cell 2⟩
      have S0 : Below V6.heap.size V6 V6.drew := (Below.refl _ _).drew
      have f6 := HT6.out.box.frozen
      have z6 := HT6.out.box.lt
      unfold P at q6
      obtain ⟨fl, hfl⟩ : ∃ fl, decide (i = o + D) = fl := ⟨_, rfl⟩
      have tF : ((i : Int) - (o : Int) == (D : Int)) = fl := by
        rw [← hfl, Bool.eq_iff_iff, beq_iff_eq, decide_eq_true_eq]; omega
      have HFL := Lib.hid hfl
      clear hfl
      have ew : IntKind.i64.wrap ((i : Int) - (o : Int)) = (i : Int) - (o : Int) := by rw [IntKind.wrap_i64]; omega
      clear HS6 HS7
      go_still_tail 18, (by kernel_rfl)
      still_call ((HPl.out _ S0).mono fun e w' h => ⟨h.1, h.2.symm⟩)
      repeat still_step
      refine wpStill_nil ?_
      obtain ⟨t7, o7⟩ := HT6.out.set_ (fu2 := fl) 3 (.bool fl) rfl
      have HT7 : Hid (TW (V6.setCell ⟨gw, 3, none⟩ (.bool fl)).drew gw br (u1 s i) i o fl lo c F5) := t7.below ((Below.refl _ _).drew)
      have HO7 : Hid (Only (FG F5 gw) V6 (V6.setCell ⟨gw, 3, none⟩ (.bool fl)).drew) := o7.drew
      clear t7 o7
      go_upto_region 8 with fail
      generalize (V6.setCell ⟨gw, 3, none⟩ (.bool fl)).drew = V7 at *
      have q7 := HT7.out.box.cell
      unfold P at q7
      clear f6 z6 S0 HPl
      go_wp2_with fail
      refine (ustep_any HT7.out.reg hc).mono ?_
      rintro e w8 ⟨rfl, hr8, hO8⟩
      rw [HX.out.2.1, HX.out.2.2.1]
      obtain ⟨F8, hT8, hM8, hG8⟩ := HT7.out.call hr8 (More.refl _ _) hO8
      have HT8 := Lib.hid hT8
      have HM8 := Lib.hid (And.intro hM8 hG8)
      have k8 := hT8.box.cell
      have f8 := hT8.box.frozen
      unfold P at k8
      clear hr8 hO8 hT8 hM8 hG8 q7
      go_wp2_with fail
      obtain ⟨t1, t2⟩ := HT8.out.set_ 5 (.bool true) rfl
      have hs0 : w.heap.size ≤ wr.heap.size := HOn.out.size
      have hs7 : w.heap.size ≤ V7.heap.size := Nat.le_trans hs5 HO7.out.size
      have m5 : More F F5 w.heap.size := fun q hq => (HM5.out q hq).imp id fun h => Nat.le_trans hs0 h
      have m8 : More F F8 w.heap.size := m5.trans HM8.out.1 hs7
      refine bodyPost_end (v := .tuple #[]) (by simp [results, Tryd.results72, go_sem]) rfl ⟨rfl, F8, ?_, m8, ?_⟩
      · rw [HX.out.1, HX.out.2.2.2.2.2.1, HDD.out, HFL.out]
        exact t1
      · exact only_chain (only_chain (only_chain (only_chain HG5.out m5 HO6.out) m5 HO7.out) m5 HM8.out.2) m8 t2
theorem turn_u {i o : Nat} (h : TW w gw br s i o fu lo c F) (hi : i ≤ 1000000) (ho : o ≤ i) (hc : c ≤ 1099511627776) (hf : s.pu ≠ none → (uErr s = 0 ∨ (uOver s = true ∧ uErr s = 2 ∧ fu = true))) : Calls Tryd.prog 72 #[.pointer (some ⟨gw, 0, none⟩)] w (TWP gw br s i o fu lo c F w) := by
  cases hx : s.pu with
  | none => exact turn_u_none h hx hi ho hc
  | some x => exact turn_u_some h hx hi hc (hf (by rw [hx]; simp))
end Go.Proofs.YtpoidnajhcjmcaaDoor.R8
