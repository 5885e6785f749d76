/- A turn of the writer as the statements of stage 7 take it. -/
import Derived.Test.YtdablfanmlmjkaaDoorVAll
namespace Go.Proofs.YtdablfanmlmjkaaDoor.T3
open Go.RowKit Go.Proofs.YtdablfanmlmjkaaDoor.G Go.Proofs.YtdablfanmlmjkaaDoor.Cell
attribute [local go_sem ↓] Go.wp_at_zero Go.wp_at_succ
set_option maxRecDepth 100000
variable {w w' : World} {br : Nat} {s : St} {c : Int} {F : Nat → Prop}

/-- The statements' own struct in block gw, and its register. -/
structure TW (w : World) (gw br : Nat) (s : St) (b o lo L : Int) (c : Int) (F : Nat → Prop) : Prop where
  reg : RegX w br s c F
  box : Blk w gw 56 #[P br, .int .i64 b, .int .i64 o, .int .i64 lo, .int .i64 L, .bool true]
  out : ¬ F gw
  zero : ¬ F 0 ∧ gw ≠ 0
  tight : ∀ b, F b → b < w.heap.size
variable {gw : Nat} {b o lo L : Int}
theorem TW.set_ {b2 o2 lo2 L2 : Int} (h : TW w gw br s b o lo L c F) (i : Nat) (u : Value) (hb : #[P br, .int .i64 b, .int .i64 o, .int .i64 lo, .int .i64 L, .bool true].setIfInBounds i u = #[P br, .int .i64 b2, .int .i64 o2, .int .i64 lo2, .int .i64 L2, .bool true]) : TW (w.setCell ⟨gw, i, none⟩ u) gw br s b2 o2 lo2 L2 c F ∧ Only (FG F gw) w (w.setCell ⟨gw, i, none⟩ u) :=
  ⟨⟨h.reg.only (G := fun k => k = gw) (Only.set_ (F := fun k => k = gw) (Only.refl _ _) rfl i u) (fun k hk e => h.out (by rw [← e]; exact hk)), by rw [← hb]; exact h.box.set_ i u, h.out, h.zero, fun k hk => by have := h.tight k hk; simpa [World.setCell] using this⟩, Only.set_ (Only.refl _ _) (.inr rfl) i u⟩
theorem TW.below (h : TW w gw br s b o lo L c F) (hb : Below w.heap.size w w') : TW w' gw br s b o lo L c F :=
  ⟨h.reg.below hb, h.box.bel hb, h.out, h.zero, fun k hk => Nat.lt_of_lt_of_le (h.tight k hk) hb.size⟩
/-- A call on the register. -/
theorem TW.call {s' : St} {c' : Int} {F' : Nat → Prop} (h : TW w gw br s b o lo L c F) (hr : RegX w' br s' c' F') (hm : More F F' w.heap.size) (hO : Only F w w') :
    ∃ F'', TW w' gw br s' b o lo L c' F'' ∧ More F F'' w.heap.size ∧ Only (FG F gw) w w' := by
  refine ⟨_, ⟨hr.tight, Only.blk h.box hO h.out, fun ⟨h1, _⟩ => ?_, ⟨fun ⟨h1, _⟩ => ?_, h.zero.2⟩, fun k hk => hk.2⟩, fun k hk => hm k hk.1, hO.mono fun k hk => .inl hk⟩
  · rcases hm gw h1 with h2 | h2
    · exact h.out h2
    · have := h.box.lt; omega
  · rcases hm 0 h1 with h2 | h2
    · exact h.zero.1 h2
    · have := h.box.lt; omega
def TWP (gw br : Nat) (s : St) (b o lo L c : Int) (F : Nat → Prop) (w : World) (e : Ending) (w' : World) : Prop :=
  e = .returned (.tuple #[]) ∧ ∃ F', TW w' gw br (wStep (w1 s b)) (b1 s b) (o1 s b o) lo L (c + 1) F' ∧ More F F' w.heap.size ∧ Only (FG F gw) w w'
def InvFill (gl W : Nat) (v : Int) (V2 : World) (i : Value) (V : World) : Prop := ∃ (k : Nat) (l : List Int), i = .int .i64 k ∧ k ≤ W ∧ l.length = W ∧ (∀ j, j < k → nth l j = v) ∧ Blk V gl 3 (ints l) ∧ Only (fun b => b = gl) V2 V
set_option maxHeartbeats 4000000 in
theorem turn_w (h : TW w gw br s b o lo L c F) (hb : okV (b + 1) = true) (hb0 : 0 ≤ b) (hc : c ≤ 1099511627776) : Calls Tryd.prog 29 #[.pointer (some ⟨gw, 0, none⟩)] w (TWP gw br s b o lo L c F w) := by
  have HT := Lib.hid h
  obtain ⟨ob0, ob1⟩ := okV_of hb
  have HOB := Lib.hid hb
  have k0 := h.box.cell
  unfold P at k0
  have hok := h.reg.ok
  have hW6 := hok.w6
  have hW1 := hok.w1
  have HOK := Lib.hid hok
  have HBu := Lib.hid (wbusy_any h.reg)
  clear h hok hb
  cases hx : s.wr with
  | some x =>
    have e1 : w1 s b = s := by simp [w1, hx]
    have e2 : b1 s b = b := by simp [b1, hx]
    have eE : wErr s = 0 := by simp [wErr, hx]
    have HX := Lib.hid (And.intro e1 (And.intro e2 eE))
    rw [hx, Option.isSome_some] at HBu
    clear e1 e2 eE hx
    go_enter Tryd.func29, Tryd.ntmps29
    go_wp2_with fail
    refine HBu.out.mono ?_
    rintro e w' ⟨rfl, rfl⟩
    go_wp2_with fail
    refine (wstep_any HT.out.reg hc).mono ?_
    rintro e w2 ⟨rfl, hr2, hO2⟩
    rw [HX.out.2.2]
    obtain ⟨F2, hT2, hM2, hG2⟩ := HT.out.call hr2 (More.refl _ _) hO2
    have HT2 := Lib.hid hT2
    have HM2 := Lib.hid (And.intro hM2 hG2)
    have k2 := hT2.box.cell
    have f2 := hT2.box.frozen
    unfold P at k2
    clear hr2 hO2 hT2 hM2 hG2 k0
    cases hd : wDone s with
    | false =>
      have HD := Lib.hid hd
      clear hd
      go_wp2_with fail
      obtain ⟨t1, t2⟩ := HT2.out.set_ 5 (.bool true) rfl
      refine bodyPost_end (v := .tuple #[]) (by simp [results, Tryd.results29, go_sem]) rfl ⟨rfl, F2, ?_, HM2.out.1, only_chain HM2.out.2 HM2.out.1 t2⟩
      unfold o1
      rw [HX.out.1, HX.out.2.1, HD.out]
      exact t1
    | true =>
      have HD := Lib.hid hd
      clear hd
      go_wp2_with fail
      obtain ⟨t1, t2⟩ := HT2.out.set_ 2 (.int .i64 b) rfl
      obtain ⟨t3, t4⟩ := t1.set_ 5 (.bool true) rfl
      refine bodyPost_end (v := .tuple #[]) (by simp [results, Tryd.results29, go_sem]) rfl ⟨rfl, F2, ?_, HM2.out.1, only_chain (only_chain HM2.out.2 HM2.out.1 t2) HM2.out.1 t4⟩
      unfold o1
      rw [HX.out.1, HX.out.2.1, HD.out]
      exact t3
  | none =>
    have e1 : w1 s b = { s with wr := some ⟨0, List.replicate s.W (b + 1)⟩ } := by simp [w1, hx]
    have e2 : b1 s b = b + 1 := by simp [b1, hx]
    have eD : wDone (w1 s b) = false := by
      rw [e1]; simp [wDone]; omega
    have eE : wErr (w1 s b) = 0 := by rw [e1]; rfl
    have hall : allOk (List.replicate s.W (b + 1)) = true := allOk_rep _ HOB.out
    have eM : may s (List.replicate s.W (b + 1)) = true := by unfold may; rw [hall]; simp
    have eC : wCode s (List.replicate s.W (b + 1)) = 0 := by unfold wCode; rw [eM]; simp [hx]
    have eB : wBegin s (List.replicate s.W (b + 1)) = w1 s b := by rw [e1]; unfold wBegin; rw [eM]; simp [hx]
    have HX := Lib.hid (And.intro e2 (And.intro eD (And.intro eE (And.intro eC eB))))
    rw [hx, Option.isSome_none] at HBu
    clear e1 e2 eD eE hall eM eC eB hx
    obtain ⟨W, hWW⟩ : ∃ W, s.W = W := ⟨_, rfl⟩
    have HWW := Lib.hid hWW
    rw [hWW] at hW6 hW1
    obtain ⟨T1, O1⟩ := HT.out.set_ (b2 := b + 1) 1 (.int .i64 (b + 1)) rfl
    obtain ⟨V1, hV1⟩ : ∃ V, w.setCell ⟨gw, 1, none⟩ (.int .i64 (b + 1)) = V := ⟨_, rfl⟩
    have HV1 := Lib.hid hV1
    rw [hV1] at T1 O1
    have HWo := Lib.hid (rwords_any T1.reg)
    rw [hWW] at HWo
    have kv := T1.box.cell
    unfold P at kv HWo
    have hmk := make_run W (by omega) W rfl V1
    have f0 := HT.out.box.frozen
    have z0 := HT.out.box.lt
    go_enter Tryd.func29, Tryd.ntmps29
    go_wp2_with fail
    refine HBu.out.mono ?_
    rintro e w' ⟨rfl, rfl⟩
    go_upto_region 2 with fail
    clear k0 f0 z0
    have b2 := b01 V1 (.cells (ints (zs W)) 3)
    have HG2 := Lib.hid (Blk.new V1 3 (ints (zs W)))
    have HT2 := Lib.hid (T1.below b2)
    have HO2 : Hid (Only (FG F gw) w (V1.alloc (.cells (ints (zs W)) 3))) := O1.trans_ (Only.of_below b2)
    obtain ⟨gl, hgl⟩ : ∃ g, V1.heap.size = g := ⟨_, rfl⟩
    have HGL := Lib.hid hgl
    have HNF : Hid (¬ F gl ∧ gw ≠ gl ∧ w.heap.size ≤ gl) := ⟨fun hf => by have := T1.tight gl hf; omega, by have := T1.box.lt; omega, by rw [← hgl]; exact O1.size⟩
    rw [hgl] at HG2 hmk
    go_upto_region 3 with (go_at_call 28; refine HWo.out.mono ?_; rintro e w' ⟨rfl, rfl⟩)
    generalize V1.alloc (.cells (ints (zs W)) 3) = V2 at *
    clear hgl b2 T1 O1 kv hmk hV1
    go_wp2_with fail
    go_loopw [3] (fun i V => InvFill gl W (b + 1) V2 i V) (fun i _ => W - (intOf i).toNat)
    case atStart => exact ⟨0, zs W, rfl, by omega, zs_length W, fun j hj => absurd hj (by omega), HG2.out, .refl _ _⟩
    case round =>
      clear HG2
      obtain ⟨k, l, rfl, hk, hlen, hl, hB, hO⟩ := hrel
      have HB := Lib.hid hB
      have HO := Lib.hid hO
      have HBW := Lib.hid (Only.blk HT2.out.box hO HNF.out.2.1)
      clear hB hO
      by_cases hlt : k < W
      · have kk := HBW.out.cell
        unfold P at kk
        have c1 := (HB.out.cell k).trans (Cell.ints_at l k (by omega))
        have c2 := HB.out.frozen k
        have HL := Lib.hid hl
        have HLen := Lib.hid hlen
        clear hl hlen
        go_wp2_with fail
        go_roundw
        case rel =>
          refine ⟨k + 1, l.set k (b + 1), by go_num, by omega, by rw [List.length_set]; exact HLen.out, fun j hj => ?_, by rw [← ints_set]; exact HB.out.set_ k _, HO.out.set_ rfl k _⟩
          by_cases hjk : j = k
          · subst hjk; exact nth_set_eq _ _ (by rw [HLen.out]; exact hlt)
          · rw [nth_set_ne _ _ (Ne.symm hjk)]; exact HL.out j (by omega)
        case measure => simp [intOf]; omega
      · obtain rfl : k = W := by omega
        have hlr : l = List.replicate k (b + 1) := by
          apply List.ext_getElem
          · simp [hlen]
          · intro j h1 h2
            have := hl j (by omega)
            simp [nth, h1] at this
            simp [this]
        subst hlr
        have HTr : Hid (RegX wr br s c F) := HT2.out.reg.only HO.out (fun q hq e => HNF.out.1 (by rw [← e]; exact hq))
        have HRow : Hid (Row wr (some ⟨gl, 0, none⟩) (iv' (List.replicate k (b + 1)))) := Row.of_blk HB.out fun j u hj => by unfold ints; rw [List.getElem?_toArray]; exact hj
        have HSz : Hid (V2.heap.size ≤ wr.heap.size) := HO.out.size
        have HTW : Hid (TW wr gw br s (b + 1) o lo L c F) := ⟨HTr.out, HBW.out, HT2.out.out, HT2.out.zero, fun q hq => Nat.lt_of_lt_of_le (HT2.out.tight q hq) HSz.out⟩
        have HOn : Hid (Only (FG F gw) w wr) := HO2.out.trans (HO.out.mono fun q e => by rw [e]; exact .inr HNF.out.2.2)
        have kk := HBW.out.cell
        unfold P at kk
        have HWr := Lib.hid (wwrite_any (cp := k) HTr.out HRow.out)
        rw [List.length_replicate] at HWr
        have e5 := HX.out.2.2.2.2
        have e4 := HX.out.2.2.2.1
        rw [HWW.out] at e5 e4
        rw [e5, e4] at HWr
        clear hl hlen HB HO e4 e5
        go_wp2_with fail
        refine HWr.out.mono ?_
        rintro e w5 ⟨rfl, hr5, hO5⟩
        obtain ⟨F5, hT5, hM5, hG5⟩ := HTW.out.call hr5 (more_gr _ _) hO5
        have HT5 := Lib.hid hT5
        have HM5 := Lib.hid hM5
        have HG5 := Lib.hid (HOn.out.trans_ hG5)
        have hq5 := hT5.box.cell
        have fq5 := hT5.box.frozen
        unfold P at hq5
        obtain ⟨t6, o6⟩ := hT5.set_ 5 (.bool true) rfl
        have HT6 := Lib.hid t6
        have HO6 := Lib.hid o6
        have hq6 := t6.box.cell
        unfold P at hq6
        obtain ⟨V6, hV6⟩ : ∃ V, w5.setCell ⟨gw, 5, none⟩ (.bool true) = V := ⟨_, rfl⟩
        rw [hV6] at HT6 HO6 hq6
        clear hr5 hO5 hT5 hM5 hG5 kk t6 o6 HWr
        go_upto_region 8 with fail
        clear hV6 hq5 fq5
        go_wp2_with fail
        refine (wstep_any HT6.out.reg hc).mono ?_
        rintro e w7 ⟨rfl, hr7, hO7⟩
        rw [HX.out.2.1, HX.out.2.2.1]
        obtain ⟨F7, hT7, hM7, hG7⟩ := HT6.out.call hr7 (More.refl _ _) hO7
        have HT7 := Lib.hid hT7
        have HM7 := Lib.hid (And.intro hM7 hG7)
        have k7 := hT7.box.cell
        have f7 := hT7.box.frozen
        unfold P at k7
        clear hr7 hO7 hT7 hM7 hG7 hq6
        go_wp2_with fail
        obtain ⟨t1, t2⟩ := HT7.out.set_ 5 (.bool true) rfl
        have hs0 : w.heap.size ≤ wr.heap.size := HOn.out.size
        have hs5 : w.heap.size ≤ V6.heap.size := Nat.le_trans HG5.out.size HO6.out.size
        have m5 : More F F5 w.heap.size := fun q hq => (HM5.out q hq).imp id fun h => Nat.le_trans hs0 h
        have m7 : More F F7 w.heap.size := m5.trans HM7.out.1 hs5
        refine bodyPost_end (v := .tuple #[]) (by simp [results, Tryd.results29, go_sem]) rfl ⟨rfl, F7, ?_, m7, ?_⟩
        · unfold o1
          rw [HX.out.2.1, HX.out.1]
          exact t1
        · exact only_chain (only_chain (only_chain HG5.out m5 HO6.out) m5 HM7.out.2) m7 t2
end Go.Proofs.YtdablfanmlmjkaaDoor.T3
