/- A wheel: Due: a contract. -/
import Derived.Test.YtoomdjkojddpdaaH8
namespace Go.Proofs.Ytoomdjkojddpdaa.H14
open Go.RowKit Go.Proofs.Ytoomdjkojddpdaa.G Go.Proofs.Ytoomdjkojddpdaa.Sat Go.Sort Go.Maps Go.Shelf Go.Lib
set_option maxRecDepth 100000
variable {w w' : World} {b : Nat} {mb : Option Nat} {l : List En} {s : Nat}

theorem del_none (f : Value) (w : World) : Calls Try.prog 29 #[.slice none 0 0, f] w fun e w' => e = .returned (.slice none 0 0) ∧ w = w' := by
  have HI : Hid (∀ V, Calls Try.prog 38 #[.slice none 0 0, f] V fun e w' => e = .returned (.int .i64 (-1)) ∧ w' = V) := fun V => AnyE.slices_IndexFunc_empty (P := Try.prog) (ρ := lDel_ren) { lDel with } none 0 f V
  go_enter Try.func29, Try.ntmps29
  go_wp2_with (go_at_call 38; refine (HI.out _).mono ?_; rintro e w' ⟨rfl, rfl⟩)
  go_ret
  exact ⟨rfl, rfl⟩
/-- Which keys are due, as the closure tells it. -/
def pK (l : List En) (now : Int) (k : KI) : Bool := !decide (cut (unt l k.1) ≤ cut now)
theorem unt_bd (h : Wok l s) (k : Int) : 0 ≤ unt l k ∧ unt l k ≤ 4611686018427387904 := by
  unfold unt
  cases hf : fnd l k with
  | none => simp
  | some e => exact h.ur e (fnd_some hf).1
theorem kept_eq (h : Wok l s) (now : Int) : (((keys l).map toK).filter fun x => !pK l now x).map Subtype.val = keys (due l (cut now)) := by
  rw [← cut_keys h, List.filter_map, toK_list (fun k hk => keys_rng h k (List.mem_filter.1 hk).1)]
  refine List.filter_congr fun k hk => ?_
  show (!pK l now (toK k)) = _
  unfold pK
  rw [Bool.not_not, toK_val (keys_rng h k hk), cut_id _ (unt_bd h k).1 (unt_bd h k).2]
theorem delF_any (h : Wh w b mb l s) (hl : l.length ≤ 1000000) {X Y : Nat} {tx ty : TypeId} {now : Int} (hX : Blk w X tx #[.pointer (some ⟨b, 0, none⟩)]) (hY : Blk w Y ty #[.int .i64 now]) {g cap : Nat} {cur : Array Value}
    (hg : Blk w g 3 cur) (hR : Row w (some ⟨g, 0, none⟩) (iv (keys l))) (hcap : l.length ≤ cap) (hF : ¬ FW b mb g) (hXg : X ≠ g) (hYg : Y ≠ g) :
    Calls Try.prog 29 #[.slice (some ⟨g, 0, none⟩) l.length cap, .func (.func 30) #[] #[.pointer (some ⟨Y, 0, none⟩), .pointer (some ⟨X, 0, none⟩)]] w fun e w' =>
      e = .returned (.slice (some ⟨g, 0, none⟩) (keys (due l (cut now))).length cap) ∧ Row w' (some ⟨g, 0, none⟩) (iv (keys (due l (cut now)))) ∧ w.grownBy w' (some g) ∧ ∃ cur', Blk w' g 3 cur' := by
  have hds : ((keys l).map toK).toArray.size = l.length := by simp [keys]
  have hH : Holds encK w g 0 ((keys l).map toK).toArray := fun j hj => by
    have hj' : j < (keys l).length := by simpa [keys] using hj
    obtain ⟨g', o', e, _, hc⟩ := hR (by rw [iv_len]; omega)
    injection e with e; injection e with e1 e2 _
    subst e1 e2
    have := hc j (.int .i64 (keys l)[j]) (iv_at (by simp))
    refine ⟨this.trans ?_, hg.frozen _⟩
    rw [getElem!_pos _ j hj]
    have e : (((keys l).map toK).toArray[j]'hj).1 = (keys l)[j] := by
      simp only [List.getElem_toArray, List.getElem_map]
      exact toK_val (keys_rng h.ok _ (List.getElem_mem hj'))
    show some (Value.int .i64 _) = some (Value.int .i64 (((keys l).map toK).toArray[j]'hj).1)
    rw [e]
  have hp : PredAt Try.prog 30 #[.pointer (some ⟨Y, 0, none⟩), .pointer (some ⟨X, 0, none⟩)] encK (pK l now) w := fun W x hW => dueF_any (h.below hW) (hX.bel hW) (hY.bel hW) x.2
  have hpo : PredOver Try.prog 30 #[.pointer (some ⟨Y, 0, none⟩), .pointer (some ⟨X, 0, none⟩)] encK (pK l now) g 0 ((keys l).map toK).toArray.size w := fun m os dk x _ => by
    have hO := only_of_grown (sort_grown dk w g m os)
    exact dueF_any (h.only hO (fun k hk e => hF (e ▸ hk))) (hO.blk hX hXg) (hO.blk hY hYg) x.2
  have hS := AnyE.slices_DeleteFunc (P := Try.prog) (ρ := lDel_ren) lDel encK oneK (pK l now) 30 #[.pointer (some ⟨Y, 0, none⟩), .pointer (some ⟨X, 0, none⟩)] eDel ⟨0, by unfold Ir; decide⟩ (fun w => by kernel_rfl) g 0 cap ((keys l).map toK).toArray w hp hpo hH (by rw [hds]; omega) (by rw [hds]; exact hcap)
  rw [hds] at hS
  have hk := kept_eq h.ok now
  generalize hf : (((keys l).map toK).toArray.toList.filter fun x => !pK l now x) = fl at hS
  have hk' : fl.map Subtype.val = keys (due l (cut now)) := by rw [← hf]; exact hk
  have hlen : (keys (due l (cut now))).length = fl.length := by rw [← hk']; simp
  refine hS.mono fun e w' ⟨he, q, hw⟩ => ?_
  have hgr : w.grownBy w' (some g) := by
    rw [hw]
    have := sort_grown (fl ++ List.replicate (l.length - fl.length) (⟨0, by unfold Ir; decide⟩ : KI)).toArray w g q #[]
    unfold sortWorld at this
    rwa [grow_empty] at this
  have hbk : ∃ cur', Blk w' g 3 cur' := by
    rw [hw, putRow_enc]
    have := heap_sorted_i (n := q) (os := #[]) ((fl ++ List.replicate (l.length - fl.length) (⟨0, by unfold Ir; decide⟩ : KI)).toArray.map Subtype.val) hg
    rw [grow_empty] at this
    exact ⟨_, this⟩
  refine ⟨by rw [he, hlen], ?_, hgr, hbk⟩
  have hle : fl.length ≤ l.length := by
    rw [← hf]
    refine Nat.le_trans (List.length_filter_le _ _) ?_
    simp [keys]
  have hH2 : Holds encK w' g 0 (fl ++ List.replicate (l.length - fl.length) (⟨0, by unfold Ir; decide⟩ : KI)).toArray := by
    rw [hw]
    exact holds_putRow encK _ g 0 ((keys l).map toK).toArray _ (holds_ahead encK w q g 0 _ hH) (by simp [keys]; omega)
  intro _
  refine ⟨g, 0, rfl, Nat.lt_of_lt_of_le hg.lt hgr.size, fun j u hj => ?_⟩
  have hj0 : j < fl.length := by
    have := (List.getElem?_eq_some_iff.1 hj).1
    rw [iv_len, hlen] at this
    exact this
  have hjd : j < (fl ++ List.replicate (l.length - fl.length) (⟨0, by unfold Ir; decide⟩ : KI)).toArray.size := by simp; omega
  have := (hH2 j hjd).1
  rw [this, getElem!_pos _ j hjd, ← hj, ← hk']
  simp [iv, encK, hj0, List.getElem_append_left hj0]
/-- Those whose ticks have come, in memory of the call's own; the wheel without them. -/
def DPost (b : Nat) (mb : Option Nat) (l : List En) (s : Nat) (c : Int) (w : World) (e : Ending) (w' : World) : Prop :=
  ∃ A cap, e = .returned (.slice A (keys (due l c)).length cap) ∧ Row w' A (iv (keys (due l c))) ∧ (keys (due l c)).length ≤ cap ∧ cap ≤ maxLen ∧ (∀ g o, A = some ⟨g, o, none⟩ → w.heap.size ≤ g ∧ ∃ cur, Blk w' g 3 cur) ∧ Wh w' b mb (left l c) s ∧ Only (FW b mb) w w'
theorem keys_due_le (l : List En) (c : Int) : (keys (due l c)).length ≤ l.length := by rw [len_keys]; exact List.length_filter_le _ _
set_option maxHeartbeats 2000000 in
theorem due_any (h : Wh w b mb l s) (hl : l.length ≤ 1000000) (now : Int) : Calls Try.prog 18 #[.pointer (some ⟨b, 0, none⟩), .int .i64 now] w (DPost b mb l s (cut now) w) := by
  have HH := Lib.hid h
  clear h
  go_enter Try.func18, Try.ntmps18
  go_upto_region 1 with fail
  have X1 := (Blk.new w 24 #[.pointer (some ⟨b, 0, none⟩)]).alloc (.cells #[.int .i64 now] 3)
  have Y1 := Blk.new (w.alloc (.cells #[.pointer (some ⟨b, 0, none⟩)] 24)) 3 #[.int .i64 now]
  simp only [World.size_alloc] at Y1
  have HB1 := Lib.hid (ba1 (b01 w (.cells #[.pointer (some ⟨b, 0, none⟩)] 24)) (.cells #[.int .i64 now] 3))
  have HW1 := Lib.hid (HH.out.below HB1.out)
  have hx1 : w.heap.size + 1 < ((w.alloc (.cells #[.pointer (some ⟨b, 0, none⟩)] 24)).alloc (.cells #[.int .i64 now] 3)).heap.size := by simp
  have HL := Lib.hid hx1
  clear hx1
  generalize hx : w.heap.size = x at X1 HL ⊢
  generalize hy : w.heap.size + 1 = y at Y1
  obtain rfl : y = x + 1 := by omega
  clear hy
  generalize (w.alloc (.cells #[.pointer (some ⟨b, 0, none⟩)] 24)).alloc (.cells #[.int .i64 now] 3) = W1 at *
  have HX := Lib.hid X1
  have HY := Lib.hid Y1
  have k0 := X1.cell 0
  simp only [List.getElem?_toArray, List.getElem?_cons_zero] at k0
  clear X1 Y1
  go_wp2_with fail
  refine (keys_any HW1.out hl).mono ?_
  rintro e w2 ⟨v, rfl, hO, hb⟩
  have HB2 := Lib.hid (bt HB1.out hb)
  have HW2 := Lib.hid (HW1.out.below hb)
  have HX2 := Lib.hid (HX.out.bel hb)
  have HY2 := Lib.hid (HY.out.bel hb)
  obtain ⟨A, c, rfl, hR, hle, hm, hq⟩ := hO.row
  have HBS := Lib.hid (hb.size)
  have hO' := Lib.hid hO
  clear hO hb HX HY
  cases A with
  | none =>
    have h0 : keys l = [] := by
      have := hR.nil_
      cases hk : keys l with
      | nil => rfl
      | cons a r => rw [hk] at this; simp [iv] at this
    have hl0 : l = [] := List.map_eq_nil_iff.1 h0
    subst hl0
    have HE : Hid (keys (due ([] : List En) (cut now)) = [] ∧ left ([] : List En) (cut now) = []) := ⟨rfl, rfl⟩
    have hc0 : c = 0 := by
      rcases hO'.out.2 with ⟨e, _⟩ | ⟨g, cap, cur, e, _⟩
      · injection e
      · cases e
    subst hc0
    clear hR hle hm hq h0
    have k2 := HX2.out.cell 0
    simp only [List.getElem?_toArray, List.getElem?_cons_zero] at k2
    go_wp2_with (first
      | (go_at_call 29; refine (del_none _ _).mono ?_; rintro e w' ⟨rfl, rfl⟩)
      | fail)
    have HS := Lib.hid (stop_any HW2.out (A := none) (c := 0) (ks := []) Row.none_ (by simp) (by simp) (fun g o e => by cases e))
    refine HS.out.mono ?_
    rintro e w3 ⟨rfl, h3, ho3⟩
    have H3 : Hid (Wh w3 b mb [] s) := h3
    have HO3 : Hid (Only (FW b mb) w w3) := (Only.of (F := FW b mb) HB2.out).trans_ ho3
    clear h3 ho3
    go_wp2_with fail
    go_ret
    refine ⟨none, 0, by rw [HE.out.1]; rfl, by rw [HE.out.1]; exact Row.none_, by rw [HE.out.1]; simp, by decide, (fun g o e => by cases e), by rw [HE.out.2]; exact H3.out, HO3.out⟩
  | some a =>
    obtain ⟨g, o, rfl⟩ : ∃ g o, a = ⟨g, o, none⟩ := by
      rcases hO'.out.2 with ⟨e, _⟩ | ⟨g, cap, cur, e, _⟩
      · cases e
      · injection e with e; injection e with e; exact ⟨g, 0, e⟩
    obtain ⟨rfl, hgB, cur, hcur⟩ := hq g o rfl
    have HD := Lib.hid (delF_any HW2.out hl (now := now) HX2.out HY2.out hcur hR hle (fun hF => absurd (HW1.out.Fsz hF) (by omega)) (by have := HL.out; omega) (by have := HL.out; omega))
    have HFg : Hid (¬ FW b mb g) := fun hF => absurd (HW1.out.Fsz hF) (by omega)
    have HwG : Hid (w.heap.size ≤ g) := Nat.le_trans HB1.out.size hgB
    have HG : Hid (x ≤ g ∧ x + 1 < g + 1) := ⟨by have := HL.out; omega, by have := HL.out; omega⟩
    have HM := Lib.hid hm
    have HC := Lib.hid hle
    have HR0 := Lib.hid (Nat.le_trans (keys_due_le l (cut now)) hle)
    have HQ : Hid (∀ V, w2.grownBy V (some g) → Wh V b mb l s ∧ Blk V x 24 #[.pointer (some ⟨b, 0, none⟩)] ∧ Only (FW b mb) w V ∧ w2.heap.size ≤ V.heap.size) := fun V hV => by
      have hO := only_of_grown hV
      have hgx : x < W1.heap.size := by have := HL.out; omega
      refine ⟨HW2.out.only hO (fun k hk e => ?_), hO.blk HX2.out (by omega), ?_, hV.size⟩
      · subst e; exact absurd (HW1.out.Fsz hk) (by omega)
      · exact (Only.of (F := FW b mb) HB2.out).grown hV (fun k e => .inr (by injection e with e; have := HB1.out.size; omega))
    have hkx := hx
    clear hR hle hm hq hcur hgB
    go_wp2_with fail
    refine HD.out.mono ?_
    rintro e w3 ⟨rfl, hr3, hg3, cur3, hc3⟩
    have HC3 := Lib.hid hc3
    obtain ⟨q1, q2, q3, q4⟩ := HQ.out _ hg3
    have H3 := Lib.hid q1
    have HO3 := Lib.hid q3
    have HR3 := Lib.hid hr3
    have k3 := q2.cell 0
    simp only [List.getElem?_toArray, List.getElem?_cons_zero] at k3
    have HE := Lib.hid (cans_due HW2.out.ok (cut now))
    have HKR : Hid (∀ k ∈ keys (due l (cut now)), Ir k) := keys_rng (HW2.out.ok.due (cut now))
    have HKL : Hid ((keys (due l (cut now))).length ≤ 1000000) := Nat.le_trans (keys_due_le l (cut now)) hl
    have HKD := Lib.hid (rfl : keys (due l (cut now)) = keys (due l (cut now)))
    have HS := Lib.hid (stop_any H3.out (A := some ⟨g, 0, none⟩) (c := c) HR3.out HKR.out HKL.out (fun g' o' e => by injection e with e; injection e with e; subst e; exact HFg.out))
    clear q1 q2 q3 q4 hr3 hg3 hc3
    generalize hkd : keys (due l (cut now)) = kd at *
    generalize hkn : kd.length = kn at *
    go_wp2_with fail
    refine HS.out.mono ?_
    rintro e w4 ⟨rfl, h4, ho4⟩
    have H4 : Hid (Wh w4 b mb (left l (cut now)) s) := by
      show Wh _ _ _ _ _
      rw [← HE.out]; exact h4
    have HO4 := Lib.hid (HO3.out.trans_ ho4)
    have HR4 := Lib.hid (Row.only HR3.out ho4 (fun g' o' e => by injection e with e; injection e with e; subst e; exact HFg.out))
    have HC4 := Lib.hid (ho4.blk HC3.out HFg.out)
    clear h4 ho4
    go_wp2_with fail
    go_ret
    refine ⟨some ⟨g, 0, none⟩, c, by rw [hkd, hkn]; rfl, by rw [hkd]; exact HR4.out, by rw [hkd, hkn]; exact HR0.out, HM.out, fun g' o' e => by injection e with e; injection e with e; subst e; exact ⟨HwG.out, cur3, HC4.out⟩, H4.out, HO4.out⟩
end Go.Proofs.Ytoomdjkojddpdaa.H14
