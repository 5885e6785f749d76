/- The document's register of three slots: Write. -/
import Derived.Test.YtppmfmgmlicefabDoorVR2
namespace Go.Proofs.YtppmfmgmlicefabDoor.T3
open Go.RowKit Go.Proofs.YtppmfmgmlicefabDoor.G Go.Proofs.YtppmfmgmlicefabDoor.Cell
set_option maxRecDepth 100000
variable {w : World} {W m b f k : Int} {A0 A1 A2 Ai Ao : Option Addr} {n0 n1 n2 ni no c0 c1 c2 ci co : Nat} {ws rs ak fr : Bool}
theorem okV_cases (x : Int) : (x < 0 ∧ okV x = false) ∨ (2147483647 < x ∧ okV x = false) ∨ (0 ≤ x ∧ x ≤ 2147483647 ∧ okV x = true) := by
  by_cases h1 : x < 0
  · exact .inl ⟨h1, decide_eq_false (by omega)⟩
  · by_cases h2 : 2147483647 < x
    · exact .inr (.inl ⟨h2, decide_eq_false (by omega)⟩)
    · exact .inr (.inr ⟨by omega, by omega, decide_eq_true (by omega)⟩)
theorem rwrite_len {A : Option Addr} {n c : Nat} (hn : (n : Int) ≠ W) :
    Calls Tryd.prog 31 #[.agg (rc W m (.slice A0 n0 c0) (.slice A1 n1 c1) (.slice A2 n2 c2) b f ws rs k ak fr (.slice Ai ni ci) (.slice Ao no co)), .slice A n c] w (EPost (.tuple #[.agg (rc W m (.slice A0 n0 c0) (.slice A1 n1 c1) (.slice A2 n2 c2) b f ws rs k ak fr (.slice Ai ni ci) (.slice Ao no co)), .int .i64 3]) w) := by
  have t0 : ((n : Int) != W) = true := by rw [bne_iff_ne]; exact hn
  clear hn
  go_enter Tryd.func31, Tryd.ntmps31
  go_wp2
  refine bodyPost_ret (v := .tuple #[.agg (rc W m (.slice A0 n0 c0) (.slice A1 n1 c1) (.slice A2 n2 c2) b f ws rs k ak fr (.slice Ai ni ci) (.slice Ao no co)), .int .i64 3]) (by simp [results, Tryd.results31, go_sem]) rfl ⟨rfl, ?_⟩
  exact ba1 (b01 w _) _
/-- What the loop over the words keeps. -/
def WrI (l : List Int) (w2 : World) (i : Value) (V : World) : Prop := ∃ k : Nat, i = .int .i64 k ∧ k ≤ l.length ∧ allOk (l.take k) = true ∧ V = w2
/-- What Write answers. -/
def rwV (l : List Int) (m b f : Int) (A0 A1 A2 Ai Ao : Option Addr) (n0 n1 n2 ni no c0 c1 c2 ci co : Nat) (k : Int) (ws rs ak fr : Bool) (w : World) (e : Ending) (w' : World) : Prop :=
  if allOk l && !ws then OwnP w l (fun A c => .tuple #[.agg (rc l.length m (.slice A0 n0 c0) (.slice A1 n1 c1) (.slice A2 n2 c2) b f true rs 0 ak fr (.slice A l.length c) (.slice Ao no co)), .int .i64 0]) e w'
  else EPost (.tuple #[.agg (rc l.length m (.slice A0 n0 c0) (.slice A1 n1 c1) (.slice A2 n2 c2) b f ws rs k ak fr (.slice Ai ni ci) (.slice Ao no co)), .int .i64 (if allOk l then 1 else 3)]) w e w'
set_option maxHeartbeats 4000000 in
theorem rwrite_any {A : Option Addr} {c : Nat} {l : List Int} (hr : Row w A (iv' l)) (h0 : 0 < l.length) (h6 : l.length ≤ 6) :
    Calls Tryd.prog 31 #[.agg (rc l.length m (.slice A0 n0 c0) (.slice A1 n1 c1) (.slice A2 n2 c2) b f ws rs k ak fr (.slice Ai ni ci) (.slice Ao no co)), .slice A l.length c] w (rwV l m b f A0 A1 A2 Ai Ao n0 n1 n2 ni no c0 c1 c2 ci co k ws rs ak fr w) := by
  obtain ⟨i0, hi, hz0, hz1, hz2⟩ := info_parts info3
  have hl' : (iv' l).length = l.length := by simp [iv']
  obtain ⟨g, o, rfl, hg, hc⟩ := hr (by rw [hl']; exact h0)
  have hc' : ∀ j, j < l.length → w.cell? ⟨g, o + j, none⟩ = some (.int .i64 (nth l j)) := fun j hj => hc j _ (by simp [iv', nth, hj])
  have e1 : ∀ o : Obj, (w.alloc o).heap.size = w.heap.size + 1 := fun o => by simp
  have b1 := (Blk.new w 61 (rc l.length m (.slice A0 n0 c0) (.slice A1 n1 c1) (.slice A2 n2 c2) b f ws rs k ak fr (.slice Ai ni ci) (.slice Ao no co))).alloc (.cells (rc 0 0 (.slice none 0 0) (.slice none 0 0) (.slice none 0 0) 0 0 false false 0 false false (.slice none 0 0) (.slice none 0 0)) 61)
  have b2 : Blk ((w.alloc (.cells (rc l.length m (.slice A0 n0 c0) (.slice A1 n1 c1) (.slice A2 n2 c2) b f ws rs k ak fr (.slice Ai ni ci) (.slice Ao no co)) 61)).alloc (.cells (rc 0 0 (.slice none 0 0) (.slice none 0 0) (.slice none 0 0) 0 0 false false 0 false false (.slice none 0 0) (.slice none 0 0)) 61)) (w.heap.size + 1) 61 (rc 0 0 (.slice none 0 0) (.slice none 0 0) (.slice none 0 0) 0 0 false false 0 false false (.slice none 0 0) (.slice none 0 0)) := by
    have h := Blk.new (w.alloc (.cells (rc l.length m (.slice A0 n0 c0) (.slice A1 n1 c1) (.slice A2 n2 c2) b f ws rs k ak fr (.slice Ai ni ci) (.slice Ao no co)) 61)) 61 (rc 0 0 (.slice none 0 0) (.slice none 0 0) (.slice none 0 0) 0 0 false false 0 false false (.slice none 0 0) (.slice none 0 0))
    rw [e1] at h
    exact h
  have hbw : Below w.heap.size w _ := ba1 (b01 w (.cells (rc l.length m (.slice A0 n0 c0) (.slice A1 n1 c1) (.slice A2 n2 c2) b f ws rs k ak fr (.slice Ai ni ci) (.slice Ao no co)) 61)) (.cells (rc 0 0 (.slice none 0 0) (.slice none 0 0) (.slice none 0 0) 0 0 false false 0 false false (.slice none 0 0) (.slice none 0 0)) 61)
  have hz9 : w.heap.size + 2 = ((w.alloc (.cells (rc l.length m (.slice A0 n0 c0) (.slice A1 n1 c1) (.slice A2 n2 c2) b f ws rs k ak fr (.slice Ai ni ci) (.slice Ao no co)) 61)).alloc (.cells (rc 0 0 (.slice none 0 0) (.slice none 0 0) (.slice none 0 0) 0 0 false false 0 false false (.slice none 0 0) (.slice none 0 0)) 61)).heap.size := by rw [World.size_alloc, World.size_alloc]
  have hcW : Hid (∀ j, j < l.length → ((w.alloc (.cells (rc l.length m (.slice A0 n0 c0) (.slice A1 n1 c1) (.slice A2 n2 c2) b f ws rs k ak fr (.slice Ai ni ci) (.slice Ao no co)) 61)).alloc (.cells (rc 0 0 (.slice none 0 0) (.slice none 0 0) (.slice none 0 0) 0 0 false false 0 false false (.slice none 0 0) (.slice none 0 0)) 61)).cell? ⟨g, o + j, none⟩ = some (.int .i64 (nth l j))) := fun j hj => (hbw.cell (p := ⟨g, o + j, none⟩) hg).trans (hc' j hj)
  obtain ⟨w2, hw2⟩ : ∃ V, (w.alloc (.cells (rc l.length m (.slice A0 n0 c0) (.slice A1 n1 c1) (.slice A2 n2 c2) b f ws rs k ak fr (.slice Ai ni ci) (.slice Ao no co)) 61)).alloc (.cells (rc 0 0 (.slice none 0 0) (.slice none 0 0) (.slice none 0 0) 0 0 false false 0 false false (.slice none 0 0) (.slice none 0 0)) 61) = V := ⟨_, rfl⟩
  rw [hw2] at b1 b2 hbw hz9 hcW
  have B1 := Lib.hid b1
  have B2 := Lib.hid b2
  have HB := Lib.hid hbw
  have HZ := Lib.hid hz9
  have HW := Lib.hid hw2
  have t0 : ((l.length : Int) != (l.length : Int)) = false := by simp
  have HG := Lib.hid hg
  clear b1 b2 hbw hz9 hw2 hr hc hc' hl' hg
  go_enter Tryd.func31, Tryd.ntmps31
  go_wp2
  rw [HW.out]
  go_loopw [6] (fun i V => WrI l w2 i V) (fun i _ => l.length - (intOf i).toNat)
  case atStart => exact ⟨0, rfl, by omega, rfl, rfl⟩
  case round =>
    obtain ⟨j, rfl, hj, ha, rfl⟩ := hrel
    have HA := Lib.hid ha
    clear ha
    by_cases hlt : j < l.length
    · have hcell := hcW.out j hlt
      obtain ⟨x, hx⟩ : ∃ x, nth l j = x := ⟨_, rfl⟩
      have HX := Lib.hid hx
      rw [hx] at hcell
      clear hx
      have d1 := B1.out.cell
      have d2 := B2.out.cell
      have d3 := B2.out.frozen
      have z2 := B2.out.lt
      rcases okV_cases x with ⟨h1, h2⟩ | ⟨h1, h2⟩ | ⟨h1, h1', h2⟩
      · have HN : Hid (allOk l = false) := allOk_no hlt (by rw [HX.out]; exact h2)
        clear h2
        go_wp2
        refine bodyPost_ret (v := .tuple #[.agg (rc l.length m (.slice A0 n0 c0) (.slice A1 n1 c1) (.slice A2 n2 c2) b f ws rs k ak fr (.slice Ai ni ci) (.slice Ao no co)), .int .i64 3]) (by simp [results, Tryd.results31, go_sem, d2, z2]) rfl ?_
        unfold rwV
        rw [HN.out]
        exact ⟨rfl, bel_only HB.out (only14 _ _) (fun q hq => by rw [hq]; omega)⟩
      · have HN : Hid (allOk l = false) := allOk_no hlt (by rw [HX.out]; exact h2)
        have h0 : ¬ x < 0 := by omega
        clear h2
        go_wp2
        refine bodyPost_ret (v := .tuple #[.agg (rc l.length m (.slice A0 n0 c0) (.slice A1 n1 c1) (.slice A2 n2 c2) b f ws rs k ak fr (.slice Ai ni ci) (.slice Ao no co)), .int .i64 3]) (by simp [results, Tryd.results31, go_sem, d2, z2]) rfl ?_
        unfold rwV
        rw [HN.out]
        exact ⟨rfl, bel_only HB.out (only14 _ _) (fun q hq => by rw [hq]; omega)⟩
      · have HN : Hid (allOk (l.take (j + 1)) = true) := by
          show allOk (l.take (j + 1)) = true
          rw [allOk_step hlt, HA.out, HX.out, h2]; rfl
        clear h2 d1 d2 d3 z2
        go_wp2
        go_roundw
        case rel => exact ⟨j + 1, by go_num, by omega, HN.out, rfl⟩
        case measure => simp [intOf]; omega
    · obtain rfl : j = l.length := by omega
      have HN : Hid (allOk l = true) := by have := HA.out; rwa [List.take_length] at this
      clear HA hj hlt
      have d1 := B1.out.cell
      have d2 := B2.out.cell
      have d3 := B2.out.frozen
      have d4 := B1.out.frozen
      have z2 := B2.out.lt
      have z1 := B1.out.lt
      cases ws with
      | true =>
        go_wp2
        refine bodyPost_ret (v := .tuple #[.agg (rc l.length m (.slice A0 n0 c0) (.slice A1 n1 c1) (.slice A2 n2 c2) b f true rs k ak fr (.slice Ai ni ci) (.slice Ao no co)), .int .i64 1]) (by simp [results, Tryd.results31, go_sem, d2, z2]) rfl ?_
        unfold rwV
        rw [HN.out]
        exact ⟨rfl, bel_only HB.out (only14 _ _) (fun q hq => by rw [hq]; omega)⟩
      | false =>
        clear d1 d2 d3 d4
        have n01 : w.heap.size ≠ w.heap.size + 1 := by omega
        have d1 := ((B1.out.set_ 7 (.bool true)).set_ 9 (.int .i64 0)).cell
        have d0 := B1.out.cell
        have d0' := B1.out.frozen
        go_wp2_with (at_builtin; refine wpList_append_own _ rfl _ _ 27 rfl (w.heap.size + 2) 3 i0 (.int .i64 0) 1 8 Tryd.underlying27 hi hz0 hz1 hz2 rfl (by decide) _ _ _ rfl (World.ownsRow_nil _ _ _ _) ⟨g, o, none⟩ l.length c (l.map (Value.int .i64)) rfl ?qc1 ?qc2 ?qc3 ?qc4 ?qc5 ?qc6 ?_)
        case qc1 => simp
        case qc2 =>
          intro j u hj
          have hjl : j < l.length := by simpa using (List.getElem?_eq_some_iff.1 hj).1
          have hgw := HG.out
          rw [Addr.add_lit, World.cell?_of_block (Below.heap_setCell _ _ _ g (by show g ≠ w.heap.size; omega)), World.cell?_of_block (Below.heap_setCell _ _ _ g (by show g ≠ w.heap.size; omega)), hcW.out j hjl, ← hj]
          simp [nth, hjl]
        case qc3 => exact ints_one l
        case qc4 => unfold maxLen; omega
        case qc5 => omega
        case qc6 => have := HZ.out; simp [World.setCell]; omega
        intro v' w5 hown hgrow hnil
        clear hnil d1 d0 d0'
        have hz := HZ.out
        have b1 := (B1.out.set_ 7 (.bool true)).set_ 9 (.int .i64 0)
        have b2 := (B2.out.far (p := ⟨w.heap.size, 7, none⟩) n01.symm (.bool true)).far (p := ⟨w.heap.size, 9, none⟩) n01.symm (.int .i64 0)
        have k1 : Blk w5 w.heap.size 61 _ := (hgrow.block _ b1.lt (by simp [Value.ownBlock])).trans b1
        have k2 : Blk w5 (w.heap.size + 1) 61 _ := (hgrow.block _ b2.lt (by simp [Value.ownBlock])).trans b2
        have hbw : Below w.heap.size w w5 := ((HB.out.setCell (p := ⟨w.heap.size, 7, none⟩) (Nat.le_refl _) _).setCell (p := ⟨w.heap.size, 9, none⟩) (Nat.le_refl _) _).grown hgrow (by simp [World.setCell]; omega) (by intro k' hk'; simp [Value.ownBlock] at hk')
        obtain ⟨g', cap, rfl, hBg, hglt⟩ : ∃ g' cap, v' = .slice (some ⟨g', 0, none⟩) l.length cap ∧ w.heap.size + 2 ≤ g' ∧ g' < w5.heap.size := by
          rcases hown.2 with ⟨_, h0⟩ | ⟨g', cap, cur, e, hB, hh, _⟩
          · omega
          · exact ⟨g', cap, e, hB, Blk.lt (t := 3) (cs := cur) hh⟩
        have HF : Hid (rwV l m b f A0 A1 A2 Ai Ao n0 n1 n2 ni no c0 c1 c2 ci co k false rs ak fr w (.returned (.tuple #[.agg (rc l.length m (.slice A0 n0 c0) (.slice A1 n1 c1) (.slice A2 n2 c2) b f true rs 0 ak fr (.slice (some ⟨g', 0, none⟩) l.length cap) (.slice Ao no co)), .int .i64 0])) (put14 (w5.setCell ⟨w.heap.size, 12, none⟩ (.slice (some ⟨g', 0, none⟩) l.length cap)) (w.heap.size + 1) (.int .i64 l.length) (.int .i64 m) (.slice A0 n0 c0) (.slice A1 n1 c1) (.slice A2 n2 c2) (.int .i64 b) (.int .i64 f) (.bool true) (.bool rs) (.int .i64 0) (.bool ak) (.bool fr) (.slice (some ⟨g', 0, none⟩) l.length cap) (.slice Ao no co))) := by
          unfold Hid rwV
          rw [HN.out]
          refine ⟨some ⟨g', 0, none⟩, cap, rfl, fun N hN => ?_, ?_⟩
          · have hL := LF.of_own_at hown rfl
            exact LF.mono (N := fun x => x = g') ((hL.far (q := w.heap.size) (by show ¬ w.heap.size = g'; omega) _).only (only14 _ _) (fun x hx e => by subst hx; omega)) (fun x _ hx => by rw [hx]; exact hN g' (by omega))
          · exact bel_only (hbw.setCell (p := ⟨w.heap.size, 12, none⟩) (Nat.le_refl _) _) (only14 _ _) (fun x hx => by rw [hx]; omega)
        have d1 := k1.cell
        have d2 := k2.cell
        have d3 := k1.frozen
        have d4 := k2.frozen
        have z1 := k1.lt
        have z2 := k2.lt
        clear hown hgrow b1 b2 k1 k2 hbw hz
        go_wp2
        refine bodyPost_ret (v := .tuple #[.agg (rc l.length m (.slice A0 n0 c0) (.slice A1 n1 c1) (.slice A2 n2 c2) b f true rs 0 ak fr (.slice (some ⟨g', 0, none⟩) l.length cap) (.slice Ao no co)), .int .i64 0]) (by simp [results, Tryd.results31, go_sem, d2, z2]) rfl ?_
        exact HF.out
end Go.Proofs.YtppmfmgmlicefabDoor.T3
