/- The document's own answers for package cell: Reset, refused, and of a list that isn't empty. -/
import Derived.Test.YthkpopphefolmaaDoorCRef3
namespace Go.Proofs.YthkpopphefolmaaDoor.Cell
open Go.RowKit Go.Proofs.YthkpopphefolmaaDoor.G

theorem rreset_no {w : World} {A : Option Addr} {n ca : Nat} {l : List Int} (hn : n = l.length) (hl : n ≤ 4096) (c f m : Int) (hf : f ≤ 9223372036854775807) (h : inR l f m = false) :
    Calls Tryd.prog 28 #[.agg #[.slice A n ca, .int .i64 c], .int .i64 f, .int .i64 m] w fun e w' => e = .returned (.tuple #[.agg #[.slice A n ca, .int .i64 c], .int .i64 7]) ∧ Below w.heap.size w w' := by
  have hcase : m < 0 ∨ (0 ≤ m ∧ f < 0) ∨ (0 ≤ m ∧ 0 ≤ f ∧ (n : Int) < f) ∨ (0 ≤ m ∧ 0 ≤ f ∧ f ≤ n ∧ (n : Int) - f < m) := by have := inR_not h; omega
  clear h hn
  rcases hcase with h1 | ⟨h1, h2⟩ | ⟨h1, h2, h3⟩ | ⟨h1, h2, h3, h4⟩
  all_goals
    go_enter Tryd.func28, Tryd.ntmps28
    go_wp2
    refine bodyPost_ret (v := .tuple #[.agg #[.slice A n ca, .int .i64 c], .int .i64 7]) (by simp [results, Tryd.results28, go_sem]) rfl ⟨rfl, ?_⟩
    exact ((Below.refl _ _).alloc (Nat.le_refl _) _).alloc (by simp) _

set_option maxRecDepth 100000 in
set_option maxHeartbeats 1000000 in
theorem rreset_ok {w : World} {A : Option Addr} {n ca : Nat} {l : List Int} (hn : n = l.length) (hl : n ≤ 4096) (hn0 : 0 < n) (hA : RdA w A l) (c : Int) (f m : Nat) (hfm : f + m ≤ n) :
    Calls Tryd.prog 28 #[.agg #[.slice A n ca, .int .i64 c], .int .i64 f, .int .i64 m] w (WPost w w.heap.size (zr l f m) c 0) := by
  obtain ⟨ab, ao, rfl, hc⟩ := hA (by omega)
  have hlt : ab < w.heap.size := World.block_lt_of_cell? w _ (hc 0 (by omega))
  obtain ⟨i0, hi, hz0, hz1, hz2⟩ := info_parts info3
  have hX : ∀ o1 o2 : Obj, ∀ j u, (l.map (Value.int .i64))[j]? = some u → ((w.alloc o1).alloc o2).cell? ((⟨ab, ao, none⟩ : Addr).add j) = some u := by
    intro o1 o2 j u hj
    have hjl : j < l.length := by
      have := (List.getElem?_eq_some_iff.1 hj).1
      simpa using this
    rw [Addr.add_lit, World.cell?_alloc_lt _ _ _ (by simp; omega), World.cell?_alloc_lt _ _ _ hlt, hc j hjl]
    rw [← hj]; simp [nth, hjl]
  have HX := Lib.hid hX; clear hX
  have HN := Lib.hid hn
  clear hn hc hA
  go_enter Tryd.func28, Tryd.ntmps28
  go_wp2_with (at_builtin; refine wpList_append_own _ rfl _ _ 26 rfl (w.heap.size + 2) 3 i0 (.int .i64 0) 1 8 Tryd.underlying26 hi hz0 hz1 hz2 rfl (by decide) _ _ _ rfl (World.ownsRow_nil _ _ _ _) ⟨ab, ao, none⟩ n ca (l.map (Value.int .i64)) rfl ?qc1 ?qc2 ?qc3 ?qc4 ?qc5 ?qc6 ?_)
  case qc1 => have := HN.out; simp; omega
  case qc2 => exact HX.out _ _
  case qc3 => exact ints_one l
  case qc4 => unfold maxLen; omega
  case qc5 => omega
  case qc6 => simp
  intro v' w2 hown hgrow hnil
  clear hnil
  have b1 : Blk w2 w.heap.size 28 #[.slice (some ⟨ab, ao, none⟩) n ca, .int .i64 c] := by
    have h := (Blk.new w 28 #[.slice (some ⟨ab, ao, none⟩) n ca, .int .i64 c]).alloc (.cells #[.slice none 0 0, .int .i64 0] 28)
    exact (hgrow.block _ h.lt (by simp [Value.ownBlock])).trans h
  have b2 : Blk w2 (w.heap.size + 1) 28 #[.slice none 0 0, .int .i64 0] := by
    have e : (w.alloc (.cells #[.slice (some ⟨ab, ao, none⟩) n ca, .int .i64 c] 28)).heap.size = w.heap.size + 1 := by simp
    have h := Blk.new (w.alloc (.cells #[.slice (some ⟨ab, ao, none⟩) n ca, .int .i64 c] 28)) 28 #[.slice none 0 0, .int .i64 0]
    rw [e] at h
    exact (hgrow.block _ h.lt (by simp [Value.ownBlock])).trans h
  have hbw : Below w.heap.size w w2 := by
    have h := ((Below.refl w.heap.size w).alloc (Nat.le_refl _) (.cells #[.slice (some ⟨ab, ao, none⟩) n ca, .int .i64 c] 28)).alloc (by simp) (.cells #[.slice none 0 0, .int .i64 0] 28)
    exact h.grown hgrow (by simp; omega) (by intro k' hk'; simp [Value.ownBlock] at hk')
  clear hgrow
  obtain ⟨g', cap, rfl, hBg, hglt⟩ : ∃ g' cap, v' = .slice (some ⟨g', 0, none⟩) n cap ∧ w.heap.size + 2 ≤ g' ∧ g' < w2.heap.size := by
    rcases hown.2 with ⟨_, h0⟩ | ⟨g', cap, cur, e, hB, hh, _⟩
    · omega
    · exact ⟨g', cap, e, hB, Blk.lt (t := 3) (cs := cur) hh⟩
  have HI : Hid (w2.ownsRow (w.heap.size + 2) 3 1 (.slice (some ⟨g', 0, none⟩) n cap) n ((zr l f 0).map (Value.int .i64)) ∧ Blk w2 w.heap.size 28 #[.slice (some ⟨ab, ao, none⟩) n ca, .int .i64 c] ∧ Blk w2 (w.heap.size + 1) 28 #[.slice none 0 0, .int .i64 0] ∧ Below w.heap.size w w2) := ⟨hown, b1, b2, hbw⟩
  clear hown b1 b2 hbw
  go_wp2
  go_loopw [9] (fun i wr => ∃ k : Nat, k ≤ m ∧ i = .int .i64 k ∧ wr.ownsRow (w.heap.size + 2) 3 1 (.slice (some ⟨g', 0, none⟩) n cap) n ((zr l f k).map (Value.int .i64)) ∧ Blk wr w.heap.size 28 #[.slice (some ⟨ab, ao, none⟩) n ca, .int .i64 c] ∧ Blk wr (w.heap.size + 1) 28 #[.slice none 0 0, .int .i64 0] ∧ Below w.heap.size w wr) (fun i _ => m - (intOf i).toNat)
  case atStart => exact ⟨0, by omega, rfl, HI.out⟩
  case round =>
    obtain ⟨k, hk, rfl, hown, b1, b2, hbw⟩ := hrel
    by_cases hlt2 : k < m
    · have d1 : wr.cell? ⟨g', f + k, none⟩ = some (.int .i64 (nth (zr l f k) (f + k))) := by
        rw [hown.cellAt (f + k) (by omega)]; simp [nth, zr_length, show f + k < l.length by have := HN.out; omega]
      have d2 := hown.frozenAt (f + k)
      have hnew := (hown.stored (f + k) (.int .i64 0)).1
      rw [← List.map_set, ← zr_succ] at hnew
      have HW := Lib.hid hnew; clear hnew
      go_wp2
      go_roundw
      case rel => exact ⟨k + 1, by omega, by go_num, HW.out, b1.far (p := ⟨g', f + k, none⟩) (by show w.heap.size ≠ g'; omega) _, b2.far (p := ⟨g', f + k, none⟩) (by show w.heap.size + 1 ≠ g'; omega) _, hbw.setCell (by show w.heap.size ≤ g'; omega) _⟩
      case measure => simp [intOf]; omega
    · obtain rfl : k = m := by omega
      have d0 : wr.cell? ⟨w.heap.size, 0, none⟩ = some (.slice (some ⟨ab, ao, none⟩) n ca) := b1.cell 0
      have d3 : wr.cell? ⟨w.heap.size, 1, none⟩ = some (.int .i64 c) := b1.cell 1
      have d4 : wr.cell? ⟨w.heap.size + 1, 0, none⟩ = some (.slice none 0 0) := b2.cell 0
      have d5 : wr.cell? ⟨w.heap.size + 1, 1, none⟩ = some (.int .i64 0) := b2.cell 1
      have d6 := b2.frozen 0
      have d7 := b2.frozen 1
      have d8 := b1.frozen 0
      have hfin : WPost w w.heap.size (zr l f k) c 0 (.returned (.tuple #[.agg #[.slice (some ⟨g', 0, none⟩) n cap, .int .i64 c], .int .i64 0])) (((wr.setCell ⟨w.heap.size, 0, none⟩ (.slice (some ⟨g', 0, none⟩) n cap)).setCell ⟨w.heap.size + 1, 0, none⟩ (.slice (some ⟨g', 0, none⟩) n cap)).setCell ⟨w.heap.size + 1, 1, none⟩ (.int .i64 c)) := by
        have h' := ownsRow_setCell_below (ownsRow_setCell_below (ownsRow_setCell_below hown (a := ⟨w.heap.size, 0, none⟩) (by show w.heap.size < _; omega) (.slice (some ⟨g', 0, none⟩) n cap)) (a := ⟨w.heap.size + 1, 0, none⟩) (by show w.heap.size + 1 < _; omega) (.slice (some ⟨g', 0, none⟩) n cap)) (a := ⟨w.heap.size + 1, 1, none⟩) (by show w.heap.size + 1 < _; omega) (.int .i64 c)
        refine ⟨_, rfl, Lst.mono (B := w.heap.size + 2) ?_ (by omega), ((hbw.setCell (p := ⟨w.heap.size, 0, none⟩) (Nat.le_refl _) _).setCell (p := ⟨w.heap.size + 1, 0, none⟩) (by show w.heap.size ≤ w.heap.size + 1; omega) _).setCell (p := ⟨w.heap.size + 1, 1, none⟩) (by show w.heap.size ≤ w.heap.size + 1; omega) _⟩
        unfold Lst
        rw [zr_length, ← HN.out]
        exact h'
      have HF := Lib.hid hfin; clear hfin
      clear hown b1 b2 hbw
      go_wp2
      refine bodyPost_ret (v := .tuple #[.agg #[.slice (some ⟨g', 0, none⟩) n cap, .int .i64 c], .int .i64 0]) (by simp [results, Tryd.results28, go_sem, d4, d5]) rfl ?_
      exact HF.out
end Go.Proofs.YthkpopphefolmaaDoor.Cell
