/- The document's register of three slots: the write's access of a word, to the message 0. -/
import Derived.Test.YtppmfmgmlicefabDoorVR2
namespace Go.Proofs.YtppmfmgmlicefabDoor.T3
open Go.RowKit Go.Proofs.YtppmfmgmlicefabDoor.G Go.Proofs.YtppmfmgmlicefabDoor.Cell
set_option maxRecDepth 100000
variable {w : World} {W m b f k : Int} {A0 A1 A2 Ai Ao : Option Addr} {n0 n1 n2 ni no c0 c1 c2 ci co : Nat} {ws rs ak fr : Bool}
set_option maxHeartbeats 2000000 in
theorem rstepw0 {l li : List Int} {k : Nat} {W : Nat} {N : Nat → Prop} (hl : LF w N (.slice A0 n0 c0) l) (hi : LF w N (.slice Ai ni ci) li) (hn : n0 = l.length) (h6 : l.length ≤ 6) (hk : k < W) (hkl : k < l.length) (hki : k < li.length) :
    Calls Tryd.prog 36 #[.agg (rc W m (.slice A0 n0 c0) (.slice A1 n1 c1) (.slice A2 n2 c2) 0 f true rs k ak fr (.slice Ai ni ci) (.slice Ao no co)), .bool true] w
      (OwnP w (l.set k (nth li k)) fun A c => .tuple #[.agg (rc W m (.slice A n0 c) (.slice A1 n1 c1) (.slice A2 n2 c2) 0 f true rs (k + 1) ak fr (.slice Ai ni ci) (.slice Ao no co)), .slice none 0 0, .bool false, .int .i64 0]) := by
  obtain ⟨A, c, e1, hc1, hc2, hc3⟩ := hl
  injection e1 with e1 e2 e3
  subst e1 e3
  obtain ⟨g, o, rfl, -, hg, hc⟩ := hc3 (by omega)
  obtain ⟨B, d, e1, hd1, hd2, hd3⟩ := hi
  injection e1 with e1 e2' e3
  subst e1 e3 e2'
  obtain ⟨gi, oi, rfl, -, hgi, hci⟩ := hd3 (by omega)
  obtain ⟨i0, hi, hz0, hz1, hz2⟩ := info_parts info3
  have hcki := hci k hki
  have HC := Lib.hid hc
  have HN := Lib.hid hn
  clear hc hci hc3 hd3 e2
  have e1 : ∀ o : Obj, (w.alloc o).heap.size = w.heap.size + 1 := fun o => by simp
  have hX : ∀ o1 o2 : Obj, ∀ j u, (l.map (Value.int .i64))[j]? = some u → ((w.alloc o1).alloc o2).cell? ((⟨g, o, none⟩ : Addr).add j) = some u := by
    intro o1 o2 j u hj
    have hjl : j < l.length := by
      have := (List.getElem?_eq_some_iff.1 hj).1
      simpa using this
    rw [Addr.add_lit, World.cell?_alloc_lt _ _ _ (by simp; omega), World.cell?_alloc_lt _ _ _ hg, HC.out j hjl]
    rw [← hj]; simp [nth, hjl]
  have HX := Lib.hid hX; clear hX
  have hkn : k < n0 := by omega
  clear hn
  go_enter Tryd.func36, Tryd.ntmps36
  go_wp2_with (at_builtin; refine wpList_append_own _ rfl _ _ 27 rfl (w.heap.size + 2) 3 i0 (.int .i64 0) 1 8 Tryd.underlying27 hi hz0 hz1 hz2 rfl (by decide) _ _ _ rfl (World.ownsRow_nil _ _ _ _) ⟨g, o, none⟩ n0 c0 (l.map (Value.int .i64)) rfl ?qc1 ?qc2 ?qc3 ?qc4 ?qc5 ?qc6 ?_)
  case qc1 => have := HN.out; simp; omega
  case qc2 => exact HX.out _ _
  case qc3 => exact ints_one l
  case qc4 => unfold maxLen; have := HN.out; omega
  case qc5 => have := HN.out; omega
  case qc6 => simp
  intro v' w2 hown hgrow hnil
  clear hnil
  have b1 : Blk w2 w.heap.size 61 (rc W m (.slice (some ⟨g, o, none⟩) n0 c0) (.slice A1 n1 c1) (.slice A2 n2 c2) 0 f true rs k ak fr (.slice (some ⟨gi, oi, none⟩) li.length ci) (.slice Ao no co)) := by
    have h := (Blk.new w 61 (rc W m (.slice (some ⟨g, o, none⟩) n0 c0) (.slice A1 n1 c1) (.slice A2 n2 c2) 0 f true rs k ak fr (.slice (some ⟨gi, oi, none⟩) li.length ci) (.slice Ao no co))).alloc (.cells (rc 0 0 (.slice none 0 0) (.slice none 0 0) (.slice none 0 0) 0 0 false false 0 false false (.slice none 0 0) (.slice none 0 0)) 61)
    exact (hgrow.block _ h.lt (by simp [Value.ownBlock])).trans h
  have b2 : Blk w2 (w.heap.size + 1) 61 (rc 0 0 (.slice none 0 0) (.slice none 0 0) (.slice none 0 0) 0 0 false false 0 false false (.slice none 0 0) (.slice none 0 0)) := by
    have h := Blk.new (w.alloc (.cells (rc W m (.slice (some ⟨g, o, none⟩) n0 c0) (.slice A1 n1 c1) (.slice A2 n2 c2) 0 f true rs k ak fr (.slice (some ⟨gi, oi, none⟩) li.length ci) (.slice Ao no co)) 61)) 61 (rc 0 0 (.slice none 0 0) (.slice none 0 0) (.slice none 0 0) 0 0 false false 0 false false (.slice none 0 0) (.slice none 0 0))
    rw [e1] at h
    exact (hgrow.block _ h.lt (by simp [Value.ownBlock])).trans h
  have hbw : Below w.heap.size w w2 := (ba1 (b01 w _) _).grown hgrow (by rw [World.size_alloc, World.size_alloc]; omega) (by intro k' hk'; simp [Value.ownBlock] at hk')
  clear hgrow
  obtain ⟨g', cap, rfl, hBg, hglt⟩ : ∃ g' cap, v' = .slice (some ⟨g', 0, none⟩) n0 cap ∧ w.heap.size + 2 ≤ g' ∧ g' < w2.heap.size := by
    rcases hown.2 with ⟨_, h0⟩ | ⟨g', cap, cur, e, hB, hh, _⟩
    · have := HN.out; omega
    · exact ⟨g', cap, e, hB, Blk.lt (t := 3) (cs := cur) hh⟩
  have d0 : w2.cell? ⟨g', k, none⟩ = some (.int .i64 (nth l k)) := by
    rw [hown.cellAt k (by have := HN.out; omega)]; simp [nth, hkl]
  have d1 := hown.frozenAt k
  have d2 : w2.cell? ⟨gi, oi + k, none⟩ = some (.int .i64 (nth li k)) := (hbw.cell (p := ⟨gi, oi + k, none⟩) hgi).trans hcki
  have d3 := b1.cell
  have d4 := b2.cell
  have d5 := b1.frozen
  have d6 := b2.frozen
  have hn1 : g' ≠ w.heap.size := by omega
  have hn2 : g' ≠ w.heap.size + 1 := by omega
  have hn3 : gi ≠ w.heap.size := by omega
  have HL : Hid (LF (w2.setCell ⟨g', k, none⟩ (.int .i64 (nth li k))) (fun x => x = g') (.slice (some ⟨g', 0, none⟩) n0 cap) (l.set k (nth li k))) := by
    have h := (hown.stored k (.int .i64 (nth li k))).1
    rw [← List.map_set] at h
    exact LF.of_own_at h (by rw [List.length_set]; exact HN.out)
  have HF : Hid (OwnP w (l.set k (nth li k)) (fun A c => .tuple #[.agg (rc W m (.slice A n0 c) (.slice A1 n1 c1) (.slice A2 n2 c2) 0 f true rs (k + 1) ak fr (.slice (some ⟨gi, oi, none⟩) li.length ci) (.slice Ao no co)), .slice none 0 0, .bool false, .int .i64 0]) (.returned (.tuple #[.agg (rc W m (.slice (some ⟨g', 0, none⟩) n0 cap) (.slice A1 n1 c1) (.slice A2 n2 c2) 0 f true rs (k + 1) ak fr (.slice (some ⟨gi, oi, none⟩) li.length ci) (.slice Ao no co)), .slice none 0 0, .bool false, .int .i64 0]))
      (put14 (((w2.setCell ⟨g', k, none⟩ (.int .i64 (nth li k))).setCell ⟨w.heap.size, 2, none⟩ (.slice (some ⟨g', 0, none⟩) n0 cap)).setCell ⟨w.heap.size, 9, none⟩ (.int .i64 (k + 1))) (w.heap.size + 1) (.int .i64 W) (.int .i64 m) (.slice (some ⟨g', 0, none⟩) n0 cap) (.slice A1 n1 c1) (.slice A2 n2 c2) (.int .i64 0) (.int .i64 f) (.bool true) (.bool rs) (.int .i64 (k + 1)) (.bool ak) (.bool fr) (.slice (some ⟨gi, oi, none⟩) li.length ci) (.slice Ao no co)).drew) := by
    refine ⟨some ⟨g', 0, none⟩, cap, rfl, fun N hN => ?_, ?_⟩
    · refine LF.mono (N := fun x => x = g') ?_ (fun x _ hx => by rw [hx]; exact hN g' (by omega))
      rw [List.length_set, ← HN.out]
      exact (((HL.out.far (q := w.heap.size) (fun e => hn1 e.symm) _).far (q := w.heap.size) (fun e => hn1 e.symm) _).only (only14 _ _) (fun x hx e => by subst hx; exact hn2 e)).drew_
    · exact (bel_only (((hbw.setCell (p := ⟨g', k, none⟩) (by show w.heap.size ≤ g'; omega) _).setCell (p := ⟨w.heap.size, 2, none⟩) (Nat.le_refl _) _).setCell (p := ⟨w.heap.size, 9, none⟩) (Nat.le_refl _) _) (only14 _ _) (fun x hx => by rw [hx]; omega)).drew
  clear hown b1 b2 hbw hcki HL
  go_wp2
  clear HX HC hgi hc1 hc2 hd1 hd2
  go_region
  all_goals
    go_wp2
    refine bodyPost_ret (v := .tuple #[.agg (rc W m (.slice (some ⟨g', 0, none⟩) n0 cap) (.slice A1 n1 c1) (.slice A2 n2 c2) 0 f true rs (k + 1) ak fr (.slice (some ⟨gi, oi, none⟩) li.length ci) (.slice Ao no co)), .slice none 0 0, .bool false, .int .i64 0]) (by simp [results, Tryd.results36, go_sem, d4]) rfl ?_
    exact HF.out
end Go.Proofs.YtppmfmgmlicefabDoor.T3
