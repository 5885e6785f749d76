/- The document's register of three slots: the read's access of a word, of the message 1, the first. -/
import Derived.Test.YtppmfmgmlicefabDoorVR2
import Derived.Deep.AppendLies
import Derived.Deep.RegionLaw
namespace Go.Proofs.YtppmfmgmlicefabDoor.T3
open Go.RowKit Go.Proofs.YtppmfmgmlicefabDoor.G Go.Proofs.YtppmfmgmlicefabDoor.Cell
set_option maxRecDepth 100000
variable {w : World} {W m b f k : Int} {A0 A1 A2 Ai Ao : Option Addr} {n0 n1 n2 ni no c0 c1 c2 ci co : Nat} {ws rs ak fr : Bool}
set_option maxHeartbeats 4000000 in
theorem rstepr1f {l : List Int} {N : Nat → Prop} (hl : LF w N (.slice A1 n1 c1) l) (hn : n1 = l.length) (h6 : l.length ≤ 6) (hk : 0 < l.length) (hW : (1 : Int) < W) :
    Calls Tryd.prog 36 #[.agg (rc W m (.slice A0 n0 c0) (.slice A1 n1 c1) (.slice A2 n2 c2) b 1 ws true k true false (.slice Ai ni ci) (.slice none 0 0)), .bool false] w
      (OwnP w [nth l 0] fun A c => .tuple #[.agg (rc W m (.slice A0 n0 c0) (.slice A1 n1 c1) (.slice A2 n2 c2) b 1 ws true k true false (.slice Ai ni ci) (.slice A 1 c)), .slice none 0 0, .bool false, .int .i64 0]) := by
  obtain ⟨A, c, e1, hc1, hc2, hc3⟩ := hl
  injection e1 with e1 e2 e3
  subst e1 e3
  obtain ⟨g, o, rfl, -, hg, hc⟩ := hc3 (by omega)
  obtain ⟨i0, hi, hz0, hz1, hz2⟩ := info_parts info3
  have hcki := hc 0 hk
  have HN := Lib.hid hn
  have hkn : 0 < n1 := by omega
  have e1 : ∀ o : Obj, (w.alloc o).heap.size = w.heap.size + 1 := fun o => by simp
  generalize hxe : nth l 0 = x at *
  have HXE := Lib.hid hxe
  clear hn hc hc3 e2 hxe
  go_enter Tryd.func36, Tryd.ntmps36
  go_wp2
  have hown : ((w.alloc (.cells (rc W m (.slice A0 n0 c0) (.slice (some ⟨g, o, none⟩) n1 c1) (.slice A2 n2 c2) b 1 ws true k true false (.slice Ai ni ci) (.slice none 0 0)) 61)).alloc (.cells (rc 0 0 (.slice none 0 0) (.slice none 0 0) (.slice none 0 0) 0 0 false false 0 false false (.slice none 0 0) (.slice none 0 0)) 61)).ownsRow (w.heap.size + 2) 3 1 (.slice none 0 0) 0 [] := World.ownsRow_nil _ _ _ _
  have b1 := (Blk.new w 61 (rc W m (.slice A0 n0 c0) (.slice (some ⟨g, o, none⟩) n1 c1) (.slice A2 n2 c2) b 1 ws true k true false (.slice Ai ni ci) (.slice none 0 0))).alloc (.cells (rc 0 0 (.slice none 0 0) (.slice none 0 0) (.slice none 0 0) 0 0 false false 0 false false (.slice none 0 0) (.slice none 0 0)) 61)
  have b2 : Blk ((w.alloc (.cells (rc W m (.slice A0 n0 c0) (.slice (some ⟨g, o, none⟩) n1 c1) (.slice A2 n2 c2) b 1 ws true k true false (.slice Ai ni ci) (.slice none 0 0)) 61)).alloc (.cells (rc 0 0 (.slice none 0 0) (.slice none 0 0) (.slice none 0 0) 0 0 false false 0 false false (.slice none 0 0) (.slice none 0 0)) 61)) (w.heap.size + 1) 61 (rc 0 0 (.slice none 0 0) (.slice none 0 0) (.slice none 0 0) 0 0 false false 0 false false (.slice none 0 0) (.slice none 0 0)) := by
    have h := Blk.new (w.alloc (.cells (rc W m (.slice A0 n0 c0) (.slice (some ⟨g, o, none⟩) n1 c1) (.slice A2 n2 c2) b 1 ws true k true false (.slice Ai ni ci) (.slice none 0 0)) 61)) 61 (rc 0 0 (.slice none 0 0) (.slice none 0 0) (.slice none 0 0) 0 0 false false 0 false false (.slice none 0 0) (.slice none 0 0))
    rw [e1] at h
    exact h
  have hbw : Below w.heap.size w _ := ba1 (b01 w (.cells (rc W m (.slice A0 n0 c0) (.slice (some ⟨g, o, none⟩) n1 c1) (.slice A2 n2 c2) b 1 ws true k true false (.slice Ai ni ci) (.slice none 0 0)) 61)) (.cells (rc 0 0 (.slice none 0 0) (.slice none 0 0) (.slice none 0 0) 0 0 false false 0 false false (.slice none 0 0) (.slice none 0 0)) 61)
  have hz9 : w.heap.size + 2 ≤ ((w.alloc (.cells (rc W m (.slice A0 n0 c0) (.slice (some ⟨g, o, none⟩) n1 c1) (.slice A2 n2 c2) b 1 ws true k true false (.slice Ai ni ci) (.slice none 0 0)) 61)).alloc (.cells (rc 0 0 (.slice none 0 0) (.slice none 0 0) (.slice none 0 0) 0 0 false false 0 false false (.slice none 0 0) (.slice none 0 0)) 61)).heap.size := by rw [World.size_alloc, World.size_alloc]; omega
  generalize (w.alloc (.cells (rc W m (.slice A0 n0 c0) (.slice (some ⟨g, o, none⟩) n1 c1) (.slice A2 n2 c2) b 1 ws true k true false (.slice Ai ni ci) (.slice none 0 0)) 61)).alloc (.cells (rc 0 0 (.slice none 0 0) (.slice none 0 0) (.slice none 0 0) 0 0 false false 0 false false (.slice none 0 0) (.slice none 0 0)) 61) = w2 at *
  have d2 : w2.cell? ⟨g, o, none⟩ = some (.int .i64 x) := (hbw.cell (p := ⟨g, o, none⟩) hg).trans hcki
  have d3 := b1.cell
  have hown3 : ∀ ob : Obj, (w2.alloc ob).drew.ownsRow (w.heap.size + 2) 3 1 (.slice none 0 0) 0 [] := fun ob => (World.ownsRow.alloc hown ob)
  have HO3 := Lib.hid hown3
  have HS3 : Hid (∀ ob : Obj, Below w.heap.size w (w2.alloc ob).drew ∧ Blk (w2.alloc ob).drew w.heap.size 61 (rc W m (.slice A0 n0 c0) (.slice (some ⟨g, o, none⟩) n1 c1) (.slice A2 n2 c2) b 1 ws true k true false (.slice Ai ni ci) (.slice none 0 0)) ∧ Blk (w2.alloc ob).drew (w.heap.size + 1) 61 (rc 0 0 (.slice none 0 0) (.slice none 0 0) (.slice none 0 0) 0 0 false false 0 false false (.slice none 0 0) (.slice none 0 0))) := fun ob => ⟨(ba1 hbw ob).drew, b1.alloc ob, b2.alloc ob⟩
  clear hown hown3 b1 b2 hbw hcki
  skip
  go_region_law ((refine step_append_lies _ (by rfl) _ _ 27 (by rfl) (w.heap.size + 2) 3 i0 (.int .i64 0) 1 8 Tryd.underlying27 hi hz0 hz1 hz2 rfl (by omega) (.slice none 0 0) 0 [] (by rfl) (HO3.out _) ⟨w2.heap.size, 0, none⟩ 1 1 [.int .i64 x] (by rfl) (by rfl) (World.news_of_block (w := (w2.alloc (.cells #[.int .i64 x] 3)).drew) (heap_alloc_new w2 (.cells #[.int .i64 x] 3))) (by simp [Value.oneCell']) (by omega) (by unfold maxLen; omega) (by omega) (by show _ ≤ (w2.alloc _).heap.size; rw [World.size_alloc]; omega) (w2.heap.size + 1) (by show (w2.alloc _).heap.size = _; rw [World.size_alloc]) ?_; intro g' cap w4 hown4 hgrow4 hat4 hlt4; have HS4 := HS3.out (.cells #[.int .i64 x] 3); have m1 : Blk w4 w.heap.size 61 (rc W m (.slice A0 n0 c0) (.slice (some ⟨g, o, none⟩) n1 c1) (.slice A2 n2 c2) b 1 ws true k true false (.slice Ai ni ci) (.slice none 0 0)) := (hgrow4.block _ HS4.2.1.lt (by simp [Value.ownBlock])).trans HS4.2.1; have m2 : Blk w4 (w.heap.size + 1) 61 (rc 0 0 (.slice none 0 0) (.slice none 0 0) (.slice none 0 0) 0 0 false false 0 false false (.slice none 0 0) (.slice none 0 0)) := (hgrow4.block _ HS4.2.2.lt (by simp [Value.ownBlock])).trans HS4.2.2; have HM := Lib.hid (And.intro m1 (And.intro m2 (And.intro hown4 hgrow4))); have m3 := m1.cell; have m4 := m1.frozen; clear m1 m2 hown4 hgrow4 HS4))
  all_goals
    obtain ⟨m1, m2, hown4, hgrow4⟩ := HM.out
    have hb4 : Below w.heap.size w w4 := (HS3.out (.cells #[.int .i64 x] 3)).1.grown hgrow4 (by show w.heap.size ≤ (w2.alloc _).heap.size; rw [World.size_alloc]; omega) (by intro k' hk'; simp [Value.ownBlock] at hk')
    have hB' : w.heap.size + 2 ≤ g' := by
      rcases hown4.2 with ⟨h0, _⟩ | ⟨g2, cap2, cur, e, hB, hh, _⟩
      · cases h0
      · injection e with e _ _
        injection e with e
        injection e with e
        omega
    have HF : Hid (OwnP w [x] (fun A c => .tuple #[.agg (rc W m (.slice A0 n0 c0) (.slice (some ⟨g, o, none⟩) n1 c1) (.slice A2 n2 c2) b 1 ws true k true false (.slice Ai ni ci) (.slice A 1 c)), .slice none 0 0, .bool false, .int .i64 0]) (.returned (.tuple #[.agg (rc W m (.slice A0 n0 c0) (.slice (some ⟨g, o, none⟩) n1 c1) (.slice A2 n2 c2) b 1 ws true k true false (.slice Ai ni ci) (.slice (some ⟨g', 0, none⟩) 1 cap)), .slice none 0 0, .bool false, .int .i64 0])) (put14 (w4.setCell ⟨w.heap.size, 13, none⟩ (.slice (some ⟨g', 0, none⟩) 1 cap)) (w.heap.size + 1) (.int .i64 W) (.int .i64 m) (.slice A0 n0 c0) (.slice (some ⟨g, o, none⟩) n1 c1) (.slice A2 n2 c2) (.int .i64 b) (.int .i64 1) (.bool ws) (.bool true) (.int .i64 k) (.bool true) (.bool false) (.slice Ai ni ci) (.slice (some ⟨g', 0, none⟩) 1 cap))) := by
      refine ⟨some ⟨g', 0, none⟩, cap, rfl, fun N hN => ?_, ?_⟩
      · have hL := LF.of_own_at (l := [x]) (by simpa using hown4) (by simp)
        refine LF.mono (N := fun x => x = g') ?_ (fun x _ hx => by rw [hx]; exact hN g' (by omega))
        have e9 : ([x]).length = 1 := by simp
        rw [e9]
        exact (((hL.far (q := w.heap.size) (by show ¬ w.heap.size = g'; omega) (.slice (some ⟨g', 0, none⟩) 1 cap))).only (only14 _ _) (fun x hx e => by subst hx; omega))
      · exact (bel_only (hb4.setCell (p := ⟨w.heap.size, 13, none⟩) (Nat.le_refl _) (.slice (some ⟨g', 0, none⟩) 1 cap)) (only14 _ _) (fun x hx => by rw [hx]; omega))
    have d4 := m2.cell
    have d6 := m2.frozen
    have z2 := m2.lt
    have z1 := m1.lt
    clear m1 m2 hown4 hgrow4 hb4 HM HS3 HO3
    go_wp2
    refine bodyPost_ret (v := .tuple #[.agg (rc W m (.slice A0 n0 c0) (.slice (some ⟨g, o, none⟩) n1 c1) (.slice A2 n2 c2) b 1 ws true k true false (.slice Ai ni ci) (.slice (some ⟨g', 0, none⟩) 1 cap)), .slice none 0 0, .bool false, .int .i64 0]) (by simp [results, Tryd.results36, go_sem, d4]) rfl ?_
    exact HF.out
set_option maxHeartbeats 4000000 in
theorem rstepr1fl {l : List Int} {N : Nat → Prop} (hl : LF w N (.slice A1 n1 c1) l) (hn : n1 = l.length) (h6 : l.length ≤ 6) (hk : 0 < l.length) (hW : ¬ (1 : Int) < W) :
    Calls Tryd.prog 36 #[.agg (rc W m (.slice A0 n0 c0) (.slice A1 n1 c1) (.slice A2 n2 c2) b 1 ws true k true false (.slice Ai ni ci) (.slice none 0 0)), .bool false] w
      (OwnP w [nth l 0] fun A c => .tuple #[.agg (rc W m (.slice A0 n0 c0) (.slice A1 n1 c1) (.slice A2 n2 c2) b 1 ws false k true false (.slice Ai ni ci) (.slice A 1 c)), (.slice A 1 c), .bool true, .int .i64 0]) := by
  obtain ⟨A, c, e1, hc1, hc2, hc3⟩ := hl
  injection e1 with e1 e2 e3
  subst e1 e3
  obtain ⟨g, o, rfl, -, hg, hc⟩ := hc3 (by omega)
  obtain ⟨i0, hi, hz0, hz1, hz2⟩ := info_parts info3
  have hcki := hc 0 hk
  have HN := Lib.hid hn
  have hkn : 0 < n1 := by omega
  have e1 : ∀ o : Obj, (w.alloc o).heap.size = w.heap.size + 1 := fun o => by simp
  generalize hxe : nth l 0 = x at *
  have HXE := Lib.hid hxe
  clear hn hc hc3 e2 hxe
  go_enter Tryd.func36, Tryd.ntmps36
  go_wp2
  have hown : ((w.alloc (.cells (rc W m (.slice A0 n0 c0) (.slice (some ⟨g, o, none⟩) n1 c1) (.slice A2 n2 c2) b 1 ws true k true false (.slice Ai ni ci) (.slice none 0 0)) 61)).alloc (.cells (rc 0 0 (.slice none 0 0) (.slice none 0 0) (.slice none 0 0) 0 0 false false 0 false false (.slice none 0 0) (.slice none 0 0)) 61)).ownsRow (w.heap.size + 2) 3 1 (.slice none 0 0) 0 [] := World.ownsRow_nil _ _ _ _
  have b1 := (Blk.new w 61 (rc W m (.slice A0 n0 c0) (.slice (some ⟨g, o, none⟩) n1 c1) (.slice A2 n2 c2) b 1 ws true k true false (.slice Ai ni ci) (.slice none 0 0))).alloc (.cells (rc 0 0 (.slice none 0 0) (.slice none 0 0) (.slice none 0 0) 0 0 false false 0 false false (.slice none 0 0) (.slice none 0 0)) 61)
  have b2 : Blk ((w.alloc (.cells (rc W m (.slice A0 n0 c0) (.slice (some ⟨g, o, none⟩) n1 c1) (.slice A2 n2 c2) b 1 ws true k true false (.slice Ai ni ci) (.slice none 0 0)) 61)).alloc (.cells (rc 0 0 (.slice none 0 0) (.slice none 0 0) (.slice none 0 0) 0 0 false false 0 false false (.slice none 0 0) (.slice none 0 0)) 61)) (w.heap.size + 1) 61 (rc 0 0 (.slice none 0 0) (.slice none 0 0) (.slice none 0 0) 0 0 false false 0 false false (.slice none 0 0) (.slice none 0 0)) := by
    have h := Blk.new (w.alloc (.cells (rc W m (.slice A0 n0 c0) (.slice (some ⟨g, o, none⟩) n1 c1) (.slice A2 n2 c2) b 1 ws true k true false (.slice Ai ni ci) (.slice none 0 0)) 61)) 61 (rc 0 0 (.slice none 0 0) (.slice none 0 0) (.slice none 0 0) 0 0 false false 0 false false (.slice none 0 0) (.slice none 0 0))
    rw [e1] at h
    exact h
  have hbw : Below w.heap.size w _ := ba1 (b01 w (.cells (rc W m (.slice A0 n0 c0) (.slice (some ⟨g, o, none⟩) n1 c1) (.slice A2 n2 c2) b 1 ws true k true false (.slice Ai ni ci) (.slice none 0 0)) 61)) (.cells (rc 0 0 (.slice none 0 0) (.slice none 0 0) (.slice none 0 0) 0 0 false false 0 false false (.slice none 0 0) (.slice none 0 0)) 61)
  have hz9 : w.heap.size + 2 ≤ ((w.alloc (.cells (rc W m (.slice A0 n0 c0) (.slice (some ⟨g, o, none⟩) n1 c1) (.slice A2 n2 c2) b 1 ws true k true false (.slice Ai ni ci) (.slice none 0 0)) 61)).alloc (.cells (rc 0 0 (.slice none 0 0) (.slice none 0 0) (.slice none 0 0) 0 0 false false 0 false false (.slice none 0 0) (.slice none 0 0)) 61)).heap.size := by rw [World.size_alloc, World.size_alloc]; omega
  generalize (w.alloc (.cells (rc W m (.slice A0 n0 c0) (.slice (some ⟨g, o, none⟩) n1 c1) (.slice A2 n2 c2) b 1 ws true k true false (.slice Ai ni ci) (.slice none 0 0)) 61)).alloc (.cells (rc 0 0 (.slice none 0 0) (.slice none 0 0) (.slice none 0 0) 0 0 false false 0 false false (.slice none 0 0) (.slice none 0 0)) 61) = w2 at *
  have d2 : w2.cell? ⟨g, o, none⟩ = some (.int .i64 x) := (hbw.cell (p := ⟨g, o, none⟩) hg).trans hcki
  have d3 := b1.cell
  have hown3 : ∀ ob : Obj, (w2.alloc ob).drew.ownsRow (w.heap.size + 2) 3 1 (.slice none 0 0) 0 [] := fun ob => (World.ownsRow.alloc hown ob)
  have HO3 := Lib.hid hown3
  have HS3 : Hid (∀ ob : Obj, Below w.heap.size w (w2.alloc ob).drew ∧ Blk (w2.alloc ob).drew w.heap.size 61 (rc W m (.slice A0 n0 c0) (.slice (some ⟨g, o, none⟩) n1 c1) (.slice A2 n2 c2) b 1 ws true k true false (.slice Ai ni ci) (.slice none 0 0)) ∧ Blk (w2.alloc ob).drew (w.heap.size + 1) 61 (rc 0 0 (.slice none 0 0) (.slice none 0 0) (.slice none 0 0) 0 0 false false 0 false false (.slice none 0 0) (.slice none 0 0))) := fun ob => ⟨(ba1 hbw ob).drew, b1.alloc ob, b2.alloc ob⟩
  clear hown hown3 b1 b2 hbw hcki
  skip
  go_region_law ((refine step_append_lies _ (by rfl) _ _ 27 (by rfl) (w.heap.size + 2) 3 i0 (.int .i64 0) 1 8 Tryd.underlying27 hi hz0 hz1 hz2 rfl (by omega) (.slice none 0 0) 0 [] (by rfl) (HO3.out _) ⟨w2.heap.size, 0, none⟩ 1 1 [.int .i64 x] (by rfl) (by rfl) (World.news_of_block (w := (w2.alloc (.cells #[.int .i64 x] 3)).drew) (heap_alloc_new w2 (.cells #[.int .i64 x] 3))) (by simp [Value.oneCell']) (by omega) (by unfold maxLen; omega) (by omega) (by show _ ≤ (w2.alloc _).heap.size; rw [World.size_alloc]; omega) (w2.heap.size + 1) (by show (w2.alloc _).heap.size = _; rw [World.size_alloc]) ?_; intro g' cap w4 hown4 hgrow4 hat4 hlt4; have HS4 := HS3.out (.cells #[.int .i64 x] 3); have m1 : Blk w4 w.heap.size 61 (rc W m (.slice A0 n0 c0) (.slice (some ⟨g, o, none⟩) n1 c1) (.slice A2 n2 c2) b 1 ws true k true false (.slice Ai ni ci) (.slice none 0 0)) := (hgrow4.block _ HS4.2.1.lt (by simp [Value.ownBlock])).trans HS4.2.1; have m2 : Blk w4 (w.heap.size + 1) 61 (rc 0 0 (.slice none 0 0) (.slice none 0 0) (.slice none 0 0) 0 0 false false 0 false false (.slice none 0 0) (.slice none 0 0)) := (hgrow4.block _ HS4.2.2.lt (by simp [Value.ownBlock])).trans HS4.2.2; have HM := Lib.hid (And.intro m1 (And.intro m2 (And.intro hown4 hgrow4))); have m3 := m1.cell; have m4 := m1.frozen; clear m1 m2 hown4 hgrow4 HS4))
  all_goals
    obtain ⟨m1, m2, hown4, hgrow4⟩ := HM.out
    have hb4 : Below w.heap.size w w4 := (HS3.out (.cells #[.int .i64 x] 3)).1.grown hgrow4 (by show w.heap.size ≤ (w2.alloc _).heap.size; rw [World.size_alloc]; omega) (by intro k' hk'; simp [Value.ownBlock] at hk')
    have hB' : w.heap.size + 2 ≤ g' := by
      rcases hown4.2 with ⟨h0, _⟩ | ⟨g2, cap2, cur, e, hB, hh, _⟩
      · cases h0
      · injection e with e _ _
        injection e with e
        injection e with e
        omega
    have HF : Hid (OwnP w [x] (fun A c => .tuple #[.agg (rc W m (.slice A0 n0 c0) (.slice (some ⟨g, o, none⟩) n1 c1) (.slice A2 n2 c2) b 1 ws false k true false (.slice Ai ni ci) (.slice A 1 c)), (.slice A 1 c), .bool true, .int .i64 0]) (.returned (.tuple #[.agg (rc W m (.slice A0 n0 c0) (.slice (some ⟨g, o, none⟩) n1 c1) (.slice A2 n2 c2) b 1 ws false k true false (.slice Ai ni ci) (.slice (some ⟨g', 0, none⟩) 1 cap)), (.slice (some ⟨g', 0, none⟩) 1 cap), .bool true, .int .i64 0])) (put14 ((w4.setCell ⟨w.heap.size, 13, none⟩ (.slice (some ⟨g', 0, none⟩) 1 cap)).setCell ⟨w.heap.size, 8, none⟩ (.bool false)) (w.heap.size + 1) (.int .i64 W) (.int .i64 m) (.slice A0 n0 c0) (.slice (some ⟨g, o, none⟩) n1 c1) (.slice A2 n2 c2) (.int .i64 b) (.int .i64 1) (.bool ws) (.bool false) (.int .i64 k) (.bool true) (.bool false) (.slice Ai ni ci) (.slice (some ⟨g', 0, none⟩) 1 cap)).drew) := by
      refine ⟨some ⟨g', 0, none⟩, cap, rfl, fun N hN => ?_, ?_⟩
      · have hL := LF.of_own_at (l := [x]) (by simpa using hown4) (by simp)
        refine LF.mono (N := fun x => x = g') ?_ (fun x _ hx => by rw [hx]; exact hN g' (by omega))
        have e9 : ([x]).length = 1 := by simp
        rw [e9]
        exact (((hL.far (q := w.heap.size) (by show ¬ w.heap.size = g'; omega) (.slice (some ⟨g', 0, none⟩) 1 cap)).far (q := w.heap.size) (by show ¬ w.heap.size = g'; omega) (.bool false)).only (only14 _ _) (fun x hx e => by subst hx; omega)).drew_
      · exact (bel_only ((hb4.setCell (p := ⟨w.heap.size, 13, none⟩) (Nat.le_refl _) (.slice (some ⟨g', 0, none⟩) 1 cap)).setCell (p := ⟨w.heap.size, 8, none⟩) (Nat.le_refl _) (.bool false)) (only14 _ _) (fun x hx => by rw [hx]; omega)).drew
    have d4 := m2.cell
    have d6 := m2.frozen
    have z2 := m2.lt
    have z1 := m1.lt
    clear m1 m2 hown4 hgrow4 hb4 HM HS3 HO3
    go_wp2
    go_region
    all_goals
      go_wp2
      refine bodyPost_ret (v := .tuple #[.agg (rc W m (.slice A0 n0 c0) (.slice (some ⟨g, o, none⟩) n1 c1) (.slice A2 n2 c2) b 1 ws false k true false (.slice Ai ni ci) (.slice (some ⟨g', 0, none⟩) 1 cap)), (.slice (some ⟨g', 0, none⟩) 1 cap), .bool true, .int .i64 0]) (by simp [results, Tryd.results36, go_sem, d4]) rfl ?_
      exact HF.out
end Go.Proofs.YtppmfmgmlicefabDoor.T3
