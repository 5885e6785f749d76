/- The document's register of three slots: the read's access of a word, of the message 1, not the first. -/
import Derived.Test.YtppmfmgmlicefabDoorVR2
import Derived.Deep.AppendLies
import Derived.Deep.RegionLaw
namespace Go.Proofs.YtppmfmgmlicefabDoor.T3
open Go.RowKit Go.Proofs.YtppmfmgmlicefabDoor.G Go.Proofs.YtppmfmgmlicefabDoor.Cell
set_option maxRecDepth 100000
variable {w : World} {W m b f k : Int} {A0 A1 A2 Ai Ao : Option Addr} {n0 n1 n2 ni no c0 c1 c2 ci co : Nat} {ws rs ak fr : Bool}
set_option maxHeartbeats 4000000 in
theorem rstepr1m {l lo : List Int} {N : Nat → Prop} (hl : LF w N (.slice A1 n1 c1) l) (hi : LF w N (.slice Ao lo.length co) lo) (hi0 : 0 < lo.length) (hn : n1 = l.length) (h6 : l.length ≤ 6) (hk : lo.length < l.length) (hW : ((lo.length + 1 : Nat) : Int) < W) :
    Calls Tryd.prog 36 #[.agg (rc W m (.slice A0 n0 c0) (.slice A1 n1 c1) (.slice A2 n2 c2) b 1 ws true k true false (.slice Ai ni ci) (.slice Ao lo.length co)), .bool false] w
      (OwnP w (lo ++ [nth l lo.length]) fun A c => .tuple #[.agg (rc W m (.slice A0 n0 c0) (.slice A1 n1 c1) (.slice A2 n2 c2) b 1 ws true k true false (.slice Ai ni ci) (.slice A (lo.length + 1) c)), .slice none 0 0, .bool false, .int .i64 0]) := by
  obtain ⟨A, c, e1, hc1, hc2, hc3⟩ := hl
  injection e1 with e1 e2 e3
  subst e1 e3
  obtain ⟨g, o, rfl, -, hg, hc⟩ := hc3 (by omega)
  obtain ⟨B, d, e1, hd1, hd2, hd3⟩ := hi
  injection e1 with e1 e2' e3
  subst e1 e3
  obtain ⟨gi, oi, rfl, -, hgi, hci⟩ := hd3 (by omega)
  obtain ⟨i0, hi, hz0, hz1, hz2⟩ := info_parts info3
  have hcki := hc lo.length hk
  have HN := Lib.hid hn
  have hkn : lo.length < n1 := by omega
  have hX : ∀ o1 o2 : Obj, ∀ j u, (lo.map (Value.int .i64))[j]? = some u → ((w.alloc o1).alloc o2).cell? ((⟨gi, oi, none⟩ : Addr).add j) = some u := by
    intro o1 o2 j u hj
    have hjl : j < lo.length := by
      have := (List.getElem?_eq_some_iff.1 hj).1
      simpa using this
    rw [Addr.add_lit, World.cell?_alloc_lt _ _ _ (by simp; omega), World.cell?_alloc_lt _ _ _ hgi, hci j hjl]
    rw [← hj]; simp [nth, hjl]
  have HX := Lib.hid hX; clear hX
  clear hci hd3
  have e1 : ∀ o : Obj, (w.alloc o).heap.size = w.heap.size + 1 := fun o => by simp
  generalize hxe : nth l lo.length = x at *
  have HXE := Lib.hid hxe
  clear hn hc hc3 e2 hxe
  go_enter Tryd.func36, Tryd.ntmps36
  go_wp2_with (at_builtin; refine wpList_append_own _ rfl _ _ 27 rfl (w.heap.size + 2) 3 i0 (.int .i64 0) 1 8 Tryd.underlying27 hi hz0 hz1 hz2 rfl (by decide) _ _ _ rfl (World.ownsRow_nil _ _ _ _) ⟨gi, oi, none⟩ lo.length co (lo.map (Value.int .i64)) rfl (by simp) (HX.out _ _) (ints_one lo) (by unfold maxLen; omega) (by omega) (by simp) ?_)
  intro v' w2 hown hgrow hnil
  clear hnil
  have b1 : Blk w2 w.heap.size 61 (rc W m (.slice A0 n0 c0) (.slice (some ⟨g, o, none⟩) n1 c1) (.slice A2 n2 c2) b 1 ws true k true false (.slice Ai ni ci) (.slice (some ⟨gi, oi, none⟩) lo.length co)) := by
    have h := (Blk.new w 61 (rc W m (.slice A0 n0 c0) (.slice (some ⟨g, o, none⟩) n1 c1) (.slice A2 n2 c2) b 1 ws true k true false (.slice Ai ni ci) (.slice (some ⟨gi, oi, none⟩) lo.length co))).alloc (.cells (rc 0 0 (.slice none 0 0) (.slice none 0 0) (.slice none 0 0) 0 0 false false 0 false false (.slice none 0 0) (.slice none 0 0)) 61)
    exact (hgrow.block _ h.lt (by simp [Value.ownBlock])).trans h
  have b2 : Blk w2 (w.heap.size + 1) 61 (rc 0 0 (.slice none 0 0) (.slice none 0 0) (.slice none 0 0) 0 0 false false 0 false false (.slice none 0 0) (.slice none 0 0)) := by
    have h := Blk.new (w.alloc (.cells (rc W m (.slice A0 n0 c0) (.slice (some ⟨g, o, none⟩) n1 c1) (.slice A2 n2 c2) b 1 ws true k true false (.slice Ai ni ci) (.slice (some ⟨gi, oi, none⟩) lo.length co)) 61)) 61 (rc 0 0 (.slice none 0 0) (.slice none 0 0) (.slice none 0 0) 0 0 false false 0 false false (.slice none 0 0) (.slice none 0 0))
    rw [e1] at h
    exact (hgrow.block _ h.lt (by simp [Value.ownBlock])).trans h
  have hbw : Below w.heap.size w w2 := (ba1 (b01 w _) _).grown hgrow (by rw [World.size_alloc, World.size_alloc]; omega) (by intro k' hk'; simp [Value.ownBlock] at hk')
  have hz9 : w.heap.size + 2 ≤ w2.heap.size := by have := hgrow.size; rw [World.size_alloc, World.size_alloc] at this; exact this
  clear hgrow
  obtain ⟨gl, capl, rfl, hBl, hgl⟩ : ∃ g' cap, v' = .slice (some ⟨g', 0, none⟩) lo.length cap ∧ w.heap.size + 2 ≤ g' ∧ g' < w2.heap.size := by
    rcases hown.2 with ⟨_, h0⟩ | ⟨g', cap, cur, e, hB, hh, _⟩
    · omega
    · exact ⟨g', cap, e, hB, Blk.lt (t := 3) (cs := cur) hh⟩
  have d2 : w2.cell? ⟨g, o + lo.length, none⟩ = some (.int .i64 x) := (hbw.cell (p := ⟨g, o + lo.length, none⟩) hg).trans hcki
  have d3 := b1.cell
  have hown3 : ∀ ob : Obj, (w2.alloc ob).drew.ownsRow (w.heap.size + 2) 3 1 (.slice (some ⟨gl, 0, none⟩) lo.length capl) lo.length (lo.map (Value.int .i64)) := fun ob => (World.ownsRow.alloc hown ob)
  have HO3 := Lib.hid hown3
  have HS3 : Hid (∀ ob : Obj, Below w.heap.size w (w2.alloc ob).drew ∧ Blk (w2.alloc ob).drew w.heap.size 61 (rc W m (.slice A0 n0 c0) (.slice (some ⟨g, o, none⟩) n1 c1) (.slice A2 n2 c2) b 1 ws true k true false (.slice Ai ni ci) (.slice (some ⟨gi, oi, none⟩) lo.length co)) ∧ Blk (w2.alloc ob).drew (w.heap.size + 1) 61 (rc 0 0 (.slice none 0 0) (.slice none 0 0) (.slice none 0 0) 0 0 false false 0 false false (.slice none 0 0) (.slice none 0 0))) := fun ob => ⟨(ba1 hbw ob).drew, b1.alloc ob, b2.alloc ob⟩
  clear hown hown3 b1 b2 hbw hcki
  go_wp2
  go_region_law ((refine step_append_lies _ (by rfl) _ _ 27 (by rfl) (w.heap.size + 2) 3 i0 (.int .i64 0) 1 8 Tryd.underlying27 hi hz0 hz1 hz2 rfl (by omega) (.slice (some ⟨gl, 0, none⟩) lo.length capl) lo.length (lo.map (Value.int .i64)) (by rfl) (HO3.out _) ⟨w2.heap.size, 0, none⟩ 1 1 [.int .i64 x] (by rfl) (by rfl) (World.news_of_block (w := (w2.alloc (.cells #[.int .i64 x] 3)).drew) (heap_alloc_new w2 (.cells #[.int .i64 x] 3))) (by simp [Value.oneCell']) (by omega) (by unfold maxLen; omega) (by omega) (by show _ ≤ (w2.alloc _).heap.size; rw [World.size_alloc]; omega) (w2.heap.size + 1) (by show (w2.alloc _).heap.size = _; rw [World.size_alloc]) ?_; intro g' cap w4 hown4 hgrow4 hat4 hlt4; have HS4 := HS3.out (.cells #[.int .i64 x] 3); have m1 : Blk w4 w.heap.size 61 (rc W m (.slice A0 n0 c0) (.slice (some ⟨g, o, none⟩) n1 c1) (.slice A2 n2 c2) b 1 ws true k true false (.slice Ai ni ci) (.slice (some ⟨gi, oi, none⟩) lo.length co)) := (hgrow4.block _ HS4.2.1.lt (by simp [Value.ownBlock]; omega)).trans HS4.2.1; have m2 : Blk w4 (w.heap.size + 1) 61 (rc 0 0 (.slice none 0 0) (.slice none 0 0) (.slice none 0 0) 0 0 false false 0 false false (.slice none 0 0) (.slice none 0 0)) := (hgrow4.block _ HS4.2.2.lt (by simp [Value.ownBlock]; omega)).trans HS4.2.2; have HM := Lib.hid (And.intro m1 (And.intro m2 (And.intro hown4 hgrow4))); have m3 := m1.cell; have m4 := m1.frozen; clear m1 m2 hown4 hgrow4 HS4))
  all_goals
    obtain ⟨m1, m2, hown4, hgrow4⟩ := HM.out
    have hb4 : Below w.heap.size w w4 := (HS3.out (.cells #[.int .i64 x] 3)).1.grown hgrow4 (by show w.heap.size ≤ (w2.alloc _).heap.size; rw [World.size_alloc]; omega) (by intro k' hk'; simp [Value.ownBlock] at hk'; omega)
    have hB' : w.heap.size + 2 ≤ g' := by
      rcases hown4.2 with ⟨h0, _⟩ | ⟨g2, cap2, cur, e, hB, hh, _⟩
      · cases h0
      · injection e with e _ _
        injection e with e
        injection e with e
        omega
    have HF : Hid (OwnP w (lo ++ [x]) (fun A c => .tuple #[.agg (rc W m (.slice A0 n0 c0) (.slice (some ⟨g, o, none⟩) n1 c1) (.slice A2 n2 c2) b 1 ws true k true false (.slice Ai ni ci) (.slice A (lo.length + 1) c)), .slice none 0 0, .bool false, .int .i64 0]) (.returned (.tuple #[.agg (rc W m (.slice A0 n0 c0) (.slice (some ⟨g, o, none⟩) n1 c1) (.slice A2 n2 c2) b 1 ws true k true false (.slice Ai ni ci) (.slice (some ⟨g', 0, none⟩) (lo.length + 1) cap)), .slice none 0 0, .bool false, .int .i64 0])) (put14 (w4.setCell ⟨w.heap.size, 13, none⟩ (.slice (some ⟨g', 0, none⟩) (lo.length + 1) cap)) (w.heap.size + 1) (.int .i64 W) (.int .i64 m) (.slice A0 n0 c0) (.slice (some ⟨g, o, none⟩) n1 c1) (.slice A2 n2 c2) (.int .i64 b) (.int .i64 1) (.bool ws) (.bool true) (.int .i64 k) (.bool true) (.bool false) (.slice Ai ni ci) (.slice (some ⟨g', 0, none⟩) (lo.length + 1) cap))) := by
      refine ⟨some ⟨g', 0, none⟩, cap, rfl, fun N hN => ?_, ?_⟩
      · have hL := LF.of_own_at (l := (lo ++ [x])) (by simpa using hown4) (by simp)
        refine LF.mono (N := fun x => x = g') ?_ (fun x _ hx => by rw [hx]; exact hN g' (by omega))
        have e9 : ((lo ++ [x])).length = (lo.length + 1) := by simp
        rw [e9]
        exact (((hL.far (q := w.heap.size) (by show ¬ w.heap.size = g'; omega) (.slice (some ⟨g', 0, none⟩) (lo.length + 1) cap))).only (only14 _ _) (fun x hx e => by subst hx; omega))
      · exact (bel_only (hb4.setCell (p := ⟨w.heap.size, 13, none⟩) (Nat.le_refl _) (.slice (some ⟨g', 0, none⟩) (lo.length + 1) cap)) (only14 _ _) (fun x hx => by rw [hx]; omega))
    have d4 := m2.cell
    have d6 := m2.frozen
    have z2 := m2.lt
    have z1 := m1.lt
    clear m1 m2 hown4 hgrow4 hb4 HM HS3 HO3
    go_wp2
    refine bodyPost_ret (v := .tuple #[.agg (rc W m (.slice A0 n0 c0) (.slice (some ⟨g, o, none⟩) n1 c1) (.slice A2 n2 c2) b 1 ws true k true false (.slice Ai ni ci) (.slice (some ⟨g', 0, none⟩) (lo.length + 1) cap)), .slice none 0 0, .bool false, .int .i64 0]) (by simp [results, Tryd.results36, go_sem, d4]) rfl ?_
    exact HF.out
set_option maxHeartbeats 4000000 in
theorem rstepr1ml {l lo : List Int} {N : Nat → Prop} (hl : LF w N (.slice A1 n1 c1) l) (hi : LF w N (.slice Ao lo.length co) lo) (hi0 : 0 < lo.length) (hn : n1 = l.length) (h6 : l.length ≤ 6) (hk : lo.length < l.length) (hW : ¬ ((lo.length + 1 : Nat) : Int) < W) :
    Calls Tryd.prog 36 #[.agg (rc W m (.slice A0 n0 c0) (.slice A1 n1 c1) (.slice A2 n2 c2) b 1 ws true k true false (.slice Ai ni ci) (.slice Ao lo.length co)), .bool false] w
      (OwnP w (lo ++ [nth l lo.length]) fun A c => .tuple #[.agg (rc W m (.slice A0 n0 c0) (.slice A1 n1 c1) (.slice A2 n2 c2) b 1 ws false k true false (.slice Ai ni ci) (.slice A (lo.length + 1) c)), (.slice A (lo.length + 1) c), .bool true, .int .i64 0]) := by
  obtain ⟨A, c, e1, hc1, hc2, hc3⟩ := hl
  injection e1 with e1 e2 e3
  subst e1 e3
  obtain ⟨g, o, rfl, -, hg, hc⟩ := hc3 (by omega)
  obtain ⟨B, d, e1, hd1, hd2, hd3⟩ := hi
  injection e1 with e1 e2' e3
  subst e1 e3
  obtain ⟨gi, oi, rfl, -, hgi, hci⟩ := hd3 (by omega)
  obtain ⟨i0, hi, hz0, hz1, hz2⟩ := info_parts info3
  have hcki := hc lo.length hk
  have HN := Lib.hid hn
  have hkn : lo.length < n1 := by omega
  have hX : ∀ o1 o2 : Obj, ∀ j u, (lo.map (Value.int .i64))[j]? = some u → ((w.alloc o1).alloc o2).cell? ((⟨gi, oi, none⟩ : Addr).add j) = some u := by
    intro o1 o2 j u hj
    have hjl : j < lo.length := by
      have := (List.getElem?_eq_some_iff.1 hj).1
      simpa using this
    rw [Addr.add_lit, World.cell?_alloc_lt _ _ _ (by simp; omega), World.cell?_alloc_lt _ _ _ hgi, hci j hjl]
    rw [← hj]; simp [nth, hjl]
  have HX := Lib.hid hX; clear hX
  clear hci hd3
  have e1 : ∀ o : Obj, (w.alloc o).heap.size = w.heap.size + 1 := fun o => by simp
  generalize hxe : nth l lo.length = x at *
  have HXE := Lib.hid hxe
  clear hn hc hc3 e2 hxe
  go_enter Tryd.func36, Tryd.ntmps36
  go_wp2_with (at_builtin; refine wpList_append_own _ rfl _ _ 27 rfl (w.heap.size + 2) 3 i0 (.int .i64 0) 1 8 Tryd.underlying27 hi hz0 hz1 hz2 rfl (by decide) _ _ _ rfl (World.ownsRow_nil _ _ _ _) ⟨gi, oi, none⟩ lo.length co (lo.map (Value.int .i64)) rfl (by simp) (HX.out _ _) (ints_one lo) (by unfold maxLen; omega) (by omega) (by simp) ?_)
  intro v' w2 hown hgrow hnil
  clear hnil
  have b1 : Blk w2 w.heap.size 61 (rc W m (.slice A0 n0 c0) (.slice (some ⟨g, o, none⟩) n1 c1) (.slice A2 n2 c2) b 1 ws true k true false (.slice Ai ni ci) (.slice (some ⟨gi, oi, none⟩) lo.length co)) := by
    have h := (Blk.new w 61 (rc W m (.slice A0 n0 c0) (.slice (some ⟨g, o, none⟩) n1 c1) (.slice A2 n2 c2) b 1 ws true k true false (.slice Ai ni ci) (.slice (some ⟨gi, oi, none⟩) lo.length co))).alloc (.cells (rc 0 0 (.slice none 0 0) (.slice none 0 0) (.slice none 0 0) 0 0 false false 0 false false (.slice none 0 0) (.slice none 0 0)) 61)
    exact (hgrow.block _ h.lt (by simp [Value.ownBlock])).trans h
  have b2 : Blk w2 (w.heap.size + 1) 61 (rc 0 0 (.slice none 0 0) (.slice none 0 0) (.slice none 0 0) 0 0 false false 0 false false (.slice none 0 0) (.slice none 0 0)) := by
    have h := Blk.new (w.alloc (.cells (rc W m (.slice A0 n0 c0) (.slice (some ⟨g, o, none⟩) n1 c1) (.slice A2 n2 c2) b 1 ws true k true false (.slice Ai ni ci) (.slice (some ⟨gi, oi, none⟩) lo.length co)) 61)) 61 (rc 0 0 (.slice none 0 0) (.slice none 0 0) (.slice none 0 0) 0 0 false false 0 false false (.slice none 0 0) (.slice none 0 0))
    rw [e1] at h
    exact (hgrow.block _ h.lt (by simp [Value.ownBlock])).trans h
  have hbw : Below w.heap.size w w2 := (ba1 (b01 w _) _).grown hgrow (by rw [World.size_alloc, World.size_alloc]; omega) (by intro k' hk'; simp [Value.ownBlock] at hk')
  have hz9 : w.heap.size + 2 ≤ w2.heap.size := by have := hgrow.size; rw [World.size_alloc, World.size_alloc] at this; exact this
  clear hgrow
  obtain ⟨gl, capl, rfl, hBl, hgl⟩ : ∃ g' cap, v' = .slice (some ⟨g', 0, none⟩) lo.length cap ∧ w.heap.size + 2 ≤ g' ∧ g' < w2.heap.size := by
    rcases hown.2 with ⟨_, h0⟩ | ⟨g', cap, cur, e, hB, hh, _⟩
    · omega
    · exact ⟨g', cap, e, hB, Blk.lt (t := 3) (cs := cur) hh⟩
  have d2 : w2.cell? ⟨g, o + lo.length, none⟩ = some (.int .i64 x) := (hbw.cell (p := ⟨g, o + lo.length, none⟩) hg).trans hcki
  have d3 := b1.cell
  have hown3 : ∀ ob : Obj, (w2.alloc ob).drew.ownsRow (w.heap.size + 2) 3 1 (.slice (some ⟨gl, 0, none⟩) lo.length capl) lo.length (lo.map (Value.int .i64)) := fun ob => (World.ownsRow.alloc hown ob)
  have HO3 := Lib.hid hown3
  have HS3 : Hid (∀ ob : Obj, Below w.heap.size w (w2.alloc ob).drew ∧ Blk (w2.alloc ob).drew w.heap.size 61 (rc W m (.slice A0 n0 c0) (.slice (some ⟨g, o, none⟩) n1 c1) (.slice A2 n2 c2) b 1 ws true k true false (.slice Ai ni ci) (.slice (some ⟨gi, oi, none⟩) lo.length co)) ∧ Blk (w2.alloc ob).drew (w.heap.size + 1) 61 (rc 0 0 (.slice none 0 0) (.slice none 0 0) (.slice none 0 0) 0 0 false false 0 false false (.slice none 0 0) (.slice none 0 0))) := fun ob => ⟨(ba1 hbw ob).drew, b1.alloc ob, b2.alloc ob⟩
  clear hown hown3 b1 b2 hbw hcki
  go_wp2
  go_region_law ((refine step_append_lies _ (by rfl) _ _ 27 (by rfl) (w.heap.size + 2) 3 i0 (.int .i64 0) 1 8 Tryd.underlying27 hi hz0 hz1 hz2 rfl (by omega) (.slice (some ⟨gl, 0, none⟩) lo.length capl) lo.length (lo.map (Value.int .i64)) (by rfl) (HO3.out _) ⟨w2.heap.size, 0, none⟩ 1 1 [.int .i64 x] (by rfl) (by rfl) (World.news_of_block (w := (w2.alloc (.cells #[.int .i64 x] 3)).drew) (heap_alloc_new w2 (.cells #[.int .i64 x] 3))) (by simp [Value.oneCell']) (by omega) (by unfold maxLen; omega) (by omega) (by show _ ≤ (w2.alloc _).heap.size; rw [World.size_alloc]; omega) (w2.heap.size + 1) (by show (w2.alloc _).heap.size = _; rw [World.size_alloc]) ?_; intro g' cap w4 hown4 hgrow4 hat4 hlt4; have HS4 := HS3.out (.cells #[.int .i64 x] 3); have m1 : Blk w4 w.heap.size 61 (rc W m (.slice A0 n0 c0) (.slice (some ⟨g, o, none⟩) n1 c1) (.slice A2 n2 c2) b 1 ws true k true false (.slice Ai ni ci) (.slice (some ⟨gi, oi, none⟩) lo.length co)) := (hgrow4.block _ HS4.2.1.lt (by simp [Value.ownBlock]; omega)).trans HS4.2.1; have m2 : Blk w4 (w.heap.size + 1) 61 (rc 0 0 (.slice none 0 0) (.slice none 0 0) (.slice none 0 0) 0 0 false false 0 false false (.slice none 0 0) (.slice none 0 0)) := (hgrow4.block _ HS4.2.2.lt (by simp [Value.ownBlock]; omega)).trans HS4.2.2; have HM := Lib.hid (And.intro m1 (And.intro m2 (And.intro hown4 hgrow4))); have m3 := m1.cell; have m4 := m1.frozen; clear m1 m2 hown4 hgrow4 HS4))
  all_goals
    obtain ⟨m1, m2, hown4, hgrow4⟩ := HM.out
    have hb4 : Below w.heap.size w w4 := (HS3.out (.cells #[.int .i64 x] 3)).1.grown hgrow4 (by show w.heap.size ≤ (w2.alloc _).heap.size; rw [World.size_alloc]; omega) (by intro k' hk'; simp [Value.ownBlock] at hk'; omega)
    have hB' : w.heap.size + 2 ≤ g' := by
      rcases hown4.2 with ⟨h0, _⟩ | ⟨g2, cap2, cur, e, hB, hh, _⟩
      · cases h0
      · injection e with e _ _
        injection e with e
        injection e with e
        omega
    have HF : Hid (OwnP w (lo ++ [x]) (fun A c => .tuple #[.agg (rc W m (.slice A0 n0 c0) (.slice (some ⟨g, o, none⟩) n1 c1) (.slice A2 n2 c2) b 1 ws false k true false (.slice Ai ni ci) (.slice A (lo.length + 1) c)), (.slice A (lo.length + 1) c), .bool true, .int .i64 0]) (.returned (.tuple #[.agg (rc W m (.slice A0 n0 c0) (.slice (some ⟨g, o, none⟩) n1 c1) (.slice A2 n2 c2) b 1 ws false k true false (.slice Ai ni ci) (.slice (some ⟨g', 0, none⟩) (lo.length + 1) cap)), (.slice (some ⟨g', 0, none⟩) (lo.length + 1) cap), .bool true, .int .i64 0])) (put14 ((w4.setCell ⟨w.heap.size, 13, none⟩ (.slice (some ⟨g', 0, none⟩) (lo.length + 1) cap)).setCell ⟨w.heap.size, 8, none⟩ (.bool false)) (w.heap.size + 1) (.int .i64 W) (.int .i64 m) (.slice A0 n0 c0) (.slice (some ⟨g, o, none⟩) n1 c1) (.slice A2 n2 c2) (.int .i64 b) (.int .i64 1) (.bool ws) (.bool false) (.int .i64 k) (.bool true) (.bool false) (.slice Ai ni ci) (.slice (some ⟨g', 0, none⟩) (lo.length + 1) cap)).drew) := by
      refine ⟨some ⟨g', 0, none⟩, cap, rfl, fun N hN => ?_, ?_⟩
      · have hL := LF.of_own_at (l := (lo ++ [x])) (by simpa using hown4) (by simp)
        refine LF.mono (N := fun x => x = g') ?_ (fun x _ hx => by rw [hx]; exact hN g' (by omega))
        have e9 : ((lo ++ [x])).length = (lo.length + 1) := by simp
        rw [e9]
        exact (((hL.far (q := w.heap.size) (by show ¬ w.heap.size = g'; omega) (.slice (some ⟨g', 0, none⟩) (lo.length + 1) cap)).far (q := w.heap.size) (by show ¬ w.heap.size = g'; omega) (.bool false)).only (only14 _ _) (fun x hx e => by subst hx; omega)).drew_
      · exact (bel_only ((hb4.setCell (p := ⟨w.heap.size, 13, none⟩) (Nat.le_refl _) (.slice (some ⟨g', 0, none⟩) (lo.length + 1) cap)).setCell (p := ⟨w.heap.size, 8, none⟩) (Nat.le_refl _) (.bool false)) (only14 _ _) (fun x hx => by rw [hx]; omega)).drew
    have d4 := m2.cell
    have d6 := m2.frozen
    have z2 := m2.lt
    have z1 := m1.lt
    clear m1 m2 hown4 hgrow4 hb4 HM HS3 HO3
    go_wp2
    go_region
    all_goals
      go_wp2
      refine bodyPost_ret (v := .tuple #[.agg (rc W m (.slice A0 n0 c0) (.slice (some ⟨g, o, none⟩) n1 c1) (.slice A2 n2 c2) b 1 ws false k true false (.slice Ai ni ci) (.slice (some ⟨g', 0, none⟩) (lo.length + 1) cap)), (.slice (some ⟨g', 0, none⟩) (lo.length + 1) cap), .bool true, .int .i64 0]) (by simp [results, Tryd.results36, go_sem, d4]) rfl ?_
      exact HF.out
end Go.Proofs.YtppmfmgmlicefabDoor.T3
