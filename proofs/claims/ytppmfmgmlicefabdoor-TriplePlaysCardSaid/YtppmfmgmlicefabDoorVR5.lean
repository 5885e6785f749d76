/- The document's register of three slots: Cells. -/
import Derived.Test.YtppmfmgmlicefabDoorVR2
namespace Go.Proofs.YtppmfmgmlicefabDoor.T3
open Go.RowKit Go.Proofs.YtppmfmgmlicefabDoor.G Go.Proofs.YtppmfmgmlicefabDoor.Cell
set_option maxRecDepth 100000
variable {w : World} {W m b f k : Int} {A0 A1 A2 Ai Ao : Option Addr} {n0 n1 n2 ni no c0 c1 c2 ci co : Nat} {ws rs ak fr : Bool}
/-- What the loop keeps: the words so far. -/
def ClI (w : World) (bx : Array Value) (l0 l1 l2 l3 : List Int) (v i : Value) (V : World) : Prop := ∃ k : Nat, i = .int .i64 k ∧ k ≤ 3 ∧ Below w.heap.size w V ∧ w.heap.size + 1 ≤ V.heap.size ∧ Blk V w.heap.size 61 bx ∧
  ∃ (g cap : Nat) (l : List Int), v = .slice (some ⟨g, 0, none⟩) l.length cap ∧ V.ownsRow (w.heap.size + 1) 3 1 v l.length (l.map (Value.int .i64)) ∧ l = (if k = 0 then l0 else if k = 1 then l1 else if k = 2 then l2 else l3)
theorem lit_own (w : World) (m : Int) (B : Nat) (hB : B ≤ w.heap.size) : (w.alloc (.cells #[.int .i64 m] 3)).ownsRow B 3 1 (.slice (some ⟨w.heap.size, 0, none⟩) 1 1) 1 ([m].map (Value.int .i64)) := by
  have h := World.ownsRow_lit (base := B) (e := 3) (size := 1) w #[.int .i64 m] 1 hB (by unfold maxLen; omega) (by simp)
  simpa using h
set_option maxHeartbeats 4000000 in
theorem rcells {d0 d1 d2 : List Int} {q : Nat} {N : Nat → Prop} (h0 : LF w N (.slice A0 n0 c0) d0) (e0 : n0 = d0.length) (h1 : LF w N (.slice A1 n1 c1) d1) (e1 : n1 = d1.length) (h2 : LF w N (.slice A2 n2 c2) d2) (e2 : n2 = d2.length) (q0 : d0.length = q) (q1 : d1.length = q) (q2 : d2.length = q) (hq : 0 < q) (h6 : q ≤ 6) :
    Calls Tryd.prog 43 #[.agg (rc W m (.slice A0 n0 c0) (.slice A1 n1 c1) (.slice A2 n2 c2) b f ws rs k ak fr (.slice Ai ni ci) (.slice Ao no co))] w (OwnP w (m :: (d0 ++ (d1 ++ d2))) fun A c => .slice A (m :: (d0 ++ (d1 ++ d2))).length c) := by
  obtain ⟨i0, hi, hz0, hz1, hz2⟩ := info_parts info3
  obtain ⟨A, c, ee, hc1, hc2, hc3⟩ := h0
  injection ee with ea eb ec
  subst ea ec
  obtain ⟨g0, o0, rfl, -, hg0, hc0⟩ := hc3 (by omega)
  have HC0 := Lib.hid hc0
  have HG0 := Lib.hid hg0
  have HN0 : Hid (n0 = q) := e0.trans q0
  clear hc0 hg0 hc3 eb
  obtain ⟨A, c, ee, hc1, hc2, hc3⟩ := h1
  injection ee with ea eb ec
  subst ea ec
  obtain ⟨g1, o1, rfl, -, hg1, hc1⟩ := hc3 (by omega)
  have HC1 := Lib.hid hc1
  have HG1 := Lib.hid hg1
  have HN1 : Hid (n1 = q) := e1.trans q1
  clear hc1 hg1 hc3 eb
  obtain ⟨A, c, ee, hc1, hc2, hc3⟩ := h2
  injection ee with ea eb ec
  subst ea ec
  obtain ⟨g2, o2, rfl, -, hg2, hc2⟩ := hc3 (by omega)
  have HC2 := Lib.hid hc2
  have HG2 := Lib.hid hg2
  have HN2 : Hid (n2 = q) := e2.trans q2
  clear hc2 hg2 hc3 eb
  have HQ : Hid (d0.length = q ∧ d1.length = q ∧ d2.length = q) := ⟨q0, q1, q2⟩
  clear e0 e1 e2 q0 q1 q2
  have hown0 : Hid (((w.alloc (.cells (rc W m (.slice (some ⟨g0, o0, none⟩) n0 c0) (.slice (some ⟨g1, o1, none⟩) n1 c1) (.slice (some ⟨g2, o2, none⟩) n2 c2) b f ws rs k ak fr (.slice Ai ni ci) (.slice Ao no co)) 61)).alloc (.cells #[.int .i64 m] 3)).ownsRow (w.heap.size + 1) 3 1 (.slice (some ⟨w.heap.size + 1, 0, none⟩) 1 1) 1 ([m].map (Value.int .i64))) := by
    have h := lit_own (w.alloc (.cells (rc W m (.slice (some ⟨g0, o0, none⟩) n0 c0) (.slice (some ⟨g1, o1, none⟩) n1 c1) (.slice (some ⟨g2, o2, none⟩) n2 c2) b f ws rs k ak fr (.slice Ai ni ci) (.slice Ao no co)) 61)) m (w.heap.size + 1) (by rw [World.size_alloc]; omega)
    rw [World.size_alloc] at h
    exact h
  have hb0 : Hid (Blk ((w.alloc (.cells (rc W m (.slice (some ⟨g0, o0, none⟩) n0 c0) (.slice (some ⟨g1, o1, none⟩) n1 c1) (.slice (some ⟨g2, o2, none⟩) n2 c2) b f ws rs k ak fr (.slice Ai ni ci) (.slice Ao no co)) 61)).alloc (.cells #[.int .i64 m] 3)) w.heap.size 61 (rc W m (.slice (some ⟨g0, o0, none⟩) n0 c0) (.slice (some ⟨g1, o1, none⟩) n1 c1) (.slice (some ⟨g2, o2, none⟩) n2 c2) b f ws rs k ak fr (.slice Ai ni ci) (.slice Ao no co))) := (Blk.new w 61 (rc W m (.slice (some ⟨g0, o0, none⟩) n0 c0) (.slice (some ⟨g1, o1, none⟩) n1 c1) (.slice (some ⟨g2, o2, none⟩) n2 c2) b f ws rs k ak fr (.slice Ai ni ci) (.slice Ao no co))).alloc _
  have hB0 : Hid (Below w.heap.size w ((w.alloc (.cells (rc W m (.slice (some ⟨g0, o0, none⟩) n0 c0) (.slice (some ⟨g1, o1, none⟩) n1 c1) (.slice (some ⟨g2, o2, none⟩) n2 c2) b f ws rs k ak fr (.slice Ai ni ci) (.slice Ao no co)) 61)).alloc (.cells #[.int .i64 m] 3))) := ba1 (b01 w _) _
  go_enter Tryd.func43, Tryd.ntmps43
  go_wp2
  go_loopw [3, 4] (fun v i V => ClI w (rc W m (.slice (some ⟨g0, o0, none⟩) n0 c0) (.slice (some ⟨g1, o1, none⟩) n1 c1) (.slice (some ⟨g2, o2, none⟩) n2 c2) b f ws rs k ak fr (.slice Ai ni ci) (.slice Ao no co)) [m] (m :: d0) (m :: (d0 ++ d1)) (m :: (d0 ++ (d1 ++ d2))) v i V) (fun _ i _ => 3 - (intOf i).toNat)
  case atStart => exact ⟨0, rfl, by omega, hB0.out, by rw [World.size_alloc, World.size_alloc]; omega, hb0.out, _, _, [m], rfl, hown0.out, rfl⟩
  case round =>
    obtain ⟨k, rfl, hk, hB, hsz, hbx, hl⟩ := hrel
    by_cases hlt : k < 3
    · have hk3 : k = 0 ∨ k = 1 ∨ k = 2 := by omega
      rcases hk3 with rfl | rfl | rfl
      · -- 0
        obtain ⟨gl, cap, l, rfl, hown, hle⟩ := hl
        have HLE : Hid (l = [m]) := hle
        clear hle
        have hlc : Hid (∀ jj u, (d0.map (Value.int .i64))[jj]? = some u → wr.cell? ((⟨g0, o0, none⟩ : Addr).add jj) = some u) := by
          intro jj u hj
          have hjl : jj < d0.length := by simpa using (List.getElem?_eq_some_iff.1 hj).1
          rw [Addr.add_lit, hB.cell (p := ⟨g0, o0 + jj, none⟩) HG0.out, HC0.out jj hjl, ← hj]
          simp [nth, hjl]
        have HBl := Lib.hid hbx
        have k0 := hbx.cell
        clear hbx
        have HBo := Lib.hid hB
        clear hB
        have qc1 : Hid ((d0.map (Value.int .i64)).length = n0 * 1) := by show (d0.map (Value.int .i64)).length = n0 * 1; rw [List.length_map, Nat.mul_one]; exact (HQ.out.1).trans HN0.out.symm
        have qc4 : 0 < n0 := by have := HN0.out; omega
        have qc5 : Hid (l.length + n0 ≤ maxLen) := by show l.length + n0 ≤ maxLen; have hle := HLE.out; rw [hle]; have := HN0.out; have := HQ.out.1; have := HQ.out.2.1; unfold maxLen; simp; omega
        have qc6 : Hid ((l.length + n0) * 8 ≤ 140737488355328) := by show (l.length + n0) * 8 ≤ 140737488355328; have hle := HLE.out; rw [hle]; have := HN0.out; have := HQ.out.1; have := HQ.out.2.1; simp; omega
        go_wp2_with (at_builtin; refine wpList_append_lies _ rfl _ _ 27 rfl (w.heap.size + 1) 3 i0 (.int .i64 0) 1 8 Tryd.underlying27 hi hz0 hz1 hz2 rfl (by decide) _ _ _ rfl hown ⟨g0, o0, none⟩ n0 c0 (d0.map (Value.int .i64)) rfl qc1.out hlc.out (ints_one d0) qc4 qc5.out qc6.out hsz _ rfl ?_)
        intro gn capn w5 hown5 hgrow5 hat5 hlt5
        have E : l.length + n0 = ((m :: d0)).length := by have hle := HLE.out; rw [hle]; have h1 := HN0.out; have h2 := HQ.out.1; have h3 := HQ.out.2.1; have h4 := HQ.out.2.2; simp; omega
        have ho : w5.ownsRow (w.heap.size + 1) 3 1 (.slice (some ⟨gn, 0, none⟩) ((m :: d0)).length capn) ((m :: d0)).length (((m :: d0)).map (Value.int .i64)) := by
          have h := hown5
          rw [E, HLE.out, ← List.map_append] at h
          simpa using h
        have hgl : w.heap.size + 1 ≤ gl := by
          rcases hown.2 with ⟨h0, _⟩ | ⟨g2, cap2, cur, e, hB, hh, _⟩
          · cases h0
          · injection e with e _ _
            injection e with e
            injection e with e
            omega
        have HX : Hid (Below w.heap.size w w5 ∧ w.heap.size + 1 ≤ w5.heap.size ∧ Blk w5 w.heap.size 61 (rc W m (.slice (some ⟨g0, o0, none⟩) n0 c0) (.slice (some ⟨g1, o1, none⟩) n1 c1) (.slice (some ⟨g2, o2, none⟩) n2 c2) b f ws rs k ak fr (.slice Ai ni ci) (.slice Ao no co))) := ⟨HBo.out.grown hgrow5 (by omega) (by intro k' hk'; simp [Value.ownBlock] at hk'; omega), by have := hgrow5.size; omega, (hgrow5.block _ HBl.out.lt (by simp [Value.ownBlock]; omega)).trans HBl.out⟩
        have HO := Lib.hid ho
        have HE := Lib.hid E
        clear ho E hown hown5 hgrow5 hat5 k0 hlc
        go_wp2
        go_roundw
        case rel => exact ⟨1, by go_num, by omega, HX.out.1, HX.out.2.1, HX.out.2.2, gn, capn, (m :: d0), by rw [HE.out], by rw [HE.out]; exact HO.out, rfl⟩
        case measure => simp [intOf]
      · -- 1
        obtain ⟨gl, cap, l, rfl, hown, hle⟩ := hl
        have HLE : Hid (l = (m :: d0)) := hle
        clear hle
        have hlc : Hid (∀ jj u, (d1.map (Value.int .i64))[jj]? = some u → wr.cell? ((⟨g1, o1, none⟩ : Addr).add jj) = some u) := by
          intro jj u hj
          have hjl : jj < d1.length := by simpa using (List.getElem?_eq_some_iff.1 hj).1
          rw [Addr.add_lit, hB.cell (p := ⟨g1, o1 + jj, none⟩) HG1.out, HC1.out jj hjl, ← hj]
          simp [nth, hjl]
        have HBl := Lib.hid hbx
        have k0 := hbx.cell
        clear hbx
        have HBo := Lib.hid hB
        clear hB
        have qc1 : Hid ((d1.map (Value.int .i64)).length = n1 * 1) := by show (d1.map (Value.int .i64)).length = n1 * 1; rw [List.length_map, Nat.mul_one]; exact (HQ.out.2.1).trans HN1.out.symm
        have qc4 : 0 < n1 := by have := HN1.out; omega
        have qc5 : Hid (l.length + n1 ≤ maxLen) := by show l.length + n1 ≤ maxLen; have hle := HLE.out; rw [hle]; have := HN1.out; have := HQ.out.1; have := HQ.out.2.1; unfold maxLen; simp; omega
        have qc6 : Hid ((l.length + n1) * 8 ≤ 140737488355328) := by show (l.length + n1) * 8 ≤ 140737488355328; have hle := HLE.out; rw [hle]; have := HN1.out; have := HQ.out.1; have := HQ.out.2.1; simp; omega
        go_wp2_with (at_builtin; refine wpList_append_lies _ rfl _ _ 27 rfl (w.heap.size + 1) 3 i0 (.int .i64 0) 1 8 Tryd.underlying27 hi hz0 hz1 hz2 rfl (by decide) _ _ _ rfl hown ⟨g1, o1, none⟩ n1 c1 (d1.map (Value.int .i64)) rfl qc1.out hlc.out (ints_one d1) qc4 qc5.out qc6.out hsz _ rfl ?_)
        intro gn capn w5 hown5 hgrow5 hat5 hlt5
        have E : l.length + n1 = ((m :: (d0 ++ d1))).length := by have hle := HLE.out; rw [hle]; have h1 := HN1.out; have h2 := HQ.out.1; have h3 := HQ.out.2.1; have h4 := HQ.out.2.2; simp; omega
        have ho : w5.ownsRow (w.heap.size + 1) 3 1 (.slice (some ⟨gn, 0, none⟩) ((m :: (d0 ++ d1))).length capn) ((m :: (d0 ++ d1))).length (((m :: (d0 ++ d1))).map (Value.int .i64)) := by
          have h := hown5
          rw [E, HLE.out, ← List.map_append] at h
          simpa using h
        have hgl : w.heap.size + 1 ≤ gl := by
          rcases hown.2 with ⟨h0, _⟩ | ⟨g2, cap2, cur, e, hB, hh, _⟩
          · cases h0
          · injection e with e _ _
            injection e with e
            injection e with e
            omega
        have HX : Hid (Below w.heap.size w w5 ∧ w.heap.size + 1 ≤ w5.heap.size ∧ Blk w5 w.heap.size 61 (rc W m (.slice (some ⟨g0, o0, none⟩) n0 c0) (.slice (some ⟨g1, o1, none⟩) n1 c1) (.slice (some ⟨g2, o2, none⟩) n2 c2) b f ws rs k ak fr (.slice Ai ni ci) (.slice Ao no co))) := ⟨HBo.out.grown hgrow5 (by omega) (by intro k' hk'; simp [Value.ownBlock] at hk'; omega), by have := hgrow5.size; omega, (hgrow5.block _ HBl.out.lt (by simp [Value.ownBlock]; omega)).trans HBl.out⟩
        have HO := Lib.hid ho
        have HE := Lib.hid E
        clear ho E hown hown5 hgrow5 hat5 k0 hlc
        go_wp2
        go_roundw
        case rel => exact ⟨2, by go_num, by omega, HX.out.1, HX.out.2.1, HX.out.2.2, gn, capn, (m :: (d0 ++ d1)), by rw [HE.out], by rw [HE.out]; exact HO.out, rfl⟩
        case measure => simp [intOf]
      · -- 2
        obtain ⟨gl, cap, l, rfl, hown, hle⟩ := hl
        have HLE : Hid (l = (m :: (d0 ++ d1))) := hle
        clear hle
        have hlc : Hid (∀ jj u, (d2.map (Value.int .i64))[jj]? = some u → wr.cell? ((⟨g2, o2, none⟩ : Addr).add jj) = some u) := by
          intro jj u hj
          have hjl : jj < d2.length := by simpa using (List.getElem?_eq_some_iff.1 hj).1
          rw [Addr.add_lit, hB.cell (p := ⟨g2, o2 + jj, none⟩) HG2.out, HC2.out jj hjl, ← hj]
          simp [nth, hjl]
        have HBl := Lib.hid hbx
        have k0 := hbx.cell
        clear hbx
        have HBo := Lib.hid hB
        clear hB
        have qc1 : Hid ((d2.map (Value.int .i64)).length = n2 * 1) := by show (d2.map (Value.int .i64)).length = n2 * 1; rw [List.length_map, Nat.mul_one]; exact (HQ.out.2.2).trans HN2.out.symm
        have qc4 : 0 < n2 := by have := HN2.out; omega
        have qc5 : Hid (l.length + n2 ≤ maxLen) := by show l.length + n2 ≤ maxLen; have hle := HLE.out; rw [hle]; have := HN2.out; have := HQ.out.1; have := HQ.out.2.1; unfold maxLen; simp; omega
        have qc6 : Hid ((l.length + n2) * 8 ≤ 140737488355328) := by show (l.length + n2) * 8 ≤ 140737488355328; have hle := HLE.out; rw [hle]; have := HN2.out; have := HQ.out.1; have := HQ.out.2.1; simp; omega
        go_wp2_with (at_builtin; refine wpList_append_lies _ rfl _ _ 27 rfl (w.heap.size + 1) 3 i0 (.int .i64 0) 1 8 Tryd.underlying27 hi hz0 hz1 hz2 rfl (by decide) _ _ _ rfl hown ⟨g2, o2, none⟩ n2 c2 (d2.map (Value.int .i64)) rfl qc1.out hlc.out (ints_one d2) qc4 qc5.out qc6.out hsz _ rfl ?_)
        intro gn capn w5 hown5 hgrow5 hat5 hlt5
        have E : l.length + n2 = ((m :: (d0 ++ (d1 ++ d2)))).length := by have hle := HLE.out; rw [hle]; have h1 := HN2.out; have h2 := HQ.out.1; have h3 := HQ.out.2.1; have h4 := HQ.out.2.2; simp; omega
        have ho : w5.ownsRow (w.heap.size + 1) 3 1 (.slice (some ⟨gn, 0, none⟩) ((m :: (d0 ++ (d1 ++ d2)))).length capn) ((m :: (d0 ++ (d1 ++ d2)))).length (((m :: (d0 ++ (d1 ++ d2)))).map (Value.int .i64)) := by
          have h := hown5
          rw [E, HLE.out, ← List.map_append] at h
          simpa using h
        have hgl : w.heap.size + 1 ≤ gl := by
          rcases hown.2 with ⟨h0, _⟩ | ⟨g2, cap2, cur, e, hB, hh, _⟩
          · cases h0
          · injection e with e _ _
            injection e with e
            injection e with e
            omega
        have HX : Hid (Below w.heap.size w w5 ∧ w.heap.size + 1 ≤ w5.heap.size ∧ Blk w5 w.heap.size 61 (rc W m (.slice (some ⟨g0, o0, none⟩) n0 c0) (.slice (some ⟨g1, o1, none⟩) n1 c1) (.slice (some ⟨g2, o2, none⟩) n2 c2) b f ws rs k ak fr (.slice Ai ni ci) (.slice Ao no co))) := ⟨HBo.out.grown hgrow5 (by omega) (by intro k' hk'; simp [Value.ownBlock] at hk'; omega), by have := hgrow5.size; omega, (hgrow5.block _ HBl.out.lt (by simp [Value.ownBlock]; omega)).trans HBl.out⟩
        have HO := Lib.hid ho
        have HE := Lib.hid E
        clear ho E hown hown5 hgrow5 hat5 k0 hlc
        go_wp2
        go_roundw
        case rel => exact ⟨3, by go_num, by omega, HX.out.1, HX.out.2.1, HX.out.2.2, gn, capn, (m :: (d0 ++ (d1 ++ d2))), by rw [HE.out], by rw [HE.out]; exact HO.out, rfl⟩
        case measure => simp [intOf]
    · obtain rfl : k = 3 := by omega
      obtain ⟨gl, cap, l, rfl, hown, hle⟩ := hl
      have hle : l = m :: (d0 ++ (d1 ++ d2)) := hle
      subst hle
      have HO := Lib.hid hown
      have HB := Lib.hid hB
      clear hown hB hbx
      go_wp2
      go_ret
      refine ⟨some ⟨gl, 0, none⟩, cap, rfl, fun N hN => ?_, HB.out⟩
      have hgl : w.heap.size + 1 ≤ gl := by
        rcases HO.out.2 with ⟨h0, _⟩ | ⟨g2, cap2, cur, e, hB, hh, _⟩
        · cases h0
        · injection e with e _ _
          injection e with e
          injection e with e
          omega
      exact LF.mono (N := fun x => x = gl) (LF.of_own_at HO.out rfl) (fun x _ hx => by rw [hx]; exact hN gl (by omega))
end Go.Proofs.YtppmfmgmlicefabDoor.T3
