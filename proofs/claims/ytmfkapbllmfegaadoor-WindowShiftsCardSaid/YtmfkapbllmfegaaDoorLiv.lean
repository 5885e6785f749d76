/- Check, May, few, and the first check of every statement of stage 4 ('lives'): contracts. Condition: the library's variable errors.errorType holds what the program's text lays. -/
import Derived.Test.YtmfkapbllmfegaaDoorAs
namespace Go.Proofs.YtmfkapbllmfegaaDoor.C04
open Go.RowKit Go.Proofs.YtmfkapbllmfegaaDoor.G

theorem asW_below (p n : Int) (g : Nat) (w : World) : Below w.heap.size w (asW p n g w) := by
  unfold asW; exact ba1 (ba1 (ba1 (b01 _ _) _) _) _
theorem asW_blk {p n : Int} {g g' : Nat} {w : World} {t : TypeId} {cs : Array Value} (h : Blk w g' t cs) : Blk (asW p n g w) g' t cs := h.bel (asW_below _ _ _ _)
set_option maxHeartbeats 1000000 in
theorem check_any {w : World} {v : Value} {c : Cfg} (h : CfgAt w v c) (hg : Et w) : Calls Tryd.prog 48 #[v] w (ChkPost (flt c) w) := by
  have h0 := h
  obtain ⟨A1, A2, A3, c1, c2, c3, rfl, h1, h2, h3, _⟩ := h
  clear h1 h2 h3
  have hb0 : Below w.heap.size w (((w.alloc (.cells #[.int .i64 c.P, .int .i64 c.F, .slice A1 c.ws.length c1, .slice A2 c.cs.length c2, .slice A3 c.ac.length c3] 26)).alloc (.cells #[.int .i64 0, .int .i64 0] 53)).alloc (.cells #[.int .i64 0, .int .i64 0] 61)) := ba1 (ba1 (b01 _ _) _) _
  have HC := Lib.hid (h0.below hb0)
  have HG := Lib.hid (hg.below hb0)
  have B1 := (Blk.new_at (w := w.alloc (.cells #[.int .i64 c.P, .int .i64 c.F, .slice A1 c.ws.length c1, .slice A2 c.cs.length c2, .slice A3 c.ac.length c3] 26)) (n := w.heap.size + 1) (by simp) 53 #[.int .i64 0, .int .i64 0]).alloc (.cells #[.int .i64 0, .int .i64 0] 61)
  have B2 := Blk.new_at (w := (w.alloc (.cells #[.int .i64 c.P, .int .i64 c.F, .slice A1 c.ws.length c1, .slice A2 c.cs.length c2, .slice A3 c.ac.length c3] 26)).alloc (.cells #[.int .i64 0, .int .i64 0] 53)) (n := w.heap.size + 1 + 1) (by simp) 61 #[.int .i64 0, .int .i64 0]
  clear h0 hg
  obtain ⟨f, hf⟩ : ∃ f, flt c = f := ⟨_, rfl⟩
  have HF := Lib.hid hf; clear hf
  go_enter Tryd.func48, Tryd.ntmps48
  go_wp2_with fail
  refine (first_any HC.out).mono ?_
  rintro e w1 ⟨rfl, hb⟩
  rw [HF.out]
  have HB := bt hb0 hb
  have B1 := B1.bel hb
  have B2 := B2.bel hb
  cases f with
  | none =>
    unfold errV
    have q1 := B1.cell
    have f1 := B1.frozen
    go_wp2_with (go_at_call 52; refine (as_nil _ _).mono ?_; rintro e w' ⟨rfl, rfl⟩)
    refine bodyPost_ret (v := .tuple #[.agg #[.int .i64 0, .int .i64 0], .int .i64 0]) (by simp [results, Tryd.results48, go_sem, *]) rfl ⟨?_, ?_⟩
    · rw [HF.out]; rfl
    · exact (HB.setCell (by simp) _).setCell (by simp) _
  | some x =>
    obtain ⟨p, n⟩ := x
    unfold errV
    have hg1 := HG.out.below hb
    go_wp2_with fail
    refine (as_any p n (w.heap.size + 1 + 1) w1 hg1 B2).mono ?_
    rintro e w2 ⟨rfl, hw⟩
    have B2' : Blk w2 (w.heap.size + 1 + 1) 61 #[.int .i64 p, .int .i64 n] := by
      rw [hw]; simpa using ((asW_blk (p := p) (n := n) (g := w.heap.size + 1 + 1) B2).set_ 0 (.int .i64 p)).set_ 1 (.int .i64 n)
    have B1' : Blk w2 (w.heap.size + 1) 53 #[.int .i64 0, .int .i64 0] := by
      rw [hw]; exact ((asW_blk B1).far (p := ⟨w.heap.size + 1 + 1, 0, none⟩) (by simp) _).far (p := ⟨w.heap.size + 1 + 1, 1, none⟩) (by simp) _
    have HB2 : Below w.heap.size w w2 := by
      rw [hw]; exact ((bt HB (asW_below _ _ _ _)).setCell (by simp; omega) _).setCell (by simp; omega) _
    clear hw
    have q1 := B1'.cell
    have f1 := B1'.frozen
    have q2 := B2'.cell
    go_wp2
    refine bodyPost_ret (v := .tuple #[.agg #[.int .i64 p, .int .i64 n], .int .i64 4]) (by simp [results, Tryd.results48, go_sem, *]) rfl ⟨?_, ?_⟩
    · rw [HF.out]; rfl
    · exact (HB2.setCell (by simp) _).setCell (by simp) _

theorem rmay_any {w : World} {v : Value} {c : Cfg} (h : CfgAt w v c) : Calls Tryd.prog 36 #[v] w (BoolPost (flt c).isNone w) := by
  have h0 := h
  obtain ⟨A1, A2, A3, c1, c2, c3, rfl, h1, h2, h3, _⟩ := h
  clear h1 h2 h3
  have hb0 := b01 w (.cells #[.int .i64 c.P, .int .i64 c.F, .slice A1 c.ws.length c1, .slice A2 c.cs.length c2, .slice A3 c.ac.length c3] 26)
  have HC := Lib.hid (h0.below hb0)
  clear h0
  obtain ⟨f, hf⟩ : ∃ f, flt c = f := ⟨_, rfl⟩
  have HF := Lib.hid hf; clear hf
  go_enter Tryd.func36, Tryd.ntmps36
  go_wp2_with fail
  refine (rcheck_any HC.out).mono ?_
  rintro e w1 ⟨rfl, hb⟩
  rw [HF.out]
  have HB := bt hb0 hb
  cases f with
  | none =>
    unfold chkV
    go_wp2
    go_ret
    exact ⟨by rw [HF.out]; rfl, ba1 HB _⟩
  | some x =>
    obtain ⟨p, n⟩ := x
    unfold chkV
    go_wp2
    go_ret
    exact ⟨by rw [HF.out]; rfl, ba1 HB _⟩
end Go.Proofs.YtmfkapbllmfegaaDoor.C04
