/- The first check of every statement of stage 4 ('lives'), and 'few': contracts. Condition of 'lives': the library's variable errors.errorType holds what the program's text lays. -/
import Derived.Test.YtkhcmgnocbddmaaDoorLiv
import Derived.Test.YtkhcmgnocbddmaaDoorSam
namespace Go.Proofs.YtkhcmgnocbddmaaDoor.C04
open Go.RowKit Go.Proofs.YtkhcmgnocbddmaaDoor.G

def ex0 : Cfg := ⟨1, 4, [⟨0, 0, 4⟩], [], [0]⟩
def ex1 : Cfg := ⟨1, 4, [⟨0, 0, 4⟩], [], [3]⟩
theorem flt_ex0 : flt ex0 = none := by decide
theorem flt_ex1 : flt ex1 = some (5, 0) := by decide
theorem ex_at {w : World} {b g : Nat} {n : Int} {c : Cfg} (hc : c = ⟨1, 4, [⟨0, 0, 4⟩], [], [n]⟩) (h1 : Blk w b 54 #[.int .i64 0, .int .i64 0, .int .i64 4]) (h2 : Blk w g 3 #[.int .i64 n]) :
    CfgAt w (.agg #[.int .i64 1, .int .i64 4, .slice (some ⟨b, 0, none⟩) 1 1, .slice none 0 0, .slice (some ⟨g, 0, none⟩) 1 1]) c := by
  subst hc
  refine ⟨some ⟨b, 0, none⟩, none, some ⟨g, 0, none⟩, 1, 0, 1, rfl, Row.of_blk h1 (fun j u hj => ?_), Row.none_, Row.of_blk h2 (fun j u hj => ?_), by simp, by omega, by simp, by omega, by simp, by omega, ?_⟩
  · rw [← hj]; simp [wvs, Win.cells]
  · rw [← hj]; simp [ivs, iv]
  · intro k x hx
    rcases k with _ | k
    · simp at hx; subst hx; decide
    · simp at hx
set_option maxHeartbeats 2000000 in
theorem lives_any {w : World} (hg : Et w) : Calls Tryd.prog 29 #[] w fun e w' => e = .returned (.bool true) ∧ Below w.heap.size w w' := by
  have hb0 : Below w.heap.size w (((w.alloc (.cells #[.int .i64 0, .int .i64 0, .int .i64 4] 54)).alloc (.cells #[.int .i64 0] 3)).alloc (.cells #[.int .i64 1, .int .i64 4, .slice (some ⟨w.heap.size, 0, none⟩) 1 1, .slice none 0 0, .slice (some ⟨w.heap.size + 1, 0, none⟩) 1 1] 50)) := ba1 (ba1 (b01 _ _) _) _
  have B0 := ((Blk.new w 54 #[.int .i64 0, .int .i64 0, .int .i64 4]).alloc (.cells #[.int .i64 0] 3)).alloc (.cells #[.int .i64 1, .int .i64 4, .slice (some ⟨w.heap.size, 0, none⟩) 1 1, .slice none 0 0, .slice (some ⟨w.heap.size + 1, 0, none⟩) 1 1] 50)
  have B1 := (Blk.new_at (w := w.alloc (.cells #[.int .i64 0, .int .i64 0, .int .i64 4] 54)) (n := w.heap.size + 1) (by simp) 3 #[.int .i64 0]).alloc (.cells #[.int .i64 1, .int .i64 4, .slice (some ⟨w.heap.size, 0, none⟩) 1 1, .slice none 0 0, .slice (some ⟨w.heap.size + 1, 0, none⟩) 1 1] 50)
  have B2 := Blk.new_at (w := (w.alloc (.cells #[.int .i64 0, .int .i64 0, .int .i64 4] 54)).alloc (.cells #[.int .i64 0] 3)) (n := w.heap.size + 1 + 1) (by simp) 50 #[.int .i64 1, .int .i64 4, .slice (some ⟨w.heap.size, 0, none⟩) 1 1, .slice none 0 0, .slice (some ⟨w.heap.size + 1, 0, none⟩) 1 1]
  have HC := Lib.hid (ex_at (c := ex0) (n := 0) rfl B0 B1)
  have HG := Lib.hid (hg.below hb0)
  clear hg
  go_enter Tryd.func29, Tryd.ntmps29
  go_wp2_with fail
  refine (check_any HC.out HG.out).mono ?_
  rintro e w1 ⟨rfl, hb⟩
  rw [flt_ex0]
  unfold chkV
  have HB := bt hb0 hb
  have hg1 := Lib.hid (HG.out.below hb)
  have hB1 : w.heap.size + 1 < w1.heap.size := Nat.lt_of_lt_of_le (by simp) hb.size
  have hB2 : w.heap.size + 1 + 1 < w1.heap.size := Nat.lt_of_lt_of_le (by simp) hb.size
  have B0 := B0.bel hb
  have B1 := B1.bel hb
  have B2 := B2.bel hb
  have q1 := B1.cell
  have q2 := B2.cell
  have f1 := B1.frozen
  have C0 := (B0.far (p := ⟨w.heap.size + 1, 0, none⟩) (by simp) (.int .i64 3)).alloc (.cells #[.int .i64 0, .int .i64 0] 109)
  have C1 : Blk ((w1.setCell ⟨w.heap.size + 1, 0, none⟩ (.int .i64 3)).alloc (.cells #[.int .i64 0, .int .i64 0] 109)) (w.heap.size + 1) 3 #[.int .i64 3] := by
    have := (B1.set_ 0 (.int .i64 3)).alloc (.cells #[.int .i64 0, .int .i64 0] 109)
    simpa using this
  have C2 := (B2.far (p := ⟨w.heap.size + 1, 0, none⟩) (by simp) (.int .i64 3)).alloc (.cells #[.int .i64 0, .int .i64 0] 109)
  have HB1 : Below w.heap.size w ((w1.setCell ⟨w.heap.size + 1, 0, none⟩ (.int .i64 3)).alloc (.cells #[.int .i64 0, .int .i64 0] 109)) := ba1 (HB.setCell (by simp) _) _
  have HC1 := Lib.hid (ex_at (c := ex1) (n := 3) rfl C0 C1)
  have hg2 : Et ((w1.setCell ⟨w.heap.size + 1, 0, none⟩ (.int .i64 3)).alloc (.cells #[.int .i64 0, .int .i64 0] 109)) := by
    have := hg1.out
    refine Et.alloc ?_ _
    unfold Et at this ⊢
    rw [World.cell?_setCell_other _ _ _ _ (by simp)]
    exact this
  have HG2 := Lib.hid hg2
  clear hg2 hg1
  go_wp2_with fail
  refine (check_any HC1.out HG2.out).mono ?_
  rintro e w2 ⟨rfl, hb2⟩
  rw [flt_ex1]
  unfold chkV
  have q3 := (C2.bel hb2).cell
  have hb3 : Below ((w1.setCell ⟨w.heap.size + 1, 0, none⟩ (.int .i64 3)).alloc (.cells #[.int .i64 0, .int .i64 0] 109)).heap.size ((w1.setCell ⟨w.heap.size + 1, 0, none⟩ (.int .i64 3)).alloc (.cells #[.int .i64 0, .int .i64 0] 109)) (w2.alloc (.cells #[.int .i64 5, .int .i64 0] 109)) := ba1 hb2 _
  have HC3 := Lib.hid (HC1.out.below hb3)
  have HB3 := bt HB1 hb3
  have hsz := (C2.bel hb2).lt
  clear q1 q2 f1 hb2 hb3
  go_wp2_with (go_at_call 32; refine (same_any HC3.out HC3.out).mono ?_; rintro e w3 ⟨rfl, hb4⟩; rw [sam_self]; have HB4 := bt HB3 hb4)
  go_ret
  exact ⟨rfl, HB4⟩

/-! ### few -/
def fw (c : Cfg) : Cfg := ⟨c.P, c.F, c.ws.take 10, c.cs.take 10, c.ac.take 10⟩
def CfgPost (c : Cfg) (w : World) (e : Ending) (w' : World) : Prop := ∃ v, e = .returned v ∧ CfgAt w' v c ∧ Below w.heap.size w w'
end Go.Proofs.YtkhcmgnocbddmaaDoor.C04
