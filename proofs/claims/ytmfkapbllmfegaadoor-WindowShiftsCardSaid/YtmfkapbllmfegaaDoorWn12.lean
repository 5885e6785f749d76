/- The first check of every statement of stage 13. Condition: the library's variable errors.errorType holds what the program's text lays. -/
import Derived.Test.YtmfkapbllmfegaaDoorWn11
namespace Go.Proofs.YtmfkapbllmfegaaDoor.W13
open Go.RowKit Go.Proofs.YtmfkapbllmfegaaDoor.G Go.Proofs.YtmfkapbllmfegaaDoor.C04 Go.Proofs.YtmfkapbllmfegaaDoor.Sat
set_option maxRecDepth 100000
def exW : Cfg := ⟨1, 10, [⟨0, 0, 3⟩, ⟨-1, 8, 2⟩], [], [0]⟩
theorem ex1 : whoV exW 18 = some (-1) := by decide +kernel
theorem ex2 : whoV exW 5 = none := by decide +kernel
theorem ex3 : befV exW (-1) 18 = 2 := by decide +kernel
theorem ex4 : nthV exW (-1) 2 = 18 := by decide +kernel
theorem ex5 : untV exW 0 4 = 10 := by decide +kernel
def exV (b g : Nat) : Value := .agg #[.int .i64 1, .int .i64 10, .slice (some ⟨b, 0, none⟩) 2 2, .slice none 0 0, .slice (some ⟨g, 0, none⟩) 1 1]
def PnPost (w : World) (e : Ending) (w' : World) : Prop := ∃ b g, e = .returned (.agg #[.int .i64 1, .int .i64 10, .slice (some ⟨b, 0, none⟩) 2 2, .slice none 0 0, .slice (some ⟨g, 0, none⟩) 1 1]) ∧ CfgAt w' (.agg #[.int .i64 1, .int .i64 10, .slice (some ⟨b, 0, none⟩) 2 2, .slice none 0 0, .slice (some ⟨g, 0, none⟩) 1 1]) exW ∧ Below w.heap.size w w'
theorem exw_at {w : World} {b g : Nat} (h1 : Blk w b 41 #[.int .i64 0, .int .i64 0, .int .i64 3, .int .i64 (-1), .int .i64 8, .int .i64 2]) (h2 : Blk w g 3 #[.int .i64 0]) :
    CfgAt w (.agg #[.int .i64 1, .int .i64 10, .slice (some ⟨b, 0, none⟩) 2 2, .slice none 0 0, .slice (some ⟨g, 0, none⟩) 1 1]) exW := by
  refine ⟨some ⟨b, 0, none⟩, none, some ⟨g, 0, none⟩, 2, 0, 1, rfl, Row.of_blk h1 (fun j u hj => ?_), Row.none_, Row.of_blk h2 (fun j u hj => ?_), by simp [exW], by omega, by simp [exW], by omega, by simp [exW], by omega, ?_⟩
  · rw [← hj]; simp [wvs, Win.cells, exW]
  · rw [← hj]; simp [ivs, iv, exW]
  · intro k x hx
    rcases k with _ | _ | k
    · simp [exW] at hx; subst hx; decide
    · simp [exW] at hx; subst hx; decide
    · simp [exW] at hx
set_option maxHeartbeats 2000000 in
theorem plain_any (w : World) : Calls Tryd.prog 20 #[] w (PnPost w) := by
  go_enter Tryd.func20, Tryd.ntmps20
  go_wp2
  have B1 := (Blk.new_at (w := w.alloc (.cells #[.int .i64 1, .int .i64 10, .slice (some ⟨w.heap.size + 1, 0, none⟩) 2 2, .slice none 0 0, .slice (some ⟨w.heap.size + 1 + 1, 0, none⟩) 1 1] 26)) (n := w.heap.size + 1) (by simp) 41 #[.int .i64 0, .int .i64 0, .int .i64 3, .int .i64 (-1), .int .i64 8, .int .i64 2]).alloc (.cells #[.int .i64 0] 3)
  have B2 := Blk.new_at (w := (w.alloc (.cells #[.int .i64 1, .int .i64 10, .slice (some ⟨w.heap.size + 1, 0, none⟩) 2 2, .slice none 0 0, .slice (some ⟨w.heap.size + 1 + 1, 0, none⟩) 1 1] 26)).alloc (.cells #[.int .i64 0, .int .i64 0, .int .i64 3, .int .i64 (-1), .int .i64 8, .int .i64 2] 41)) (n := w.heap.size + 1 + 1) (by simp) 3 #[.int .i64 0]
  exact bodyPost_ret (v := .agg #[.int .i64 1, .int .i64 10, .slice (some ⟨w.heap.size + 1, 0, none⟩) 2 2, .slice none 0 0, .slice (some ⟨w.heap.size + 1 + 1, 0, none⟩) 1 1]) (by simp [results, Tryd.results20, go_sem]) rfl ⟨_, _, rfl, exw_at B1 B2, ba1 (ba1 (b01 _ _) _) _⟩
set_option maxHeartbeats 2000000 in
theorem lives_any {w : World} (hg : Et w) : Calls Tryd.prog 10 #[] w fun e w' => e = .returned (.bool true) ∧ Below w.heap.size w w' := by
  have CP := Lib.hid plain_any
  have C1 : Hid (∀ V b g, Below w.heap.size w V → CfgAt V (.agg #[.int .i64 1, .int .i64 10, .slice (some ⟨b, 0, none⟩) 2 2, .slice none 0 0, .slice (some ⟨g, 0, none⟩) 1 1]) exW → Calls Tryd.prog 15 #[.agg #[.int .i64 1, .int .i64 10, .slice (some ⟨b, 0, none⟩) 2 2, .slice none 0 0, .slice (some ⟨g, 0, none⟩) 1 1], .int .i64 18] V fun e w' => e = .returned (.tuple #[.int .i64 (-1), .bool true]) ∧ Below V.heap.size V w') := fun V b g hV hC => by
    have := whose_any (hg.below hV) hC 18
    rw [ex1] at this
    exact this
  have C2 : Hid (∀ V b g, Below w.heap.size w V → CfgAt V (.agg #[.int .i64 1, .int .i64 10, .slice (some ⟨b, 0, none⟩) 2 2, .slice none 0 0, .slice (some ⟨g, 0, none⟩) 1 1]) exW → Calls Tryd.prog 15 #[.agg #[.int .i64 1, .int .i64 10, .slice (some ⟨b, 0, none⟩) 2 2, .slice none 0 0, .slice (some ⟨g, 0, none⟩) 1 1], .int .i64 5] V fun e w' => e = .returned (.tuple #[.int .i64 0, .bool false]) ∧ Below V.heap.size V w') := fun V b g hV hC => by
    have := whose_any (hg.below hV) hC 5
    rw [ex2] at this
    exact this
  have C3 : Hid (∀ V b g, Below w.heap.size w V → CfgAt V (.agg #[.int .i64 1, .int .i64 10, .slice (some ⟨b, 0, none⟩) 2 2, .slice none 0 0, .slice (some ⟨g, 0, none⟩) 1 1]) exW → Calls Tryd.prog 14 #[.agg #[.int .i64 1, .int .i64 10, .slice (some ⟨b, 0, none⟩) 2 2, .slice none 0 0, .slice (some ⟨g, 0, none⟩) 1 1], .int .i64 (-1), .int .i64 18] V fun e w' => e = .returned (.int .i64 2) ∧ Below V.heap.size V w') := fun V b g hV hC => by
    have := before_any (hg.below hV) hC (-1) 18
    rw [ex3] at this
    exact this
  have C4 : Hid (∀ V b g, Below w.heap.size w V → CfgAt V (.agg #[.int .i64 1, .int .i64 10, .slice (some ⟨b, 0, none⟩) 2 2, .slice none 0 0, .slice (some ⟨g, 0, none⟩) 1 1]) exW → Calls Tryd.prog 16 #[.agg #[.int .i64 1, .int .i64 10, .slice (some ⟨b, 0, none⟩) 2 2, .slice none 0 0, .slice (some ⟨g, 0, none⟩) 1 1], .int .i64 (-1), .int .i64 2] V fun e w' => e = .returned (.int .i64 18) ∧ Below V.heap.size V w') := fun V b g hV hC => by
    have := nth_any (hg.below hV) hC (-1) 2
    rw [ex4] at this
    exact this
  have C5 : Hid (∀ V b g, Below w.heap.size w V → CfgAt V (.agg #[.int .i64 1, .int .i64 10, .slice (some ⟨b, 0, none⟩) 2 2, .slice none 0 0, .slice (some ⟨g, 0, none⟩) 1 1]) exW → Calls Tryd.prog 17 #[.agg #[.int .i64 1, .int .i64 10, .slice (some ⟨b, 0, none⟩) 2 2, .slice none 0 0, .slice (some ⟨g, 0, none⟩) 1 1], .int .i64 0, .int .i64 4] V fun e w' => e = .returned (.int .i64 10) ∧ Below V.heap.size V w') := fun V b g hV hC => by
    have := until_any (hg.below hV) hC 0 4
    rw [ex5] at this
    exact this
  have S0 : Below w.heap.size w w := Below.refl _ _
  clear hg
  go_enter Tryd.func10, Tryd.ntmps10
  go_wp2_with (first
    | (go_at_call 20; refine (CP.out _).mono ?_; rintro e V ⟨b, g, rfl, hC, hbv⟩; have S0 := bt S0 hbv; have HC := Lib.hid hC; clear hC hbv)
    | (go_at_call 15; first
        | ((with_reducible refine (C1.out _ _ _ S0 HC.out).mono ?_); rintro e V ⟨rfl, hbv⟩; have S0 := bt S0 hbv; clear hbv HC)
        | ((with_reducible refine (C2.out _ _ _ S0 HC.out).mono ?_); rintro e V ⟨rfl, hbv⟩; have S0 := bt S0 hbv; clear hbv HC))
    | (go_at_call 14; (with_reducible refine (C3.out _ _ _ S0 HC.out).mono ?_); rintro e V ⟨rfl, hbv⟩; have S0 := bt S0 hbv; clear hbv HC)
    | (go_at_call 16; (with_reducible refine (C4.out _ _ _ S0 HC.out).mono ?_); rintro e V ⟨rfl, hbv⟩; have S0 := bt S0 hbv; clear hbv HC)
    | (go_at_call 17; (with_reducible refine (C5.out _ _ _ S0 HC.out).mono ?_); rintro e V ⟨rfl, hbv⟩; have S0 := bt S0 hbv; clear hbv HC))
  go_ret
  exact ⟨rfl, S0⟩
end Go.Proofs.YtmfkapbllmfegaaDoor.W13
