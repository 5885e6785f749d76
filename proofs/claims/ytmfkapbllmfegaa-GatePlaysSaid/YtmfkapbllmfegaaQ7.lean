/- Sorting messages by a number: the comparison that is handed on: a contract. -/
import Derived.Test.YtmfkapbllmfegaaQ6
import Derived.Shelf.SlSortCmp.QuietGrown
import Derived.BigRegion
namespace Go.Proofs.Ytmfkapbllmfegaa.L10
open Go.RowKit Go.Proofs.Ytmfkapbllmfegaa.G Go.Sort
set_option maxRecDepth 100000
variable {w w' : World}

theorem below_grow (w : World) (n : Nat) (os : Array Obj) : Below w.heap.size w (grow (w.drewN n) os) :=
  ⟨rfl, rfl, rfl, by simp, fun k hk => heap_grow_old _ os hk⟩
theorem blk_gcell {g : Nat} {t : TypeId} {cs : Array Value} {v : Value} (h : Blk w g t cs) (n : Nat) (os : Array Obj) (i : Nat) (hv : cs[i]? = some v) : (grow (w.drewN n) os).cell? ⟨g, i, none⟩ = some v :=
  cell_grown h.lt (by rw [h.cell]; exact hv) n os
def cmpI (a b : Int) : Int := if a < b then -1 else if b < a then 1 else 0
theorem cmpI_lt (a b : Int) : decide (cmpI a b < 0) = decide (a < b) := by
  unfold cmpI
  by_cases h1 : a < b
  · simp [h1]
  · by_cases h2 : b < a <;> simp [h1, h2]
theorem isNaN_any (a : Int) (w : World) : Calls Try.prog 80 #[.int .i64 a] w fun e w' => e = .returned (.bool false) ∧ w = w' := by
  have h : (a != a) = false := by simp
  go_enter Try.func80, Try.ntmps80
  go_wp2_with fail
  go_ret
  exact ⟨rfl, rfl⟩
theorem cmp_any (a b : Int) (w : World) : Calls Try.prog 78 #[.int .i64 a, .int .i64 b] w fun e w' => e = .returned (.int .i64 (cmpI a b)) ∧ w = w' := by
  unfold cmpI
  by_cases h1 : a < b
  · rw [if_pos h1]
    go_enter Try.func78, Try.ntmps78
    go_wp2_with (go_at_call 80; refine (isNaN_any _ _).mono ?_; rintro e w' ⟨rfl, rfl⟩)
    go_ret
    exact ⟨rfl, rfl⟩
  · rw [if_neg h1]
    by_cases h2 : b < a
    · rw [if_pos h2]
      go_enter Try.func78, Try.ntmps78
      go_wp2_with (go_at_call 80; refine (isNaN_any _ _).mono ?_; rintro e w' ⟨rfl, rfl⟩)
      go_ret
      exact ⟨rfl, rfl⟩
    · rw [if_neg h2]
      go_enter Try.func78, Try.ntmps78
      go_wp2_with (go_at_call 80; refine (isNaN_any _ _).mono ?_; rintro e w' ⟨rfl, rfl⟩)
      go_ret
      exact ⟨rfl, rfl⟩
/-- .. reads, and makes new memory alone. -/
def Gw (w w' : World) : Prop := ∃ q os, w' = grow (w.drewN q) os
theorem laneOf_gw (m : MV) (w : World) : Calls Try.prog 73 #[m.val] w fun e w' => e = .returned (.int .i64 m.ln) ∧ Gw w w' := by
  unfold MV.val
  go_enter Try.func73, Try.ntmps73
  go_wp2_with fail
  go_ret
  exact ⟨rfl, 0, _, alloc_eq_grow _ _⟩
theorem cmp_gw (a b : Int) (w : World) : Calls Try.prog 78 #[.int .i64 a, .int .i64 b] w fun e w' => e = .returned (.int .i64 (cmpI a b)) ∧ Gw w w' :=
  (cmp_any a b w).mono fun _ _ ⟨he, hw⟩ => ⟨he, 0, #[], by subst hw; rw [grow_empty]; rfl⟩
set_option maxHeartbeats 2000000 in
theorem by_any (x y : MV) {q : Nat} (hq : Blk w q 108 #[.func (.func 73) #[] #[]]) : Calls Try.prog 77 #[x.val, y.val, .pointer (some ⟨q, 0, none⟩)] w fun e w' => e = .returned (.int .i64 (cmpI x.ln y.ln)) ∧ Gw w w' := by
  have mixed : Try.prog.follows .mixedOrders = true := by kernel_rfl
  have L1 := fun W => laneOf_gw x W
  have L2 := fun W => laneOf_gw y W
  unfold MV.val at L1 L2 ⊢
  obtain ⟨W2, hW2⟩ : ∃ W2, (w.alloc (.cells #[.slice x.a x.ws.length x.c, .int .i64 x.ln, .int .i64 x.st, .int .i64 x.lt, .int .i64 x.sq] 43)).alloc (.cells #[.slice y.a y.ws.length y.c, .int .i64 y.ln, .int .i64 y.st, .int .i64 y.lt, .int .i64 y.sq] 43) = W2 := ⟨_, rfl⟩
  have B0 := (hq.alloc (.cells #[.slice x.a x.ws.length x.c, .int .i64 x.ln, .int .i64 x.st, .int .i64 x.lt, .int .i64 x.sq] 43)).alloc (.cells #[.slice y.a y.ws.length y.c, .int .i64 y.ln, .int .i64 y.st, .int .i64 y.lt, .int .i64 y.sq] 43)
  have B1 := (Blk.new w 43 #[.slice x.a x.ws.length x.c, .int .i64 x.ln, .int .i64 x.st, .int .i64 x.lt, .int .i64 x.sq]).alloc (.cells #[.slice y.a y.ws.length y.c, .int .i64 y.ln, .int .i64 y.st, .int .i64 y.lt, .int .i64 y.sq] 43)
  have B2 := Blk.new (w.alloc (.cells #[.slice x.a x.ws.length x.c, .int .i64 x.ln, .int .i64 x.st, .int .i64 x.lt, .int .i64 x.sq] 43)) 43 #[.slice y.a y.ws.length y.c, .int .i64 y.ln, .int .i64 y.st, .int .i64 y.lt, .int .i64 y.sq]
  simp only [World.size_alloc] at B2
  have HG : Hid (W2 = grow w #[.cells #[.slice x.a x.ws.length x.c, .int .i64 x.ln, .int .i64 x.st, .int .i64 x.lt, .int .i64 x.sq] 43, .cells #[.slice y.a y.ws.length y.c, .int .i64 y.ln, .int .i64 y.st, .int .i64 y.lt, .int .i64 y.sq] 43]) := by
    show W2 = _
    rw [← hW2, alloc_eq_grow, alloc_eq_grow, grow_grow]; rfl
  rw [hW2] at B0 B1 B2
  have k0 := fun n os => blk_gcell (v := .func (.func 73) #[] #[]) B0 n os 0 rfl
  have x0 := fun n os => blk_gcell (v := .slice x.a x.ws.length x.c) B1 n os 0 rfl
  have x1 := fun n os => blk_gcell (v := .int .i64 x.ln) B1 n os 1 rfl
  have x2 := fun n os => blk_gcell (v := .int .i64 x.st) B1 n os 2 rfl
  have x3 := fun n os => blk_gcell (v := .int .i64 x.lt) B1 n os 3 rfl
  have x4 := fun n os => blk_gcell (v := .int .i64 x.sq) B1 n os 4 rfl
  have y0 := fun n os => blk_gcell (v := .slice y.a y.ws.length y.c) B2 n os 0 rfl
  have y1 := fun n os => blk_gcell (v := .int .i64 y.ln) B2 n os 1 rfl
  have y2 := fun n os => blk_gcell (v := .int .i64 y.st) B2 n os 2 rfl
  have y3 := fun n os => blk_gcell (v := .int .i64 y.lt) B2 n os 3 rfl
  have y4 := fun n os => blk_gcell (v := .int .i64 y.sq) B2 n os 4 rfl
  clear hq B0 B1 B2
  go_enter Try.func77, Try.ntmps77
  go_wp2_with fail
  clear hW2
  go_quiet_grown (first | (go_at_call 73; first | exact Calls.grown_of (L1 _) | exact Calls.grown_of (L2 _)) | (go_at_call 78; exact Calls.grown_of (cmp_gw _ _ _)))
  go_wp2_with fail
  go_ret
  have e := HG.out
  subst e
  exact ⟨rfl, nq, _, grow_grow (w.drewN nq) _ osq⟩
end Go.Proofs.Ytmfkapbllmfegaa.L10
