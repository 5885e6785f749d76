/- package window's Count: a contract. Condition: the library's variable errors.errorType holds what the program's text lays. -/
import Derived.Test.YtmfkapbllmfegaaDoorWn2
namespace Go.Proofs.YtmfkapbllmfegaaDoor.W13
open Go.RowKit Go.Shelf Go.Proofs.YtmfkapbllmfegaaDoor.G Go.Proofs.YtmfkapbllmfegaaDoor.C04 Go.Proofs.YtmfkapbllmfegaaDoor.Sat
attribute [local go_sem] Oper.semAt_some
set_option maxRecDepth 100000

theorem phv_good {c : Cfg} {o : Int} (h : flt c = none) : phV c o = phs o c.ws := if_pos h
theorem phv_bad {c : Cfg} {o : Int} (h : ¬ flt c = none) : phV c o = [] := if_neg h
theorem gd_ch {c : Cfg} (h : Gd c) : Ch c.P ((c.F.toNat : Nat) : Int) 0 c.ws := by
  have := h.f
  have e : ((c.F.toNat : Nat) : Int) = c.F := by omega
  rw [e]; exact h.ch
theorem phs_le {c : Cfg} (h : Gd c) (o : Int) : (phs o c.ws).length ≤ c.F.toNat := by
  rw [← ah_len (o := o) (gd_ch h)]; exact ah_le _ _
theorem phv_le (c : Cfg) (o : Int) : (phV c o).length ≤ 64 := by
  by_cases h : flt c = none
  · rw [phv_good h]
    have := phs_le (gd_of h) o
    have := (gd_of h).f
    omega
  · rw [phv_bad h]; exact Nat.zero_le _
theorem blk_kept {W W' : World} {row : Option Nat} {g : Nat} {t : TypeId} {cs : Array Value} (h : Blk W g t cs) (hg : W.grownBy W' row) (hr : ∀ r, row = some r → ∃ o : Obj, W.heap[r]? = some o ∧ o.isCells = false) : Blk W' g t cs :=
  (grownBy_keeps_cells hg hr h rfl).trans h
theorem own_cells (B g : Nat) (t : TypeId) (f : List Int → Array Value) : OwnFrom B (fun pre W => Blk W g t (f pre)) := by
  have h : Own (fun (pre : List Int) W => Blk W g t (f pre)) := fun s A B row hs hg hr => blk_kept hs hg hr
  exact h.from _
set_option maxHeartbeats 4000000 in
theorem count_any {w : World} {v : Value} {c : Cfg} (hg : Et w) (h : CfgAt w v c) (o : Int) : Calls Tryd.prog 18 #[v, .int .i64 o] w fun e w' => e = .returned (.int .i64 (phV c o).length) ∧ Below w.heap.size w w' := by
  have h0 := h
  obtain ⟨A1, A2, A3, c1, c2, c3, rfl, h1, h2, h3, _⟩ := h
  clear h1 h2 h3
  have hN := phv_le c o
  have b1 := b01 w (.cells #[.int .i64 c.P, .int .i64 c.F, .slice A1 c.ws.length c1, .slice A2 c.cs.length c2, .slice A3 c.ac.length c3] 26)
  have b2 := ba1 b1 (.cells #[.int .i64 0] 3)
  have X1 := Blk.new_at (w := w.alloc (.cells #[.int .i64 c.P, .int .i64 c.F, .slice A1 c.ws.length c1, .slice A2 c.cs.length c2, .slice A3 c.ac.length c3] 26)) (n := w.heap.size + 1) (by simp) 3 #[.int .i64 0]
  refine (callsIn_wide (n := 3)).1 ?_
  refine callsIn_of_wp_marks Tryd.func18 rfl trivial ?_ rfl
  simp only [Tryd.ntmps18, List.size_toArray, List.length_cons, List.length_nil, Nat.reduceAdd, Nat.reduceSub, Array.replicate_succ, Array.replicate_zero, List.push_toArray, List.append_toArray, List.nil_append, List.cons_append]
  refine wpIn_wide.2 ?_
  go_wp2_with fail
  refine (phases_any _ _ _ _ _ _ _).mono ?_
  rintro e w' ⟨rfl, rfl⟩
  go_wp2_with fail
  have hC : Cap w _ c o A1 A2 A3 c1 c2 c3 (w.heap.size + 1 + 1) (w.heap.size + 1 + 1 + 1) := ⟨hg, h0, ba1 (ba1 b2 _) _, (Blk.new_at (w := (w.alloc (.cells #[.int .i64 c.P, .int .i64 c.F, .slice A1 c.ws.length c1, .slice A2 c.cs.length c2, .slice A3 c.ac.length c3] 26)).alloc (.cells #[.int .i64 0] 3)) (n := w.heap.size + 1 + 1) (by simp) 26 #[.int .i64 c.P, .int .i64 c.F, .slice A1 c.ws.length c1, .slice A2 c.cs.length c2, .slice A3 c.ac.length c3]).alloc (.cells #[.int .i64 o] 3), Blk.new_at (w := ((w.alloc (.cells #[.int .i64 c.P, .int .i64 c.F, .slice A1 c.ws.length c1, .slice A2 c.cs.length c2, .slice A3 c.ac.length c3] 26)).alloc (.cells #[.int .i64 0] 3)).alloc (.cells #[.int .i64 c.P, .int .i64 c.F, .slice A1 c.ws.length c1, .slice A2 c.cs.length c2, .slice A3 c.ac.length c3] 26)) (n := w.heap.size + 1 + 1 + 1) (by simp) 3 #[.int .i64 o]⟩
  have X2 := (X1.alloc (.cells #[.int .i64 c.P, .int .i64 c.F, .slice A1 c.ws.length c1, .slice A2 c.cs.length c2, .slice A3 c.ac.length c3] 26)).alloc (.cells #[.int .i64 o] 3)
  clear X1 b1 b2 hg h0
  generalize (((w.alloc (.cells #[.int .i64 c.P, .int .i64 c.F, .slice A1 c.ws.length c1, .slice A2 c.cs.length c2, .slice A3 c.ac.length c3] 26)).alloc (.cells #[.int .i64 0] 3)).alloc (.cells #[.int .i64 c.P, .int .i64 c.F, .slice A1 c.ws.length c1, .slice A2 c.cs.length c2, .slice A3 c.ac.length c3] 26)).alloc (.cells #[.int .i64 o] 3) = V at *
  have hsz := hC.bl.size
  have hlt := X2.lt
  refine (wpIn_wide (n := 3)).1 ?_
  refine wpIn_rangeFunc_ownG (n := 3) (F := Fence.wide) rfl (by decide) (gf := 46) (lb := #[.pointer (some ⟨w.heap.size + 1 + 1, 0, none⟩), .pointer (some ⟨w.heap.size + 1 + 1 + 1, 0, none⟩)]) rfl trivial (enters_of Tryd.func46 (by kernel_rfl) rfl)
    (phases_stops (b := w.heap.size + 1) _ hC (by omega) (by omega) hlt) (fun h k => h.trans k) (fun W l u u' hl hu hc _ => Kp.putObj W l u u' (by omega) hu hc) (Below.refl _ _) (fun _ => rfl)
    (fun pre W => Blk W (w.heap.size + 1) 3 #[.int .i64 (pre.length : Int)] ∧ Below w.heap.size w W)
    (fun _ _ _ => False)
    (OwnFrom.and (own_cells _ (w.heap.size + 1) 3 fun pre => #[.int .i64 (pre.length : Int)]) (ownFrom_below (Nat.le_refl _) hsz))
    (fun _ _ _ _ _ hs _ _ => hs)
    ⟨X2, hC.bl⟩
    (fun x => { tmps := #[.agg #[.int .i64 c.P, .int .i64 c.F, .slice A1 c.ws.length c1, .slice A2 c.cs.length c2, .slice A3 c.ac.length c3], .int .i64 o, .pointer (some ⟨w.heap.size, 0, none⟩), undef, .int .i64 0, .pointer (some ⟨w.heap.size + 1, 0, none⟩), .agg #[.int .i64 c.P, .int .i64 c.F, .slice A1 c.ws.length c1, .slice A2 c.cs.length c2, .slice A3 c.ac.length c3], .int .i64 o, .func (.func 46) #[] #[.pointer (some ⟨w.heap.size + 1 + 1, 0, none⟩), .pointer (some ⟨w.heap.size + 1 + 1 + 1, 0, none⟩)], .int .i64 x, undef, undef, undef], defers := [] }) ?assign ?body ?done ?stop
  case assign =>
    intro l x W K hK
    gi_wp2
    simpa using hK
  case body =>
    rintro l pre x W ⟨hb, hB⟩ hl
    have q := hb.cell
    have f := hb.frozen
    gi_wp2
    refine ⟨(KeepsOthers.setCell _ _ _).from _, Kp.setCell W (by omega) 0 _, ?_, hB.setCell (by simp) _⟩
    have := hb.set_ 0 (.int .i64 ((pre.length : Int) + 1))
    simpa using this
  case done =>
    rintro D ys W hD rfl ⟨hb, hB⟩ hK
    have q := hb.cell
    go_wp2
    refine ⟨by simp, .inl ⟨_, _, rfl, run_takeDeferred hK, ?_⟩⟩
    exact ⟨_, results_tmp rfl _ _ _, rfl, hB.trans (belowK_b (w := w) (Nat.le_refl _) W D _ _ (by omega) hK rfl rfl)⟩
  case stop =>
    rintro D k pre W _ _ h _
    exact h.elim
end Go.Proofs.YtmfkapbllmfegaaDoor.W13
