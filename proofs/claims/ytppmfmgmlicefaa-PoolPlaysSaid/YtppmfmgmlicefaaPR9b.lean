/- The document's own pool: New, Of, Free: contracts. -/
import Derived.Test.YtppmfmgmlicefaaPR9a
namespace Go.Proofs.Ytppmfmgmlicefaa.P9
open Go.RowKit Go.Proofs.Ytppmfmgmlicefaa.G
set_option maxRecDepth 100000
variable {w w' : World} {b n : Nat} {s : SS} {t : Nat → Int} {c : Int}
theorem made_at (z : Value) {k j : Nat} (h : j < k) : (madeCells #[z] k)[j]? = some z := by
  have e := toList_madeCells_one z k
  rw [← Array.getElem?_toList, e]; simp [h]
theorem makeB (k : Nat) (hk : k ≤ 64) (n : Int) (hn : n = k) (W : World) : (Instr.makeSlice 26 (.int .i64 n) (.int .i64 n)).run Try.prog W = .ok (.slice (some ⟨W.heap.size, 0, none⟩) k k) (W.alloc (.cells (madeCells #[Value.bool false] k) 4)) := by
  subst hn
  exact run_make_row' (P := Try.prog) 26 4 (.bool false) 1 Try.underlying26 infoB rfl .i64 .i64 k (by omega) (by omega) W
theorem makeI (k : Nat) (hk : k ≤ 64) (n : Int) (hn : n = k) (W : World) : (Instr.makeSlice 27 (.int .i64 n) (.int .i64 n)).run Try.prog W = .ok (.slice (some ⟨W.heap.size, 0, none⟩) k k) (W.alloc (.cells (madeCells #[Value.int .i64 0] k) 3)) := by
  subst hn
  exact run_make_row' (P := Try.prog) 27 3 (.int .i64 0) 8 Try.underlying27 info3 rfl .i64 .i64 k (by omega) (by omega) W
theorem rs_new {V : World} {k g1 g2 g3 : Nat} (h1 : Blk V g1 4 (madeCells #[Value.bool false] k)) (h2 : Blk V g2 3 (madeCells #[Value.int .i64 0] k)) (h3 : Blk V g3 3 (madeCells #[Value.int .i64 0] k)) :
    RS V (some ⟨g1, 0, none⟩) (some ⟨g2, 0, none⟩) (some ⟨g3, 0, none⟩) k (fun _ => none) (fun _ => 0) := by
  refine ⟨Row.of_blk h1 fun j u hj => ?_, Row.of_blk h2 fun j u hj => ?_, Row.of_blk h3 fun j u hj => ?_, fun bb o e => ?_, fun bb o e => ?_, fun bb o e => ?_⟩
  · have hjl := (List.getElem?_eq_some_iff.1 hj).1
    rw [bl_len] at hjl
    rw [made_at _ hjl, ← hj, bl_at _ hjl]; rfl
  · have hjl := (List.getElem?_eq_some_iff.1 hj).1
    rw [ol_len] at hjl
    rw [made_at _ hjl, ← hj, ol_at _ hjl]; rfl
  · have hjl := (List.getElem?_eq_some_iff.1 hj).1
    rw [tl_len] at hjl
    rw [made_at _ hjl, ← hj, tl_at _ hjl]
  · injection e with e; injection e with e1 _; subst e1; exact ⟨_, h1⟩
  · injection e with e; injection e with e1 _; subst e1; exact ⟨_, h2⟩
  · injection e with e; injection e with e1 _; subst e1; exact ⟨_, h3⟩
def RnPost (w : World) (k : Nat) (e : Ending) (w' : World) : Prop := ∃ v, e = .returned v ∧ Rf w' v k (fun _ => none) (fun _ => 0) ∧ Below w.heap.size w w'
theorem new_fin (w : World) (c0 c1 c2 c3 : Array Value) (t0 t1 t2 t3 : TypeId) (V : World) (hV : V = ((((w.alloc (.cells c0 t0)).alloc (.cells c1 t1)).alloc (.cells c2 t2)).alloc (.cells c3 t3)).drew) :
    Blk V w.heap.size t0 c0 ∧ Blk V (w.heap.size + 1) t1 c1 ∧ Blk V (w.heap.size + 1 + 1) t2 c2 ∧ Blk V (w.heap.size + 1 + 1 + 1) t3 c3 ∧ Below w.heap.size w V := by
  subst hV
  have e1 : (w.alloc (.cells c0 t0)).heap.size = w.heap.size + 1 := by simp
  have e2 : ((w.alloc (.cells c0 t0)).alloc (.cells c1 t1)).heap.size = w.heap.size + 1 + 1 := by simp
  have e3 : (((w.alloc (.cells c0 t0)).alloc (.cells c1 t1)).alloc (.cells c2 t2)).heap.size = w.heap.size + 1 + 1 + 1 := by simp
  exact ⟨(((Blk.new w t0 c0).alloc _).alloc _).alloc _, ((Blk.new_at e1 t1 c1).alloc _).alloc _, (Blk.new_at e2 t2 c2).alloc _, Blk.new_at e3 t3 c3, (ba1 (ba1 (ba1 (b01 w _) _) _) _).drew⟩
theorem res_new {V : World} {g : Nat} {x y z : Value} {tmps : Array Value} (hb : Blk V g 29 #[x, y, z]) (ht : tmps.getD 2 undef = .pointer (some ⟨g, 0, none⟩)) : (results Try.f11 tmps).run Try.prog V = .ok (.agg #[x, y, z]) V := by
  have k := hb.cell
  have ht' : tmps[2]?.getD undef = .pointer (some ⟨g, 0, none⟩) := by simpa using ht
  simp [results, Try.results11, go_sem, ht', k]
set_option maxHeartbeats 4000000 in
theorem rnew_any (n : Int) (w : World) : Calls Try.prog 11 #[.int .i64 n] w (RnPost w (clampS n)) := by
  have h3 : n < 0 ∨ (0 ≤ n ∧ n ≤ 64) ∨ 64 < n := by omega
  rcases h3 with h0 | ⟨h0, h1⟩ | h0
  · have HC : clampS n = 0 := by unfold clampS; omega
    rw [HC]
    clear HC
    have hmb := makeB 0 (by omega) 0 rfl
    have hmi := makeI 0 (by omega) 0 rfl
    go_enter Try.func11, Try.ntmps11
    go_wp2
    go_region
    all_goals
      go_wp2_with fail
      refine bodyPost_ret (res_new (new_fin w _ _ _ _ _ _ _ _ _ rfl).1 rfl) rfl ⟨_, rfl, ⟨_, _, _, _, _, _, rfl, rs_new ?_ ?_ ?_⟩, (new_fin w _ _ _ _ _ _ _ _ _ rfl).2.2.2.2⟩
      all_goals first | exact (new_fin w _ _ _ _ _ _ _ _ _ rfl).2.1 | exact (new_fin w _ _ _ _ _ _ _ _ _ rfl).2.2.1 | exact (new_fin w _ _ _ _ _ _ _ _ _ rfl).2.2.2.1
  · obtain ⟨k, rfl⟩ := Int.eq_ofNat_of_zero_le h0
    have HC : clampS (k : Int) = k := by unfold clampS; omega
    rw [HC]
    clear HC
    have hmb := makeB k (by omega) k rfl
    have hmi := makeI k (by omega) k rfl
    go_enter Try.func11, Try.ntmps11
    go_wp2
    go_region
    all_goals
      go_wp2_with fail
      refine bodyPost_ret (res_new (new_fin w _ _ _ _ _ _ _ _ _ rfl).1 rfl) rfl ⟨_, rfl, ⟨_, _, _, _, _, _, rfl, rs_new ?_ ?_ ?_⟩, (new_fin w _ _ _ _ _ _ _ _ _ rfl).2.2.2.2⟩
      all_goals first | exact (new_fin w _ _ _ _ _ _ _ _ _ rfl).2.1 | exact (new_fin w _ _ _ _ _ _ _ _ _ rfl).2.2.1 | exact (new_fin w _ _ _ _ _ _ _ _ _ rfl).2.2.2.1
  · have HC : clampS n = 64 := by unfold clampS; omega
    rw [HC]
    clear HC
    have hmb := makeB 64 (by omega) 64 rfl
    have hmi := makeI 64 (by omega) 64 rfl
    go_enter Try.func11, Try.ntmps11
    go_wp2
    go_region
    all_goals
      go_wp2_with fail
      refine bodyPost_ret (res_new (new_fin w _ _ _ _ _ _ _ _ _ rfl).1 rfl) rfl ⟨_, rfl, ⟨_, _, _, _, _, _, rfl, rs_new ?_ ?_ ?_⟩, (new_fin w _ _ _ _ _ _ _ _ _ rfl).2.2.2.2⟩
      all_goals first | exact (new_fin w _ _ _ _ _ _ _ _ _ rfl).2.1 | exact (new_fin w _ _ _ _ _ _ _ _ _ rfl).2.2.1 | exact (new_fin w _ _ _ _ _ _ _ _ _ rfl).2.2.2.1
end Go.Proofs.Ytppmfmgmlicefaa.P9
