/- The document's register of three slots: New. -/
import Derived.Test.YtppmfmgmlicefabDoorVR2
namespace Go.Proofs.YtppmfmgmlicefabDoor.T3
open Go.RowKit Go.Proofs.YtppmfmgmlicefabDoor.G Go.Proofs.YtppmfmgmlicefabDoor.Cell
set_option maxRecDepth 100000
variable {w : World} {W m b f k : Int} {A0 A1 A2 Ai Ao : Option Addr} {n0 n1 n2 ni no c0 c1 c2 ci co : Nat} {ws rs ak fr : Bool}
/-- A list of zeros, new. -/
def Zl (w V : World) (K : Nat) (v : Value) : Prop := ∃ g, v = .slice (some ⟨g, 0, none⟩) K K ∧ w.heap.size + 2 ≤ g ∧ Blk V g 3 (ints (zs K))
/-- What the loop keeps. -/
def NwI (w : World) (Wv : Int) (K : Nat) (i : Value) (V : World) : Prop := ∃ (k : Nat) (v0 v1 v2 : Value), i = .int .i64 k ∧ k ≤ 3 ∧ Below w.heap.size w V ∧ w.heap.size + 2 ≤ V.heap.size ∧ Blk V w.heap.size 61 (rc 0 0 (.slice none 0 0) (.slice none 0 0) (.slice none 0 0) 0 0 false false 0 false false (.slice none 0 0) (.slice none 0 0)) ∧
  Blk V (w.heap.size + 1) 61 (rc Wv 0 v0 v1 v2 1 2 false false 0 false false (.slice none 0 0) (.slice none 0 0)) ∧ (k = 0 → v0 = (.slice none 0 0)) ∧ (k ≤ 1 → v1 = (.slice none 0 0)) ∧ (k ≤ 2 → v2 = (.slice none 0 0)) ∧ (0 < k → Zl w V K v0) ∧ (1 < k → Zl w V K v1) ∧ (2 < k → Zl w V K v2)
theorem Zl.lf {w V V' : World} {K : Nat} {v : Value} {N : Nat → Prop} (h : Zl w V K v) (hK : K ≤ 6) (hO : Only (fun x => x = w.heap.size) V V') (hN : ∀ g, w.heap.size ≤ g → N g) : LF V' N v (zs K) := by
  obtain ⟨g, rfl, hg, hb⟩ := h
  have hb' : Blk V' g 3 (ints (zs K)) := Only.blk hb hO (by show ¬ g = w.heap.size; omega)
  refine ⟨some ⟨g, 0, none⟩, K, by rw [zs_length], by rw [zs_length]; exact Nat.le_refl _, by omega, fun _ => ⟨g, 0, rfl, hN g (by omega), hb'.lt, fun j hj => ?_⟩⟩
  rw [Nat.zero_add, hb'.cell j]
  simp [ints, nth, hj]
/-- What New answers. -/
def NewP (K : Nat) (w : World) (e : Ending) (w' : World) : Prop := ∃ (A0 A1 A2 : Option Addr) (c0 c1 c2 : Nat), e = .returned (.agg (rc K 0 (.slice A0 K c0) (.slice A1 K c1) (.slice A2 K c2) 1 2 false false 0 false false (.slice none 0 0) (.slice none 0 0))) ∧ Below w.heap.size w w' ∧ ∀ N : Nat → Prop, (∀ g, w.heap.size ≤ g → N g) → LF w' N (.slice A0 K c0) (zs K) ∧ LF w' N (.slice A1 K c1) (zs K) ∧ LF w' N (.slice A2 K c2) (zs K)
set_option maxHeartbeats 4000000 in
theorem rnew1 (n : Int) (h1 : n < 1) (w : World) : Calls Tryd.prog 28 #[.int .i64 n] w (NewP (fW n) w) := by
  have HF : Hid (fW n = 1) := by show fW n = 1; unfold fW; omega
  have hr := make_run 1 (by omega) 1 rfl
  have hb0 : Hid (NwI w 1 1 (.int .i64 0) ((w.alloc (.cells (rc 0 0 (.slice none 0 0) (.slice none 0 0) (.slice none 0 0) 0 0 false false 0 false false (.slice none 0 0) (.slice none 0 0)) 61)).alloc (.cells (rc 1 0 (.slice none 0 0) (.slice none 0 0) (.slice none 0 0) 1 2 false false 0 false false (.slice none 0 0) (.slice none 0 0)) 61))) := by
    refine ⟨0, (.slice none 0 0), (.slice none 0 0), (.slice none 0 0), rfl, by omega, ba1 (b01 w _) _, by rw [World.size_alloc, World.size_alloc]; omega, (Blk.new w 61 (rc 0 0 (.slice none 0 0) (.slice none 0 0) (.slice none 0 0) 0 0 false false 0 false false (.slice none 0 0) (.slice none 0 0))).alloc _, Blk.new_at (by rw [World.size_alloc]) _ _, fun _ => rfl, fun _ => rfl, fun _ => rfl, fun h => by omega, fun h => by omega, fun h => by omega⟩
  go_enter Tryd.func28, Tryd.ntmps28
  go_wp2
  go_loopw [4] (fun i V => NwI w 1 1 i V) (fun i _ => 3 - (intOf i).toNat)
  case atStart => exact hb0.out
  case round =>
    clear hb0
    obtain ⟨k, v0, v1, v2, rfl, hk, hB, hsz, b0, b1, e0, e1, e2, z0, z1, z2⟩ := hrel
    have HB := Lib.hid (And.intro hB (And.intro b0 b1))
    by_cases hlt : k < 3
    · have hk3 : k = 0 ∨ k = 1 ∨ k = 2 := by omega
      rcases hk3 with rfl | rfl | rfl
      · -- 0
        obtain rfl := e0 (by omega)
        obtain rfl := e1 (by omega)
        obtain rfl := e2 (by omega)
        have hw1 : wr.heap.size ≠ w.heap.size + 1 := by omega
        have HQ : Hid (Below w.heap.size w ((wr.alloc (.cells (ints (zs 1)) 3)).setCell ⟨w.heap.size + 1, 2, none⟩ (.slice (some ⟨wr.heap.size, 0, none⟩) 1 1)) ∧ Blk ((wr.alloc (.cells (ints (zs 1)) 3)).setCell ⟨w.heap.size + 1, 2, none⟩ (.slice (some ⟨wr.heap.size, 0, none⟩) 1 1)) w.heap.size 61 (rc 0 0 (.slice none 0 0) (.slice none 0 0) (.slice none 0 0) 0 0 false false 0 false false (.slice none 0 0) (.slice none 0 0)) ∧ Blk ((wr.alloc (.cells (ints (zs 1)) 3)).setCell ⟨w.heap.size + 1, 2, none⟩ (.slice (some ⟨wr.heap.size, 0, none⟩) 1 1)) (w.heap.size + 1) 61 (rc 1 0 (.slice (some ⟨wr.heap.size, 0, none⟩) 1 1) (.slice none 0 0) (.slice none 0 0) 1 2 false false 0 false false (.slice none 0 0) (.slice none 0 0))) := ⟨(ba1 hB _).setCell (by show w.heap.size ≤ w.heap.size + 1; omega) _, (b0.alloc _).far (p := ⟨w.heap.size + 1, 2, none⟩) (by show w.heap.size ≠ w.heap.size + 1; omega) _, (b1.alloc _).set_ 2 _⟩
        have HZn : Hid (Blk ((wr.alloc (.cells (ints (zs 1)) 3)).setCell ⟨w.heap.size + 1, 2, none⟩ (.slice (some ⟨wr.heap.size, 0, none⟩) 1 1)) wr.heap.size 3 (ints (zs 1))) := (Blk.new wr 3 _).far (p := ⟨w.heap.size + 1, 2, none⟩) hw1 _
        have k1 := b1.cell
        have k2 := b1.frozen
        have k3 := b1.lt
        have HA := Lib.hid k3
        clear e0 e1 e2 z0 z1 z2 hB b0 b1 HB 
        go_wp2
        go_roundw
        case rel =>
          first
            | exact ⟨1, _, _, _, by go_num, by omega, HQ.out.1, by simp [World.setCell]; omega, HQ.out.2.1, HQ.out.2.2, fun h => by omega, fun _ => rfl, fun _ => rfl, fun _ => ⟨wr.heap.size, rfl, hsz, HZn.out⟩, fun h => by omega, fun h => by omega⟩
            | (rw [← World.setCell_alloc_past _ _ _ _ HA.out]; exact ⟨1, _, _, _, by go_num, by omega, HQ.out.1, by simp [World.setCell]; omega, HQ.out.2.1, HQ.out.2.2, fun h => by omega, fun _ => rfl, fun _ => rfl, fun _ => ⟨wr.heap.size, rfl, hsz, HZn.out⟩, fun h => by omega, fun h => by omega⟩)
        case measure => simp [intOf]
      · -- 1
        obtain ⟨g0, rfl, hg0, hz0⟩ := z0 (by omega)
        obtain rfl := e1 (by omega)
        obtain rfl := e2 (by omega)
        have hw1 : wr.heap.size ≠ w.heap.size + 1 := by omega
        have HQ : Hid (Below w.heap.size w ((wr.alloc (.cells (ints (zs 1)) 3)).setCell ⟨w.heap.size + 1, 3, none⟩ (.slice (some ⟨wr.heap.size, 0, none⟩) 1 1)) ∧ Blk ((wr.alloc (.cells (ints (zs 1)) 3)).setCell ⟨w.heap.size + 1, 3, none⟩ (.slice (some ⟨wr.heap.size, 0, none⟩) 1 1)) w.heap.size 61 (rc 0 0 (.slice none 0 0) (.slice none 0 0) (.slice none 0 0) 0 0 false false 0 false false (.slice none 0 0) (.slice none 0 0)) ∧ Blk ((wr.alloc (.cells (ints (zs 1)) 3)).setCell ⟨w.heap.size + 1, 3, none⟩ (.slice (some ⟨wr.heap.size, 0, none⟩) 1 1)) (w.heap.size + 1) 61 (rc 1 0 (.slice (some ⟨g0, 0, none⟩) 1 1) (.slice (some ⟨wr.heap.size, 0, none⟩) 1 1) (.slice none 0 0) 1 2 false false 0 false false (.slice none 0 0) (.slice none 0 0))) := ⟨(ba1 hB _).setCell (by show w.heap.size ≤ w.heap.size + 1; omega) _, (b0.alloc _).far (p := ⟨w.heap.size + 1, 3, none⟩) (by show w.heap.size ≠ w.heap.size + 1; omega) _, (b1.alloc _).set_ 3 _⟩
        have HZn : Hid (Blk ((wr.alloc (.cells (ints (zs 1)) 3)).setCell ⟨w.heap.size + 1, 3, none⟩ (.slice (some ⟨wr.heap.size, 0, none⟩) 1 1)) wr.heap.size 3 (ints (zs 1))) := (Blk.new wr 3 _).far (p := ⟨w.heap.size + 1, 3, none⟩) hw1 _
        have HZ0 : Hid (Blk ((wr.alloc (.cells (ints (zs 1)) 3)).setCell ⟨w.heap.size + 1, 3, none⟩ (.slice (some ⟨wr.heap.size, 0, none⟩) 1 1)) g0 3 (ints (zs 1))) := (hz0.alloc _).far (p := ⟨w.heap.size + 1, 3, none⟩) (by show g0 ≠ w.heap.size + 1; omega) _
        have k1 := b1.cell
        have k2 := b1.frozen
        have k3 := b1.lt
        have HA := Lib.hid k3
        clear e0 e1 e2 z0 z1 z2 hB b0 b1 HB hz0
        go_wp2
        go_roundw
        case rel =>
          first
            | exact ⟨2, _, _, _, by go_num, by omega, HQ.out.1, by simp [World.setCell]; omega, HQ.out.2.1, HQ.out.2.2, fun h => by omega, fun h => by omega, fun _ => rfl, fun _ => ⟨g0, rfl, hg0, HZ0.out⟩, fun _ => ⟨wr.heap.size, rfl, hsz, HZn.out⟩, fun h => by omega⟩
            | (rw [← World.setCell_alloc_past _ _ _ _ HA.out]; exact ⟨2, _, _, _, by go_num, by omega, HQ.out.1, by simp [World.setCell]; omega, HQ.out.2.1, HQ.out.2.2, fun h => by omega, fun h => by omega, fun _ => rfl, fun _ => ⟨g0, rfl, hg0, HZ0.out⟩, fun _ => ⟨wr.heap.size, rfl, hsz, HZn.out⟩, fun h => by omega⟩)
        case measure => simp [intOf]
      · -- 2
        obtain ⟨g0, rfl, hg0, hz0⟩ := z0 (by omega)
        obtain ⟨g1, rfl, hg1, hz1⟩ := z1 (by omega)
        obtain rfl := e2 (by omega)
        have hw1 : wr.heap.size ≠ w.heap.size + 1 := by omega
        have HQ : Hid (Below w.heap.size w ((wr.alloc (.cells (ints (zs 1)) 3)).setCell ⟨w.heap.size + 1, 4, none⟩ (.slice (some ⟨wr.heap.size, 0, none⟩) 1 1)) ∧ Blk ((wr.alloc (.cells (ints (zs 1)) 3)).setCell ⟨w.heap.size + 1, 4, none⟩ (.slice (some ⟨wr.heap.size, 0, none⟩) 1 1)) w.heap.size 61 (rc 0 0 (.slice none 0 0) (.slice none 0 0) (.slice none 0 0) 0 0 false false 0 false false (.slice none 0 0) (.slice none 0 0)) ∧ Blk ((wr.alloc (.cells (ints (zs 1)) 3)).setCell ⟨w.heap.size + 1, 4, none⟩ (.slice (some ⟨wr.heap.size, 0, none⟩) 1 1)) (w.heap.size + 1) 61 (rc 1 0 (.slice (some ⟨g0, 0, none⟩) 1 1) (.slice (some ⟨g1, 0, none⟩) 1 1) (.slice (some ⟨wr.heap.size, 0, none⟩) 1 1) 1 2 false false 0 false false (.slice none 0 0) (.slice none 0 0))) := ⟨(ba1 hB _).setCell (by show w.heap.size ≤ w.heap.size + 1; omega) _, (b0.alloc _).far (p := ⟨w.heap.size + 1, 4, none⟩) (by show w.heap.size ≠ w.heap.size + 1; omega) _, (b1.alloc _).set_ 4 _⟩
        have HZn : Hid (Blk ((wr.alloc (.cells (ints (zs 1)) 3)).setCell ⟨w.heap.size + 1, 4, none⟩ (.slice (some ⟨wr.heap.size, 0, none⟩) 1 1)) wr.heap.size 3 (ints (zs 1))) := (Blk.new wr 3 _).far (p := ⟨w.heap.size + 1, 4, none⟩) hw1 _
        have HZ0 : Hid (Blk ((wr.alloc (.cells (ints (zs 1)) 3)).setCell ⟨w.heap.size + 1, 4, none⟩ (.slice (some ⟨wr.heap.size, 0, none⟩) 1 1)) g0 3 (ints (zs 1))) := (hz0.alloc _).far (p := ⟨w.heap.size + 1, 4, none⟩) (by show g0 ≠ w.heap.size + 1; omega) _
        have HZ1 : Hid (Blk ((wr.alloc (.cells (ints (zs 1)) 3)).setCell ⟨w.heap.size + 1, 4, none⟩ (.slice (some ⟨wr.heap.size, 0, none⟩) 1 1)) g1 3 (ints (zs 1))) := (hz1.alloc _).far (p := ⟨w.heap.size + 1, 4, none⟩) (by show g1 ≠ w.heap.size + 1; omega) _
        have k1 := b1.cell
        have k2 := b1.frozen
        have k3 := b1.lt
        have HA := Lib.hid k3
        clear e0 e1 e2 z0 z1 z2 hB b0 b1 HB hz0 hz1
        go_wp2
        go_roundw
        case rel =>
          first
            | exact ⟨3, _, _, _, by go_num, by omega, HQ.out.1, by simp [World.setCell]; omega, HQ.out.2.1, HQ.out.2.2, fun h => by omega, fun h => by omega, fun h => by omega, fun _ => ⟨g0, rfl, hg0, HZ0.out⟩, fun _ => ⟨g1, rfl, hg1, HZ1.out⟩, fun _ => ⟨wr.heap.size, rfl, hsz, HZn.out⟩⟩
            | (rw [← World.setCell_alloc_past _ _ _ _ HA.out]; exact ⟨3, _, _, _, by go_num, by omega, HQ.out.1, by simp [World.setCell]; omega, HQ.out.2.1, HQ.out.2.2, fun h => by omega, fun h => by omega, fun h => by omega, fun _ => ⟨g0, rfl, hg0, HZ0.out⟩, fun _ => ⟨g1, rfl, hg1, HZ1.out⟩, fun _ => ⟨wr.heap.size, rfl, hsz, HZn.out⟩⟩)
        case measure => simp [intOf]
    · obtain rfl : k = 3 := by omega
      obtain ⟨g0, rfl, hg0, hz0⟩ := z0 (by omega)
      obtain ⟨g1, rfl, hg1, hz1⟩ := z1 (by omega)
      obtain ⟨g2, rfl, hg2, hz2⟩ := z2 (by omega)
      have HZ := Lib.hid (And.intro hz0 (And.intro hz1 hz2))
      have k1 := b1.cell
      have k2 := b0.cell
      have k3 := b0.frozen
      have k4 := b0.lt
      clear e0 e1 e2 z0 z1 z2 hB b0 b1 hz0 hz1 hz2
      go_wp2
      refine bodyPost_ret (v := .agg (rc 1 0 (.slice (some ⟨g0, 0, none⟩) 1 1) (.slice (some ⟨g1, 0, none⟩) 1 1) (.slice (some ⟨g2, 0, none⟩) 1 1) 1 2 false false 0 false false (.slice none 0 0) (.slice none 0 0))) (by simp [results, Tryd.results28, go_sem, k2, k4]) rfl ?_
      rw [HF.out]
      exact ⟨_, _, _, _, _, _, rfl, bel_only HB.out.1 (only14 _ _) (fun x hx => by rw [hx]; exact Nat.le_refl _), fun N hN => ⟨Zl.lf (w := w) ⟨g0, rfl, hg0, HZ.out.1⟩ (by omega) (only14 wr w.heap.size) hN, Zl.lf (w := w) ⟨g1, rfl, hg1, HZ.out.2.1⟩ (by omega) (only14 wr w.heap.size) hN, Zl.lf (w := w) ⟨g2, rfl, hg2, HZ.out.2.2⟩ (by omega) (only14 wr w.heap.size) hN⟩⟩
set_option maxHeartbeats 4000000 in
theorem rnew6 (n : Int) (h1 : 6 < n) (w : World) : Calls Tryd.prog 28 #[.int .i64 n] w (NewP (fW n) w) := by
  have HF : Hid (fW n = 6) := by show fW n = 6; unfold fW; omega
  have hr := make_run 6 (by omega) 6 rfl
  have hb0 : Hid (NwI w 6 6 (.int .i64 0) ((w.alloc (.cells (rc 0 0 (.slice none 0 0) (.slice none 0 0) (.slice none 0 0) 0 0 false false 0 false false (.slice none 0 0) (.slice none 0 0)) 61)).alloc (.cells (rc 6 0 (.slice none 0 0) (.slice none 0 0) (.slice none 0 0) 1 2 false false 0 false false (.slice none 0 0) (.slice none 0 0)) 61))) := by
    refine ⟨0, (.slice none 0 0), (.slice none 0 0), (.slice none 0 0), rfl, by omega, ba1 (b01 w _) _, by rw [World.size_alloc, World.size_alloc]; omega, (Blk.new w 61 (rc 0 0 (.slice none 0 0) (.slice none 0 0) (.slice none 0 0) 0 0 false false 0 false false (.slice none 0 0) (.slice none 0 0))).alloc _, Blk.new_at (by rw [World.size_alloc]) _ _, fun _ => rfl, fun _ => rfl, fun _ => rfl, fun h => by omega, fun h => by omega, fun h => by omega⟩
  go_enter Tryd.func28, Tryd.ntmps28
  go_wp2
  go_loopw [4] (fun i V => NwI w 6 6 i V) (fun i _ => 3 - (intOf i).toNat)
  case atStart => exact hb0.out
  case round =>
    clear hb0
    obtain ⟨k, v0, v1, v2, rfl, hk, hB, hsz, b0, b1, e0, e1, e2, z0, z1, z2⟩ := hrel
    have HB := Lib.hid (And.intro hB (And.intro b0 b1))
    by_cases hlt : k < 3
    · have hk3 : k = 0 ∨ k = 1 ∨ k = 2 := by omega
      rcases hk3 with rfl | rfl | rfl
      · -- 0
        obtain rfl := e0 (by omega)
        obtain rfl := e1 (by omega)
        obtain rfl := e2 (by omega)
        have hw1 : wr.heap.size ≠ w.heap.size + 1 := by omega
        have HQ : Hid (Below w.heap.size w ((wr.alloc (.cells (ints (zs 6)) 3)).setCell ⟨w.heap.size + 1, 2, none⟩ (.slice (some ⟨wr.heap.size, 0, none⟩) 6 6)) ∧ Blk ((wr.alloc (.cells (ints (zs 6)) 3)).setCell ⟨w.heap.size + 1, 2, none⟩ (.slice (some ⟨wr.heap.size, 0, none⟩) 6 6)) w.heap.size 61 (rc 0 0 (.slice none 0 0) (.slice none 0 0) (.slice none 0 0) 0 0 false false 0 false false (.slice none 0 0) (.slice none 0 0)) ∧ Blk ((wr.alloc (.cells (ints (zs 6)) 3)).setCell ⟨w.heap.size + 1, 2, none⟩ (.slice (some ⟨wr.heap.size, 0, none⟩) 6 6)) (w.heap.size + 1) 61 (rc 6 0 (.slice (some ⟨wr.heap.size, 0, none⟩) 6 6) (.slice none 0 0) (.slice none 0 0) 1 2 false false 0 false false (.slice none 0 0) (.slice none 0 0))) := ⟨(ba1 hB _).setCell (by show w.heap.size ≤ w.heap.size + 1; omega) _, (b0.alloc _).far (p := ⟨w.heap.size + 1, 2, none⟩) (by show w.heap.size ≠ w.heap.size + 1; omega) _, (b1.alloc _).set_ 2 _⟩
        have HZn : Hid (Blk ((wr.alloc (.cells (ints (zs 6)) 3)).setCell ⟨w.heap.size + 1, 2, none⟩ (.slice (some ⟨wr.heap.size, 0, none⟩) 6 6)) wr.heap.size 3 (ints (zs 6))) := (Blk.new wr 3 _).far (p := ⟨w.heap.size + 1, 2, none⟩) hw1 _
        have k1 := b1.cell
        have k2 := b1.frozen
        have k3 := b1.lt
        have HA := Lib.hid k3
        clear e0 e1 e2 z0 z1 z2 hB b0 b1 HB 
        go_wp2
        go_roundw
        case rel =>
          first
            | exact ⟨1, _, _, _, by go_num, by omega, HQ.out.1, by simp [World.setCell]; omega, HQ.out.2.1, HQ.out.2.2, fun h => by omega, fun _ => rfl, fun _ => rfl, fun _ => ⟨wr.heap.size, rfl, hsz, HZn.out⟩, fun h => by omega, fun h => by omega⟩
            | (rw [← World.setCell_alloc_past _ _ _ _ HA.out]; exact ⟨1, _, _, _, by go_num, by omega, HQ.out.1, by simp [World.setCell]; omega, HQ.out.2.1, HQ.out.2.2, fun h => by omega, fun _ => rfl, fun _ => rfl, fun _ => ⟨wr.heap.size, rfl, hsz, HZn.out⟩, fun h => by omega, fun h => by omega⟩)
        case measure => simp [intOf]
      · -- 1
        obtain ⟨g0, rfl, hg0, hz0⟩ := z0 (by omega)
        obtain rfl := e1 (by omega)
        obtain rfl := e2 (by omega)
        have hw1 : wr.heap.size ≠ w.heap.size + 1 := by omega
        have HQ : Hid (Below w.heap.size w ((wr.alloc (.cells (ints (zs 6)) 3)).setCell ⟨w.heap.size + 1, 3, none⟩ (.slice (some ⟨wr.heap.size, 0, none⟩) 6 6)) ∧ Blk ((wr.alloc (.cells (ints (zs 6)) 3)).setCell ⟨w.heap.size + 1, 3, none⟩ (.slice (some ⟨wr.heap.size, 0, none⟩) 6 6)) w.heap.size 61 (rc 0 0 (.slice none 0 0) (.slice none 0 0) (.slice none 0 0) 0 0 false false 0 false false (.slice none 0 0) (.slice none 0 0)) ∧ Blk ((wr.alloc (.cells (ints (zs 6)) 3)).setCell ⟨w.heap.size + 1, 3, none⟩ (.slice (some ⟨wr.heap.size, 0, none⟩) 6 6)) (w.heap.size + 1) 61 (rc 6 0 (.slice (some ⟨g0, 0, none⟩) 6 6) (.slice (some ⟨wr.heap.size, 0, none⟩) 6 6) (.slice none 0 0) 1 2 false false 0 false false (.slice none 0 0) (.slice none 0 0))) := ⟨(ba1 hB _).setCell (by show w.heap.size ≤ w.heap.size + 1; omega) _, (b0.alloc _).far (p := ⟨w.heap.size + 1, 3, none⟩) (by show w.heap.size ≠ w.heap.size + 1; omega) _, (b1.alloc _).set_ 3 _⟩
        have HZn : Hid (Blk ((wr.alloc (.cells (ints (zs 6)) 3)).setCell ⟨w.heap.size + 1, 3, none⟩ (.slice (some ⟨wr.heap.size, 0, none⟩) 6 6)) wr.heap.size 3 (ints (zs 6))) := (Blk.new wr 3 _).far (p := ⟨w.heap.size + 1, 3, none⟩) hw1 _
        have HZ0 : Hid (Blk ((wr.alloc (.cells (ints (zs 6)) 3)).setCell ⟨w.heap.size + 1, 3, none⟩ (.slice (some ⟨wr.heap.size, 0, none⟩) 6 6)) g0 3 (ints (zs 6))) := (hz0.alloc _).far (p := ⟨w.heap.size + 1, 3, none⟩) (by show g0 ≠ w.heap.size + 1; omega) _
        have k1 := b1.cell
        have k2 := b1.frozen
        have k3 := b1.lt
        have HA := Lib.hid k3
        clear e0 e1 e2 z0 z1 z2 hB b0 b1 HB hz0
        go_wp2
        go_roundw
        case rel =>
          first
            | exact ⟨2, _, _, _, by go_num, by omega, HQ.out.1, by simp [World.setCell]; omega, HQ.out.2.1, HQ.out.2.2, fun h => by omega, fun h => by omega, fun _ => rfl, fun _ => ⟨g0, rfl, hg0, HZ0.out⟩, fun _ => ⟨wr.heap.size, rfl, hsz, HZn.out⟩, fun h => by omega⟩
            | (rw [← World.setCell_alloc_past _ _ _ _ HA.out]; exact ⟨2, _, _, _, by go_num, by omega, HQ.out.1, by simp [World.setCell]; omega, HQ.out.2.1, HQ.out.2.2, fun h => by omega, fun h => by omega, fun _ => rfl, fun _ => ⟨g0, rfl, hg0, HZ0.out⟩, fun _ => ⟨wr.heap.size, rfl, hsz, HZn.out⟩, fun h => by omega⟩)
        case measure => simp [intOf]
      · -- 2
        obtain ⟨g0, rfl, hg0, hz0⟩ := z0 (by omega)
        obtain ⟨g1, rfl, hg1, hz1⟩ := z1 (by omega)
        obtain rfl := e2 (by omega)
        have hw1 : wr.heap.size ≠ w.heap.size + 1 := by omega
        have HQ : Hid (Below w.heap.size w ((wr.alloc (.cells (ints (zs 6)) 3)).setCell ⟨w.heap.size + 1, 4, none⟩ (.slice (some ⟨wr.heap.size, 0, none⟩) 6 6)) ∧ Blk ((wr.alloc (.cells (ints (zs 6)) 3)).setCell ⟨w.heap.size + 1, 4, none⟩ (.slice (some ⟨wr.heap.size, 0, none⟩) 6 6)) w.heap.size 61 (rc 0 0 (.slice none 0 0) (.slice none 0 0) (.slice none 0 0) 0 0 false false 0 false false (.slice none 0 0) (.slice none 0 0)) ∧ Blk ((wr.alloc (.cells (ints (zs 6)) 3)).setCell ⟨w.heap.size + 1, 4, none⟩ (.slice (some ⟨wr.heap.size, 0, none⟩) 6 6)) (w.heap.size + 1) 61 (rc 6 0 (.slice (some ⟨g0, 0, none⟩) 6 6) (.slice (some ⟨g1, 0, none⟩) 6 6) (.slice (some ⟨wr.heap.size, 0, none⟩) 6 6) 1 2 false false 0 false false (.slice none 0 0) (.slice none 0 0))) := ⟨(ba1 hB _).setCell (by show w.heap.size ≤ w.heap.size + 1; omega) _, (b0.alloc _).far (p := ⟨w.heap.size + 1, 4, none⟩) (by show w.heap.size ≠ w.heap.size + 1; omega) _, (b1.alloc _).set_ 4 _⟩
        have HZn : Hid (Blk ((wr.alloc (.cells (ints (zs 6)) 3)).setCell ⟨w.heap.size + 1, 4, none⟩ (.slice (some ⟨wr.heap.size, 0, none⟩) 6 6)) wr.heap.size 3 (ints (zs 6))) := (Blk.new wr 3 _).far (p := ⟨w.heap.size + 1, 4, none⟩) hw1 _
        have HZ0 : Hid (Blk ((wr.alloc (.cells (ints (zs 6)) 3)).setCell ⟨w.heap.size + 1, 4, none⟩ (.slice (some ⟨wr.heap.size, 0, none⟩) 6 6)) g0 3 (ints (zs 6))) := (hz0.alloc _).far (p := ⟨w.heap.size + 1, 4, none⟩) (by show g0 ≠ w.heap.size + 1; omega) _
        have HZ1 : Hid (Blk ((wr.alloc (.cells (ints (zs 6)) 3)).setCell ⟨w.heap.size + 1, 4, none⟩ (.slice (some ⟨wr.heap.size, 0, none⟩) 6 6)) g1 3 (ints (zs 6))) := (hz1.alloc _).far (p := ⟨w.heap.size + 1, 4, none⟩) (by show g1 ≠ w.heap.size + 1; omega) _
        have k1 := b1.cell
        have k2 := b1.frozen
        have k3 := b1.lt
        have HA := Lib.hid k3
        clear e0 e1 e2 z0 z1 z2 hB b0 b1 HB hz0 hz1
        go_wp2
        go_roundw
        case rel =>
          first
            | exact ⟨3, _, _, _, by go_num, by omega, HQ.out.1, by simp [World.setCell]; omega, HQ.out.2.1, HQ.out.2.2, fun h => by omega, fun h => by omega, fun h => by omega, fun _ => ⟨g0, rfl, hg0, HZ0.out⟩, fun _ => ⟨g1, rfl, hg1, HZ1.out⟩, fun _ => ⟨wr.heap.size, rfl, hsz, HZn.out⟩⟩
            | (rw [← World.setCell_alloc_past _ _ _ _ HA.out]; exact ⟨3, _, _, _, by go_num, by omega, HQ.out.1, by simp [World.setCell]; omega, HQ.out.2.1, HQ.out.2.2, fun h => by omega, fun h => by omega, fun h => by omega, fun _ => ⟨g0, rfl, hg0, HZ0.out⟩, fun _ => ⟨g1, rfl, hg1, HZ1.out⟩, fun _ => ⟨wr.heap.size, rfl, hsz, HZn.out⟩⟩)
        case measure => simp [intOf]
    · obtain rfl : k = 3 := by omega
      obtain ⟨g0, rfl, hg0, hz0⟩ := z0 (by omega)
      obtain ⟨g1, rfl, hg1, hz1⟩ := z1 (by omega)
      obtain ⟨g2, rfl, hg2, hz2⟩ := z2 (by omega)
      have HZ := Lib.hid (And.intro hz0 (And.intro hz1 hz2))
      have k1 := b1.cell
      have k2 := b0.cell
      have k3 := b0.frozen
      have k4 := b0.lt
      clear e0 e1 e2 z0 z1 z2 hB b0 b1 hz0 hz1 hz2
      go_wp2
      refine bodyPost_ret (v := .agg (rc 6 0 (.slice (some ⟨g0, 0, none⟩) 6 6) (.slice (some ⟨g1, 0, none⟩) 6 6) (.slice (some ⟨g2, 0, none⟩) 6 6) 1 2 false false 0 false false (.slice none 0 0) (.slice none 0 0))) (by simp [results, Tryd.results28, go_sem, k2, k4]) rfl ?_
      rw [HF.out]
      exact ⟨_, _, _, _, _, _, rfl, bel_only HB.out.1 (only14 _ _) (fun x hx => by rw [hx]; exact Nat.le_refl _), fun N hN => ⟨Zl.lf (w := w) ⟨g0, rfl, hg0, HZ.out.1⟩ (by omega) (only14 wr w.heap.size) hN, Zl.lf (w := w) ⟨g1, rfl, hg1, HZ.out.2.1⟩ (by omega) (only14 wr w.heap.size) hN, Zl.lf (w := w) ⟨g2, rfl, hg2, HZ.out.2.2⟩ (by omega) (only14 wr w.heap.size) hN⟩⟩
set_option maxHeartbeats 4000000 in
theorem rnewk (k9 : Nat) (h1 : 1 ≤ k9) (h6 : k9 ≤ 6) (w : World) : Calls Tryd.prog 28 #[.int .i64 k9] w (NewP (fW k9) w) := by
  have HF : Hid (fW (k9 : Int) = k9) := by show fW (k9 : Int) = k9; unfold fW; omega
  have hr := make_run k9 (by omega) k9 rfl
  have hb0 : Hid (NwI w k9 k9 (.int .i64 0) ((w.alloc (.cells (rc 0 0 (.slice none 0 0) (.slice none 0 0) (.slice none 0 0) 0 0 false false 0 false false (.slice none 0 0) (.slice none 0 0)) 61)).alloc (.cells (rc k9 0 (.slice none 0 0) (.slice none 0 0) (.slice none 0 0) 1 2 false false 0 false false (.slice none 0 0) (.slice none 0 0)) 61))) := by
    refine ⟨0, (.slice none 0 0), (.slice none 0 0), (.slice none 0 0), rfl, by omega, ba1 (b01 w _) _, by rw [World.size_alloc, World.size_alloc]; omega, (Blk.new w 61 (rc 0 0 (.slice none 0 0) (.slice none 0 0) (.slice none 0 0) 0 0 false false 0 false false (.slice none 0 0) (.slice none 0 0))).alloc _, Blk.new_at (by rw [World.size_alloc]) _ _, fun _ => rfl, fun _ => rfl, fun _ => rfl, fun h => by omega, fun h => by omega, fun h => by omega⟩
  go_enter Tryd.func28, Tryd.ntmps28
  go_wp2
  go_loopw [4] (fun i V => NwI w k9 k9 i V) (fun i _ => 3 - (intOf i).toNat)
  case atStart => exact hb0.out
  case round =>
    clear hb0
    obtain ⟨k, v0, v1, v2, rfl, hk, hB, hsz, b0, b1, e0, e1, e2, z0, z1, z2⟩ := hrel
    have HB := Lib.hid (And.intro hB (And.intro b0 b1))
    by_cases hlt : k < 3
    · have hk3 : k = 0 ∨ k = 1 ∨ k = 2 := by omega
      rcases hk3 with rfl | rfl | rfl
      · -- 0
        obtain rfl := e0 (by omega)
        obtain rfl := e1 (by omega)
        obtain rfl := e2 (by omega)
        have hw1 : wr.heap.size ≠ w.heap.size + 1 := by omega
        have HQ : Hid (Below w.heap.size w ((wr.alloc (.cells (ints (zs k9)) 3)).setCell ⟨w.heap.size + 1, 2, none⟩ (.slice (some ⟨wr.heap.size, 0, none⟩) k9 k9)) ∧ Blk ((wr.alloc (.cells (ints (zs k9)) 3)).setCell ⟨w.heap.size + 1, 2, none⟩ (.slice (some ⟨wr.heap.size, 0, none⟩) k9 k9)) w.heap.size 61 (rc 0 0 (.slice none 0 0) (.slice none 0 0) (.slice none 0 0) 0 0 false false 0 false false (.slice none 0 0) (.slice none 0 0)) ∧ Blk ((wr.alloc (.cells (ints (zs k9)) 3)).setCell ⟨w.heap.size + 1, 2, none⟩ (.slice (some ⟨wr.heap.size, 0, none⟩) k9 k9)) (w.heap.size + 1) 61 (rc k9 0 (.slice (some ⟨wr.heap.size, 0, none⟩) k9 k9) (.slice none 0 0) (.slice none 0 0) 1 2 false false 0 false false (.slice none 0 0) (.slice none 0 0))) := ⟨(ba1 hB _).setCell (by show w.heap.size ≤ w.heap.size + 1; omega) _, (b0.alloc _).far (p := ⟨w.heap.size + 1, 2, none⟩) (by show w.heap.size ≠ w.heap.size + 1; omega) _, (b1.alloc _).set_ 2 _⟩
        have HZn : Hid (Blk ((wr.alloc (.cells (ints (zs k9)) 3)).setCell ⟨w.heap.size + 1, 2, none⟩ (.slice (some ⟨wr.heap.size, 0, none⟩) k9 k9)) wr.heap.size 3 (ints (zs k9))) := (Blk.new wr 3 _).far (p := ⟨w.heap.size + 1, 2, none⟩) hw1 _
        have k1 := b1.cell
        have k2 := b1.frozen
        have k3 := b1.lt
        have HA := Lib.hid k3
        clear e0 e1 e2 z0 z1 z2 hB b0 b1 HB 
        go_wp2
        go_roundw
        case rel =>
          first
            | exact ⟨1, _, _, _, by go_num, by omega, HQ.out.1, by simp [World.setCell]; omega, HQ.out.2.1, HQ.out.2.2, fun h => by omega, fun _ => rfl, fun _ => rfl, fun _ => ⟨wr.heap.size, rfl, hsz, HZn.out⟩, fun h => by omega, fun h => by omega⟩
            | (rw [← World.setCell_alloc_past _ _ _ _ HA.out]; exact ⟨1, _, _, _, by go_num, by omega, HQ.out.1, by simp [World.setCell]; omega, HQ.out.2.1, HQ.out.2.2, fun h => by omega, fun _ => rfl, fun _ => rfl, fun _ => ⟨wr.heap.size, rfl, hsz, HZn.out⟩, fun h => by omega, fun h => by omega⟩)
        case measure => simp [intOf]
      · -- 1
        obtain ⟨g0, rfl, hg0, hz0⟩ := z0 (by omega)
        obtain rfl := e1 (by omega)
        obtain rfl := e2 (by omega)
        have hw1 : wr.heap.size ≠ w.heap.size + 1 := by omega
        have HQ : Hid (Below w.heap.size w ((wr.alloc (.cells (ints (zs k9)) 3)).setCell ⟨w.heap.size + 1, 3, none⟩ (.slice (some ⟨wr.heap.size, 0, none⟩) k9 k9)) ∧ Blk ((wr.alloc (.cells (ints (zs k9)) 3)).setCell ⟨w.heap.size + 1, 3, none⟩ (.slice (some ⟨wr.heap.size, 0, none⟩) k9 k9)) w.heap.size 61 (rc 0 0 (.slice none 0 0) (.slice none 0 0) (.slice none 0 0) 0 0 false false 0 false false (.slice none 0 0) (.slice none 0 0)) ∧ Blk ((wr.alloc (.cells (ints (zs k9)) 3)).setCell ⟨w.heap.size + 1, 3, none⟩ (.slice (some ⟨wr.heap.size, 0, none⟩) k9 k9)) (w.heap.size + 1) 61 (rc k9 0 (.slice (some ⟨g0, 0, none⟩) k9 k9) (.slice (some ⟨wr.heap.size, 0, none⟩) k9 k9) (.slice none 0 0) 1 2 false false 0 false false (.slice none 0 0) (.slice none 0 0))) := ⟨(ba1 hB _).setCell (by show w.heap.size ≤ w.heap.size + 1; omega) _, (b0.alloc _).far (p := ⟨w.heap.size + 1, 3, none⟩) (by show w.heap.size ≠ w.heap.size + 1; omega) _, (b1.alloc _).set_ 3 _⟩
        have HZn : Hid (Blk ((wr.alloc (.cells (ints (zs k9)) 3)).setCell ⟨w.heap.size + 1, 3, none⟩ (.slice (some ⟨wr.heap.size, 0, none⟩) k9 k9)) wr.heap.size 3 (ints (zs k9))) := (Blk.new wr 3 _).far (p := ⟨w.heap.size + 1, 3, none⟩) hw1 _
        have HZ0 : Hid (Blk ((wr.alloc (.cells (ints (zs k9)) 3)).setCell ⟨w.heap.size + 1, 3, none⟩ (.slice (some ⟨wr.heap.size, 0, none⟩) k9 k9)) g0 3 (ints (zs k9))) := (hz0.alloc _).far (p := ⟨w.heap.size + 1, 3, none⟩) (by show g0 ≠ w.heap.size + 1; omega) _
        have k1 := b1.cell
        have k2 := b1.frozen
        have k3 := b1.lt
        have HA := Lib.hid k3
        clear e0 e1 e2 z0 z1 z2 hB b0 b1 HB hz0
        go_wp2
        go_roundw
        case rel =>
          first
            | exact ⟨2, _, _, _, by go_num, by omega, HQ.out.1, by simp [World.setCell]; omega, HQ.out.2.1, HQ.out.2.2, fun h => by omega, fun h => by omega, fun _ => rfl, fun _ => ⟨g0, rfl, hg0, HZ0.out⟩, fun _ => ⟨wr.heap.size, rfl, hsz, HZn.out⟩, fun h => by omega⟩
            | (rw [← World.setCell_alloc_past _ _ _ _ HA.out]; exact ⟨2, _, _, _, by go_num, by omega, HQ.out.1, by simp [World.setCell]; omega, HQ.out.2.1, HQ.out.2.2, fun h => by omega, fun h => by omega, fun _ => rfl, fun _ => ⟨g0, rfl, hg0, HZ0.out⟩, fun _ => ⟨wr.heap.size, rfl, hsz, HZn.out⟩, fun h => by omega⟩)
        case measure => simp [intOf]
      · -- 2
        obtain ⟨g0, rfl, hg0, hz0⟩ := z0 (by omega)
        obtain ⟨g1, rfl, hg1, hz1⟩ := z1 (by omega)
        obtain rfl := e2 (by omega)
        have hw1 : wr.heap.size ≠ w.heap.size + 1 := by omega
        have HQ : Hid (Below w.heap.size w ((wr.alloc (.cells (ints (zs k9)) 3)).setCell ⟨w.heap.size + 1, 4, none⟩ (.slice (some ⟨wr.heap.size, 0, none⟩) k9 k9)) ∧ Blk ((wr.alloc (.cells (ints (zs k9)) 3)).setCell ⟨w.heap.size + 1, 4, none⟩ (.slice (some ⟨wr.heap.size, 0, none⟩) k9 k9)) w.heap.size 61 (rc 0 0 (.slice none 0 0) (.slice none 0 0) (.slice none 0 0) 0 0 false false 0 false false (.slice none 0 0) (.slice none 0 0)) ∧ Blk ((wr.alloc (.cells (ints (zs k9)) 3)).setCell ⟨w.heap.size + 1, 4, none⟩ (.slice (some ⟨wr.heap.size, 0, none⟩) k9 k9)) (w.heap.size + 1) 61 (rc k9 0 (.slice (some ⟨g0, 0, none⟩) k9 k9) (.slice (some ⟨g1, 0, none⟩) k9 k9) (.slice (some ⟨wr.heap.size, 0, none⟩) k9 k9) 1 2 false false 0 false false (.slice none 0 0) (.slice none 0 0))) := ⟨(ba1 hB _).setCell (by show w.heap.size ≤ w.heap.size + 1; omega) _, (b0.alloc _).far (p := ⟨w.heap.size + 1, 4, none⟩) (by show w.heap.size ≠ w.heap.size + 1; omega) _, (b1.alloc _).set_ 4 _⟩
        have HZn : Hid (Blk ((wr.alloc (.cells (ints (zs k9)) 3)).setCell ⟨w.heap.size + 1, 4, none⟩ (.slice (some ⟨wr.heap.size, 0, none⟩) k9 k9)) wr.heap.size 3 (ints (zs k9))) := (Blk.new wr 3 _).far (p := ⟨w.heap.size + 1, 4, none⟩) hw1 _
        have HZ0 : Hid (Blk ((wr.alloc (.cells (ints (zs k9)) 3)).setCell ⟨w.heap.size + 1, 4, none⟩ (.slice (some ⟨wr.heap.size, 0, none⟩) k9 k9)) g0 3 (ints (zs k9))) := (hz0.alloc _).far (p := ⟨w.heap.size + 1, 4, none⟩) (by show g0 ≠ w.heap.size + 1; omega) _
        have HZ1 : Hid (Blk ((wr.alloc (.cells (ints (zs k9)) 3)).setCell ⟨w.heap.size + 1, 4, none⟩ (.slice (some ⟨wr.heap.size, 0, none⟩) k9 k9)) g1 3 (ints (zs k9))) := (hz1.alloc _).far (p := ⟨w.heap.size + 1, 4, none⟩) (by show g1 ≠ w.heap.size + 1; omega) _
        have k1 := b1.cell
        have k2 := b1.frozen
        have k3 := b1.lt
        have HA := Lib.hid k3
        clear e0 e1 e2 z0 z1 z2 hB b0 b1 HB hz0 hz1
        go_wp2
        go_roundw
        case rel =>
          first
            | exact ⟨3, _, _, _, by go_num, by omega, HQ.out.1, by simp [World.setCell]; omega, HQ.out.2.1, HQ.out.2.2, fun h => by omega, fun h => by omega, fun h => by omega, fun _ => ⟨g0, rfl, hg0, HZ0.out⟩, fun _ => ⟨g1, rfl, hg1, HZ1.out⟩, fun _ => ⟨wr.heap.size, rfl, hsz, HZn.out⟩⟩
            | (rw [← World.setCell_alloc_past _ _ _ _ HA.out]; exact ⟨3, _, _, _, by go_num, by omega, HQ.out.1, by simp [World.setCell]; omega, HQ.out.2.1, HQ.out.2.2, fun h => by omega, fun h => by omega, fun h => by omega, fun _ => ⟨g0, rfl, hg0, HZ0.out⟩, fun _ => ⟨g1, rfl, hg1, HZ1.out⟩, fun _ => ⟨wr.heap.size, rfl, hsz, HZn.out⟩⟩)
        case measure => simp [intOf]
    · obtain rfl : k = 3 := by omega
      obtain ⟨g0, rfl, hg0, hz0⟩ := z0 (by omega)
      obtain ⟨g1, rfl, hg1, hz1⟩ := z1 (by omega)
      obtain ⟨g2, rfl, hg2, hz2⟩ := z2 (by omega)
      have HZ := Lib.hid (And.intro hz0 (And.intro hz1 hz2))
      have k1 := b1.cell
      have k2 := b0.cell
      have k3 := b0.frozen
      have k4 := b0.lt
      clear e0 e1 e2 z0 z1 z2 hB b0 b1 hz0 hz1 hz2
      go_wp2
      refine bodyPost_ret (v := .agg (rc k9 0 (.slice (some ⟨g0, 0, none⟩) k9 k9) (.slice (some ⟨g1, 0, none⟩) k9 k9) (.slice (some ⟨g2, 0, none⟩) k9 k9) 1 2 false false 0 false false (.slice none 0 0) (.slice none 0 0))) (by simp [results, Tryd.results28, go_sem, k2, k4]) rfl ?_
      rw [HF.out]
      exact ⟨_, _, _, _, _, _, rfl, bel_only HB.out.1 (only14 _ _) (fun x hx => by rw [hx]; exact Nat.le_refl _), fun N hN => ⟨Zl.lf (w := w) ⟨g0, rfl, hg0, HZ.out.1⟩ (by omega) (only14 wr w.heap.size) hN, Zl.lf (w := w) ⟨g1, rfl, hg1, HZ.out.2.1⟩ (by omega) (only14 wr w.heap.size) hN, Zl.lf (w := w) ⟨g2, rfl, hg2, HZ.out.2.2⟩ (by omega) (only14 wr w.heap.size) hN⟩⟩
theorem rnew_any7 (n : Int) (w : World) : Calls Tryd.prog 28 #[.int .i64 n] w (NewP (fW n) w) := by
  by_cases h1 : n < 1
  · exact rnew1 n h1 w
  · by_cases h6 : 6 < n
    · exact rnew6 n h6 w
    · obtain ⟨k, rfl⟩ := Int.eq_ofNat_of_zero_le (show 0 ≤ n by omega)
      exact rnewk k (by omega) (by omega) w
end Go.Proofs.YtppmfmgmlicefabDoor.T3
