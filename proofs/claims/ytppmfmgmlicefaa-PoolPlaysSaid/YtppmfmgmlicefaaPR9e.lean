/- The document's own pool: Take: contracts. -/
import Derived.Test.YtppmfmgmlicefaaPR9d
namespace Go.Proofs.Ytppmfmgmlicefaa.P9
open Go.RowKit Go.Proofs.Ytppmfmgmlicefaa.G
set_option maxRecDepth 100000
variable {w w' : World} {b n : Nat} {s : SS} {t : Nat → Int} {c : Int}
def RtPost (w : World) (n : Nat) (s : SS) (t : Nat → Int) (r1 r2 : Int) (e : Ending) (w' : World) : Prop :=
  ∃ v, e = .returned (.tuple #[v, .int .i64 r1, .int .i64 r2]) ∧ Rf w' v n s t ∧ Below w.heap.size w w'
def InvRT (w : World) (A1 A2 A3 : Option Addr) (c1 c2 c3 n m : Nat) (i : Value) (V : World) : Prop :=
  ∃ k : Nat, i = .int .i64 k ∧ k ≤ m ∧ V = (w.alloc (.cells #[.slice A1 n c1, .slice A2 n c2, .slice A3 n c3] 29)).alloc (.cells #[.slice none 0 0, .slice none 0 0, .slice none 0 0] 29)
theorem rs_two (w : World) (x y : Array Value) (ty : TypeId) : Blk ((w.alloc (.cells x ty)).alloc (.cells y ty)) w.heap.size ty x ∧ Blk ((w.alloc (.cells x ty)).alloc (.cells y ty)) (w.heap.size + 1) ty y ∧ Below w.heap.size w ((w.alloc (.cells x ty)).alloc (.cells y ty)) ∧ ((w.alloc (.cells x ty)).alloc (.cells y ty)).heap.size = w.heap.size + 1 + 1 := by
  have e1 : (w.alloc (.cells x ty)).heap.size = w.heap.size + 1 := by simp
  exact ⟨(Blk.new w _ _).alloc _, Blk.new_at e1 ty y, ba1 (b01 w _) _, by simp⟩
set_option maxHeartbeats 4000000 in
theorem rtake_full {A1 A2 A3 : Option Addr} {c1 c2 c3 : Nat} (h : RS w A1 A2 A3 n s t) (hn : n ≤ 64) (v : Int) (hf : Full n s) : Calls Try.prog 14 #[.agg #[.slice A1 n c1, .slice A2 n c2, .slice A3 n c3], .int .i64 v] w (RtPost w n s t (-1) 10) := by
  obtain ⟨q0, q1, q2, q3⟩ := rs_two w #[.slice A1 n c1, .slice A2 n c2, .slice A3 n c3] #[.slice none 0 0, .slice none 0 0, .slice none 0 0] 29
  have HRS := Lib.hid (h.below q2)
  have HQ := Lib.hid (And.intro q0 (And.intro q1 q2))
  have HF := Lib.hid hf
  have HR0 := Lib.hid h
  clear h hf q0 q1 q2 q3
  go_enter Try.func14, Try.ntmps14
  go_wp2_with fail
  go_loopw [7] (fun i V => InvRT w A1 A2 A3 c1 c2 c3 n n i V) (fun i _ => n - (intOf i).toNat)
  case atStart => exact ⟨0, rfl, by omega, rfl⟩
  case round =>
    obtain ⟨k, rfl, hk, rfl⟩ := hrel
    by_cases hlt : k < n
    · obtain ⟨bb, o, rfl, hbb, hc⟩ := row_at HRS.out.r1 (bl_at s hlt)
      have hz := HF.out k hlt
      obtain ⟨x, hx⟩ := Option.ne_none_iff_exists'.1 hz
      rw [hx, B1_some] at hc
      have f1 : (k : Int) < n := by omega
      clear hz hx
      go_wp2_with fail
      go_roundw
      case rel => exact ⟨k + 1, by go_num, by omega, rfl⟩
      case measure => simp [intOf]; omega
    · obtain rfl : k = n := by omega
      have k1 := HQ.out.2.1.cell
      have f1 := HQ.out.2.1.frozen
      have HEnd : Hid (RS ((w.alloc (.cells #[.slice A1 k c1, .slice A2 k c2, .slice A3 k c3] 29)).alloc (.cells #[.slice A1 k c1, .slice A2 k c2, .slice A3 k c3] 29)) A1 A2 A3 k s t) := HR0.out.below (ba1 (b01 w _) _)
      go_wp2_with fail
      exact bodyPost_ret (v := .tuple #[.agg #[.slice A1 k c1, .slice A2 k c2, .slice A3 k c3], .int .i64 (-1), .int .i64 10]) (by simp [results, Try.results14, go_sem]) rfl ⟨_, rfl, ⟨A1, A2, A3, c1, c2, c3, rfl, HEnd.out⟩, ba1 (b01 w _) _⟩
set_option maxHeartbeats 4000000 in
theorem rtake_low {A1 A2 A3 : Option Addr} {c1 c2 c3 : Nat} (h : RS w A1 A2 A3 n s t) (hn : n ≤ 64) (v : Int) {k : Nat} (hl : Low n s k) (t0 : 0 ≤ t k) (t1 : t k ≤ 1000000) : Calls Try.prog 14 #[.agg #[.slice A1 n c1, .slice A2 n c2, .slice A3 n c3], .int .i64 v] w (RtPost w n (upd s k (some v)) (upd t k (t k + 1)) k 0) := by
  obtain ⟨q0, q1, q2, q3⟩ := rs_two w #[.slice A1 n c1, .slice A2 n c2, .slice A3 n c3] #[.slice none 0 0, .slice none 0 0, .slice none 0 0] 29
  have HRS := Lib.hid (h.below q2)
  have HQ := Lib.hid (And.intro q0 (And.intro q1 q2))
  have HZ := Lib.hid q3
  have HL := Lib.hid hl
  have hkn := hl.1
  clear h hl q0 q1 q2 q3
  generalize htk : t k = tk at *
  have HTK := Lib.hid htk
  clear htk
  go_enter Try.func14, Try.ntmps14
  go_wp2_with fail
  go_loopw [7] (fun i V => InvRT w A1 A2 A3 c1 c2 c3 n k i V) (fun i _ => k - (intOf i).toNat)
  case atStart => exact ⟨0, rfl, by omega, rfl⟩
  case round =>
    obtain ⟨j, rfl, hj, rfl⟩ := hrel
    by_cases hlt : j < k
    · obtain ⟨bb, o, rfl, hbb, hc⟩ := row_at HRS.out.r1 (bl_at s (show j < n by omega))
      have hz := HL.out.2.2 j hlt
      obtain ⟨x, hx⟩ := Option.ne_none_iff_exists'.1 hz
      rw [hx, B1_some] at hc
      have f1 : (j : Int) < n := by omega
      clear hz hx
      go_wp2_with fail
      go_roundw
      case rel => exact ⟨j + 1, by go_num, by omega, rfl⟩
      case measure => simp [intOf]; omega
    · obtain rfl : j = k := by omega
      obtain ⟨bb, o, rfl, hbb, hc⟩ := row_at HRS.out.r1 (bl_at s hkn)
      rw [HL.out.2.1, B1_none] at hc
      have f1 : (j : Int) < n := by omega
      have HOwn := Lib.hid (own_any (c1 := c1) (c2 := c2) (c3 := c3) HRS.out hn)
      go_wp2_with fail
      refine HOwn.out.mono ?_
      rintro e w3 ⟨B1', B2', B3', d1, d2, d3, rfl, ho, hb3⟩
      obtain ⟨g1, g2, g3, rfl, rfl, rfl, hts⟩ := ts_of (bt HQ.out.2.2 hb3) ho (by have := HZ.out; omega) hkn (HQ.out.1.bel hb3) (HQ.out.2.1.bel hb3)
      have HTS := Lib.hid hts
      have k0 := (HQ.out.1.bel hb3).cell
      have f0 := (HQ.out.1.bel hb3).frozen
      clear hts ho hb3 HOwn hc hbb
      go_upto_region 6 with fail
      clear k0 f0
      generalize ((w3.setCell ⟨w.heap.size, 0, none⟩ (.slice (some ⟨g1, 0, none⟩) n d1)).setCell ⟨w.heap.size, 1, none⟩ (.slice (some ⟨g2, 0, none⟩) n d2)).setCell ⟨w.heap.size, 2, none⟩ (.slice (some ⟨g3, 0, none⟩) n d3) = V5 at *
      have HT6 := Lib.hid (HTS.out.set1 j (.bool (B1 (some v))))
      have kb := HTS.out.box.cell
      obtain ⟨kx, fx⟩ := own_cellf HTS.out.o1 (bl_at s hkn)
      rw [bl_set, B1_some] at HT6
      have f2 : (0 : Int) ≤ j := by omega
      go_upto_region 7 with fail
      clear kb kx fx HTS
      generalize V5.setCell ⟨g1, j, none⟩ (.bool true) = V6 at *
      have HT7 := Lib.hid (HT6.out.set2 j (.int .i64 (V1 (some v))))
      have kb := HT6.out.box.cell
      obtain ⟨kx, fx⟩ := own_cellf HT6.out.o2 (ol_at s hkn)
      rw [ol_set, V1_some] at HT7
      go_upto_region 8 with fail
      clear kb kx fx HT6
      generalize V6.setCell ⟨g2, j, none⟩ (.int .i64 v) = V7 at *
      have HT8 := Lib.hid (HT7.out.set3 j (.int .i64 (tk + 1)))
      have kb := HT7.out.box.cell
      obtain ⟨kx, fx⟩ := own_cellf HT7.out.o3 (tl_at t hkn)
      rw [HTK.out] at kx
      rw [tl_set] at HT8
      go_upto_region 9 with fail
      clear kb kx fx HT7
      generalize V7.setCell ⟨g3, j, none⟩ (.int .i64 (tk + 1)) = V8 at *
      have kb := HT8.out.box.cell
      have kr := HT8.out.res.cell
      have fr := HT8.out.res.frozen
      have HE := Lib.hid (HT8.out.end_ (.slice (some ⟨g1, 0, none⟩) n d1) (.slice (some ⟨g2, 0, none⟩) n d2) (.slice (some ⟨g3, 0, none⟩) n d3))
      have ke := HE.out.2.2.cell
      go_wp2_with fail
      exact bodyPost_ret (v := .tuple #[.agg #[.slice (some ⟨g1, 0, none⟩) n d1, .slice (some ⟨g2, 0, none⟩) n d2, .slice (some ⟨g3, 0, none⟩) n d3], .int .i64 (j : Int), .int .i64 0]) (by simp [results, Try.results14, go_sem, ke]) rfl ⟨_, rfl, ⟨_, _, _, _, _, _, rfl, HE.out.1⟩, HE.out.2.1⟩
end Go.Proofs.Ytppmfmgmlicefaa.P9
