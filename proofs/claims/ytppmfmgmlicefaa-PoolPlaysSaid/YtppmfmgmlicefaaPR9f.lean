/- The document's own pool: Give: contracts. -/
import Derived.Test.YtppmfmgmlicefaaPR9e
namespace Go.Proofs.Ytppmfmgmlicefaa.P9
open Go.RowKit Go.Proofs.Ytppmfmgmlicefaa.G
set_option maxRecDepth 100000
variable {w w' : World} {b n : Nat} {s : SS} {t : Nat → Int} {c : Int}
def RgPost (w : World) (n : Nat) (s : SS) (t : Nat → Int) (r : Int) (e : Ending) (w' : World) : Prop :=
  ∃ v, e = .returned (.tuple #[v, .int .i64 r]) ∧ Rf w' v n s t ∧ Below w.heap.size w w'
set_option maxHeartbeats 4000000 in
theorem rgive_out {A1 A2 A3 : Option Addr} {c1 c2 c3 : Nat} (h : RS w A1 A2 A3 n s t) (hn : n ≤ 64) (k v : Int) (hk : isIn n k = false) : Calls Try.prog 16 #[.agg #[.slice A1 n c1, .slice A2 n c2, .slice A3 n c3], .int .i64 k, .int .i64 v] w (RgPost w n s t 7) := by
  have HEnd : Hid (RS ((w.alloc (.cells #[.slice A1 n c1, .slice A2 n c2, .slice A3 n c3] 29)).alloc (.cells #[.slice A1 n c1, .slice A2 n c2, .slice A3 n c3] 29)) A1 A2 A3 n s t) := h.below (ba1 (b01 w _) _)
  rcases isIn_not hk with h1 | h1
  · clear hk h
    go_enter Try.func16, Try.ntmps16
    go_wp2_with fail
    exact bodyPost_ret (v := .tuple #[.agg #[.slice A1 n c1, .slice A2 n c2, .slice A3 n c3], .int .i64 7]) (by simp [results, Try.results16, go_sem]) rfl ⟨_, rfl, ⟨A1, A2, A3, c1, c2, c3, rfl, HEnd.out⟩, ba1 (b01 w _) _⟩
  · have h2 : 0 ≤ k := by omega
    have t0 : decide (k < 0) = false := decide_eq_false (by omega)
    have t1 : decide ((n : Int) ≤ k) = true := decide_eq_true h1
    clear hk h
    go_enter Try.func16, Try.ntmps16
    go_wp2_with fail
    exact bodyPost_ret (v := .tuple #[.agg #[.slice A1 n c1, .slice A2 n c2, .slice A3 n c3], .int .i64 7]) (by simp [results, Try.results16, go_sem]) rfl ⟨_, rfl, ⟨A1, A2, A3, c1, c2, c3, rfl, HEnd.out⟩, ba1 (b01 w _) _⟩
set_option maxHeartbeats 4000000 in
theorem rgive_free {A1 A2 A3 : Option Addr} {c1 c2 c3 : Nat} (h : RS w A1 A2 A3 n s t) (hn : n ≤ 64) (k : Nat) (v : Int) (hk : k < n) (hs : s k = none) : Calls Try.prog 16 #[.agg #[.slice A1 n c1, .slice A2 n c2, .slice A3 n c3], .int .i64 (k : Int), .int .i64 v] w (RgPost w n s t 11) := by
  have HEnd : Hid (RS ((w.alloc (.cells #[.slice A1 n c1, .slice A2 n c2, .slice A3 n c3] 29)).alloc (.cells #[.slice A1 n c1, .slice A2 n c2, .slice A3 n c3] 29)) A1 A2 A3 n s t) := h.below (ba1 (b01 w _) _)
  have HRS := h.below (ba1 (b01 w (.cells #[.slice A1 n c1, .slice A2 n c2, .slice A3 n c3] 29)) (.cells #[.slice none 0 0, .slice none 0 0, .slice none 0 0] 29))
  obtain ⟨bb, o, rfl, hbb, hc⟩ := row_at HRS.r1 (bl_at s hk)
  rw [hs, B1_none] at hc
  have f0 : (0 : Int) ≤ k := by omega
  have f1 : (k : Int) < n := by omega
  have t0 : decide ((k : Int) < 0) = false := decide_eq_false (by omega)
  have t1 : decide ((n : Int) ≤ (k : Int)) = false := decide_eq_false (by omega)
  have t2 : decide (n ≤ k) = false := decide_eq_false (by omega)
  clear hs HRS h hbb
  go_enter Try.func16, Try.ntmps16
  go_wp2_with fail
  exact bodyPost_ret (v := .tuple #[.agg #[.slice (some ⟨bb, o, none⟩) n c1, .slice A2 n c2, .slice A3 n c3], .int .i64 11]) (by simp [results, Try.results16, go_sem]) rfl ⟨_, rfl, ⟨_, A2, A3, c1, c2, c3, rfl, HEnd.out⟩, ba1 (b01 w _) _⟩
set_option maxHeartbeats 4000000 in
theorem rgive_other {A1 A2 A3 : Option Addr} {c1 c2 c3 : Nat} (h : RS w A1 A2 A3 n s t) (hn : n ≤ 64) (k : Nat) (v : Int) (hk : k < n) {x : Int} (hs : s k = some x) (hne : x ≠ v) : Calls Try.prog 16 #[.agg #[.slice A1 n c1, .slice A2 n c2, .slice A3 n c3], .int .i64 (k : Int), .int .i64 v] w (RgPost w n s t 2) := by
  have HEnd : Hid (RS ((w.alloc (.cells #[.slice A1 n c1, .slice A2 n c2, .slice A3 n c3] 29)).alloc (.cells #[.slice A1 n c1, .slice A2 n c2, .slice A3 n c3] 29)) A1 A2 A3 n s t) := h.below (ba1 (b01 w _) _)
  have HRS := h.below (ba1 (b01 w (.cells #[.slice A1 n c1, .slice A2 n c2, .slice A3 n c3] 29)) (.cells #[.slice none 0 0, .slice none 0 0, .slice none 0 0] 29))
  obtain ⟨bb, o, rfl, hbb, hc⟩ := row_at HRS.r1 (bl_at s hk)
  obtain ⟨bb2, o2, rfl, hbb2, hc2⟩ := row_at HRS.r2 (ol_at s hk)
  rw [hs, B1_some] at hc
  rw [hs, V1_some] at hc2
  have f0 : (0 : Int) ≤ k := by omega
  have f1 : (k : Int) < n := by omega
  have t0 : decide ((k : Int) < 0) = false := decide_eq_false (by omega)
  have t1 : decide ((n : Int) ≤ (k : Int)) = false := decide_eq_false (by omega)
  have t2 : decide (n ≤ k) = false := decide_eq_false (by omega)
  have t3 : (x != v) = true := by rw [bne_iff_ne]; exact hne
  clear hs HRS h hbb hbb2 hne
  go_enter Try.func16, Try.ntmps16
  go_wp2_with fail
  exact bodyPost_ret (v := .tuple #[.agg #[.slice (some ⟨bb, o, none⟩) n c1, .slice (some ⟨bb2, o2, none⟩) n c2, .slice A3 n c3], .int .i64 2]) (by simp [results, Try.results16, go_sem]) rfl ⟨_, rfl, ⟨_, _, A3, c1, c2, c3, rfl, HEnd.out⟩, ba1 (b01 w _) _⟩
set_option maxHeartbeats 4000000 in
theorem rgive_own {A1 A2 A3 : Option Addr} {c1 c2 c3 : Nat} (h : RS w A1 A2 A3 n s t) (hn : n ≤ 64) (k : Nat) (v : Int) (hk : k < n) (hs : s k = some v) : Calls Try.prog 16 #[.agg #[.slice A1 n c1, .slice A2 n c2, .slice A3 n c3], .int .i64 (k : Int), .int .i64 v] w (RgPost w n (upd s k none) t 0) := by
  obtain ⟨q0, q1, q2, q3⟩ := rs_two w #[.slice A1 n c1, .slice A2 n c2, .slice A3 n c3] #[.slice none 0 0, .slice none 0 0, .slice none 0 0] 29
  have HRS := Lib.hid (h.below q2)
  have HQ := Lib.hid (And.intro q0 (And.intro q1 q2))
  have HZ := Lib.hid q3
  obtain ⟨bb, o, rfl, hbb, hc⟩ := row_at HRS.out.r1 (bl_at s hk)
  obtain ⟨bb2, o2, rfl, hbb2, hc2⟩ := row_at HRS.out.r2 (ol_at s hk)
  have HS := Lib.hid hs
  rw [hs, B1_some] at hc
  rw [hs, V1_some] at hc2
  have f0 : (0 : Int) ≤ k := by omega
  have f1 : (k : Int) < n := by omega
  have t0 : decide ((k : Int) < 0) = false := decide_eq_false (by omega)
  have t1 : decide ((n : Int) ≤ (k : Int)) = false := decide_eq_false (by omega)
  have t2 : decide (n ≤ k) = false := decide_eq_false (by omega)
  have HOwn := Lib.hid (own_any (c1 := c1) (c2 := c2) (c3 := c3) HRS.out hn)
  clear hs h hbb hbb2 q0 q1 q2 q3
  go_enter Try.func16, Try.ntmps16
  go_wp2_with fail
  refine HOwn.out.mono ?_
  rintro e w3 ⟨B1', B2', B3', d1, d2, d3, rfl, ho, hb3⟩
  obtain ⟨g1, g2, g3, rfl, rfl, rfl, hts⟩ := ts_of (bt HQ.out.2.2 hb3) ho (by have := HZ.out; omega) hk (HQ.out.1.bel hb3) (HQ.out.2.1.bel hb3)
  have HTS := Lib.hid hts
  have k0 := (HQ.out.1.bel hb3).cell
  have f0 := (HQ.out.1.bel hb3).frozen
  clear hts ho hb3 HOwn hc hc2
  go_upto_region 8 with fail
  clear k0 f0
  generalize ((w3.setCell ⟨w.heap.size, 0, none⟩ (.slice (some ⟨g1, 0, none⟩) n d1)).setCell ⟨w.heap.size, 1, none⟩ (.slice (some ⟨g2, 0, none⟩) n d2)).setCell ⟨w.heap.size, 2, none⟩ (.slice (some ⟨g3, 0, none⟩) n d3) = V5 at *
  have HT6 := Lib.hid (HTS.out.set1 k (.bool (B1 none)))
  have kb := HTS.out.box.cell
  obtain ⟨kx, fx⟩ := own_cellf HTS.out.o1 (bl_at s hk)
  rw [bl_set, B1_none] at HT6
  go_upto_region 9 with fail
  clear kb kx fx HTS
  generalize V5.setCell ⟨g1, k, none⟩ (.bool false) = V6 at *
  have HT7 := Lib.hid (HT6.out.set2 k (.int .i64 (V1 none)))
  have kb := HT6.out.box.cell
  obtain ⟨kx, fx⟩ := own_cellf HT6.out.o2 (ol_at s hk)
  rw [ol_set, V1_none] at HT7
  go_upto_region 10 with fail
  clear kb kx fx HT6
  generalize V6.setCell ⟨g2, k, none⟩ (.int .i64 0) = V7 at *
  have kb := HT7.out.box.cell
  have kr := HT7.out.res.cell
  have fr := HT7.out.res.frozen
  have HE := Lib.hid (HT7.out.end_ (.slice (some ⟨g1, 0, none⟩) n d1) (.slice (some ⟨g2, 0, none⟩) n d2) (.slice (some ⟨g3, 0, none⟩) n d3))
  have ke := HE.out.2.2.cell
  go_wp2_with fail
  exact bodyPost_ret (v := .tuple #[.agg #[.slice (some ⟨g1, 0, none⟩) n d1, .slice (some ⟨g2, 0, none⟩) n d2, .slice (some ⟨g3, 0, none⟩) n d3], .int .i64 0]) (by simp [results, Try.results16, go_sem, ke]) rfl ⟨_, rfl, ⟨_, _, _, _, _, _, rfl, HE.out.1⟩, HE.out.2.1⟩
theorem rgive_any {A1 A2 A3 : Option Addr} {c1 c2 c3 : Nat} (h : RS w A1 A2 A3 n s t) (hn : n ≤ 64) (k v : Int) : Calls Try.prog 16 #[.agg #[.slice A1 n c1, .slice A2 n c2, .slice A3 n c3], .int .i64 k, .int .i64 v] w (RgPost w n (gst n s k v) t (gcode n s k v)) := by
  by_cases hi : 0 ≤ k ∧ k < n
  · obtain ⟨j, rfl⟩ := Int.eq_ofNat_of_zero_le hi.1
    have hj : j < n := by have := hi.2; omega
    have ej : ((j : Int)).toNat = j := by omega
    cases hs : s j with
    | none =>
      have eg : gcode n s (j : Int) v = 11 := by unfold gcode; rw [if_pos hi, ej, hs]
      have es : gst n s (j : Int) v = s := by unfold gst; rw [eg]; rfl
      rw [eg, es]; exact rgive_free h hn j v hj hs
    | some o =>
      by_cases ho : o = v
      · subst ho
        have eg : gcode n s (j : Int) o = 0 := by unfold gcode; rw [if_pos hi, ej, hs]; simp
        have es : gst n s (j : Int) o = upd s j none := by unfold gst; rw [eg, if_pos rfl, ej]
        rw [eg, es]; exact rgive_own h hn j o hj hs
      · have eg : gcode n s (j : Int) v = 2 := by unfold gcode; rw [if_pos hi, ej, hs]; simp [ho]
        have es : gst n s (j : Int) v = s := by unfold gst; rw [eg]; rfl
        rw [eg, es]; exact rgive_other h hn j v hj hs ho
  · have eg : gcode n s k v = 7 := by unfold gcode; rw [if_neg hi]
    have es : gst n s k v = s := by unfold gst; rw [eg]; rfl
    rw [eg, es]; exact rgive_out h hn k v (decide_eq_false hi)
end Go.Proofs.Ytppmfmgmlicefaa.P9
