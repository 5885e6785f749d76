/- The document's own pool: Of, Free: contracts. -/
import Derived.Test.YtppmfmgmlicefaaPR9b
namespace Go.Proofs.Ytppmfmgmlicefaa.P9
open Go.RowKit Go.Proofs.Ytppmfmgmlicefaa.G
set_option maxRecDepth 100000
variable {w w' : World} {b n : Nat} {s : SS} {t : Nat → Int} {c : Int}
def InvRF (w : World) (A1 A2 A3 : Option Addr) (c1 c2 c3 n : Nat) (s : SS) (t : Nat → Int) (m i : Value) (V : World) : Prop :=
  ∃ k : Nat, i = .int .i64 k ∧ m = .int .i64 ((all k s none).length : Nat) ∧ k ≤ n ∧ RS V A1 A2 A3 n s t ∧ Blk V w.heap.size 29 #[.slice A1 n c1, .slice A2 n c2, .slice A3 n c3] ∧ Below w.heap.size w V
set_option maxHeartbeats 2000000 in
theorem rfree_any {A1 A2 A3 : Option Addr} {c1 c2 c3 : Nat} (h : RS w A1 A2 A3 n s t) (hn : n ≤ 64) : Calls Try.prog 21 #[.agg #[.slice A1 n c1, .slice A2 n c2, .slice A3 n c3]] w (IPost w (all n s none).length) := by
  have W1 := b01 w (.cells #[.slice A1 n c1, .slice A2 n c2, .slice A3 n c3] 29)
  have HRS := Lib.hid (h.below W1)
  have HX := Lib.hid (Blk.new w 29 #[.slice A1 n c1, .slice A2 n c2, .slice A3 n c3])
  have HW := Lib.hid W1
  clear W1 h
  go_enter Try.func21, Try.ntmps21
  go_wp2_with fail
  go_loopw [3, 4] (fun m i V => InvRF w A1 A2 A3 c1 c2 c3 n s t m i V) (fun _ i _ => n - (intOf i).toNat)
  case atStart => exact ⟨0, rfl, rfl, by omega, HRS.out, HX.out, HW.out⟩
  case round =>
    obtain ⟨k, rfl, rfl, hk, hr, hx, hb⟩ := hrel
    have HR2 := Lib.hid hr
    have HX2 := Lib.hid hx
    have HB2 := Lib.hid hb
    have g0 := hx.cell 0
    simp only [List.getElem?_toArray, List.getElem?_cons_zero] at g0
    clear HRS HX HW hr hx hb
    have hal := all_len k s none
    by_cases hlt : k < n
    · obtain ⟨bb, o, rfl, hbb, hc⟩ := row_at HR2.out.r1 (bl_at s hlt)
      have f1 : (k : Int) < n := by omega
      cases hz : s k with
      | none =>
        have HL : Hid ((all (k + 1) s none).length = (all k s none).length + 1) := by show (all (k + 1) s none).length = _; rw [all_yes hz, List.length_append]; rfl
        rw [hz, B1_none] at hc
        clear hz
        generalize (all k s none).length = m at *
        go_wp2_with fail
        go_roundw
        case rel => exact ⟨k + 1, by go_num, by rw [HL.out]; go_num, by omega, HR2.out, HX2.out, HB2.out⟩
        case measure => simp [intOf]; omega
      | some v =>
        have HL : Hid ((all (k + 1) s none).length = (all k s none).length) := by show (all (k + 1) s none).length = _; rw [all_no (by rw [hz]; simp)]
        rw [hz, B1_some] at hc
        clear hz
        generalize (all k s none).length = m at *
        go_wp2_with fail
        go_roundw
        case rel => exact ⟨k + 1, by go_num, by rw [HL.out], by omega, HR2.out, HX2.out, HB2.out⟩
        case measure => simp [intOf]; omega
    · obtain rfl : k = n := by omega
      go_wp2_with fail
      go_ret
      exact ⟨rfl, HB2.out⟩
def InvRO (w : World) (A1 A2 A3 : Option Addr) (c1 c2 c3 n : Nat) (s : SS) (v : Int) (l i : Value) (V : World) : Prop :=
  ∃ k : Nat, i = .int .i64 k ∧ k ≤ n ∧ Lst V w.heap.size l (all k s (some v)) ∧ Blk V w.heap.size 29 #[.slice A1 n c1, .slice A2 n c2, .slice A3 n c3] ∧ Below w.heap.size w V
set_option maxHeartbeats 2000000 in
theorem rof_any {A1 A2 A3 : Option Addr} {c1 c2 c3 : Nat} (h : RS w A1 A2 A3 n s t) (hn : n ≤ 64) (v : Int) : Calls Try.prog 25 #[.agg #[.slice A1 n c1, .slice A2 n c2, .slice A3 n c3], .int .i64 v] w (LstPost w (all n s (some v))) := by
  obtain ⟨i0, hi, hz0, hz1, hz2⟩ := info_parts info3
  have HRS := Lib.hid h
  have HX := Lib.hid (Blk.new w 29 #[.slice A1 n c1, .slice A2 n c2, .slice A3 n c3])
  have HW := Lib.hid (b01 w (.cells #[.slice A1 n c1, .slice A2 n c2, .slice A3 n c3] 29))
  clear h
  go_enter Try.func25, Try.ntmps25
  go_wp2_with fail
  go_loopw [5, 6] (fun l i V => InvRO w A1 A2 A3 c1 c2 c3 n s v l i V) (fun _ i _ => n - (intOf i).toNat)
  case atStart => exact ⟨0, rfl, by omega, Own.nil_ _ _ _ _, HX.out, HW.out⟩
  case round =>
    obtain ⟨k, rfl, hk, hl, hx, hb⟩ := hrel
    obtain ⟨A7, c7, rfl, hq⟩ := Own.row hl
    clear hq
    have HL := Lib.hid hl
    have HX2 := Lib.hid hx
    have HB2 := Lib.hid hb
    have HR2 := Lib.hid (HRS.out.below hb)
    have g0 := hx.cell 0
    have g1 := hx.cell 1
    simp only [List.getElem?_toArray, List.getElem?_cons_zero, List.getElem?_cons_succ] at g0 g1
    clear HX HW hl hx hb
    have hal := all_len k s (some v)
    by_cases hlt : k < n
    · obtain ⟨bb, o, rfl, hbb, hc⟩ := row_at HR2.out.r1 (bl_at s hlt)
      obtain ⟨bb2, o2, rfl, hbb2, hc2⟩ := row_at HR2.out.r2 (ol_at s hlt)
      have f1 : (k : Int) < n := by omega
      by_cases hz : s k = some v
      · have HAll := Lib.hid (all_yes hz)
        rw [hz, B1_some] at hc
        rw [hz, V1_some] at hc2
        have N1 := b01 wr (.cells #[.int .i64 (k : Int)] 3)
        have HO := Lib.hid (Own.below HL.out N1)
        have HX4 := Lib.hid (HX2.out.bel N1)
        have HB4 := Lib.hid (bt HB2.out N1)
        have hs3 : w.heap.size ≤ (wr.alloc (.cells #[.int .i64 (k : Int)] 3)).heap.size := HB4.out.size
        have HRow : Hid (Row (wr.alloc (.cells #[.int .i64 (k : Int)] 3)) (some ⟨wr.heap.size, 0, none⟩) [.int .i64 (k : Int)]) := Row.of_blk (Blk.new wr 3 _) fun j u hj => by simpa using hj
        clear hz N1 HL HX2 HB2
        go_wp2_with (at_builtin; go_must (refine wpList_app Try.underlying27 hi hz0 hz1 hz2 rfl (by omega) rfl (.tmp 28) (.tmp 30) rfl w.heap.size (.slice A7 (all k s (some v)).length c7) (all k s (some v)).length (iv (all k s (some v))) rfl HO.out (some ⟨wr.heap.size, 0, none⟩) 1 1 _ rfl HRow.out rfl (iv_one [(k : Int)]) (by omega) (by omega) hs3 ?_); intro v' w5 ho5 hb5 hg5 hob5; clear hob5)
        go_roundw
        case rel =>
          refine ⟨k + 1, by go_num, by omega, ?_, blk_grown HX4.out hg5 (own_ne HO.out HX4.out (by decide)), HB4.out.trans hb5⟩
          rw [HAll.out]; unfold Lst; rw [iv_snoc, List.length_append]; exact ho5
        case measure => simp [intOf]; omega
      · have HAll := Lib.hid (all_no hz)
        cases hs : s k with
        | none =>
          rw [hs, B1_none] at hc
          clear hz hs hc2
          go_wp2_with fail
          go_roundw
          case rel => exact ⟨k + 1, by go_num, by omega, by rw [HAll.out]; exact HL.out, HX2.out, HB2.out⟩
          case measure => simp [intOf]; omega
        | some x =>
          have t1 : (x == v) = false := by rw [beq_eq_false_iff_ne]; intro e; exact hz (by rw [hs, e])
          rw [hs, B1_some] at hc
          rw [hs, V1_some] at hc2
          clear hz hs
          go_wp2_with fail
          go_roundw
          case rel => exact ⟨k + 1, by go_num, by omega, by rw [HAll.out]; exact HL.out, HX2.out, HB2.out⟩
          case measure => simp [intOf]; omega
    · obtain rfl : k = n := by omega
      go_wp2_with fail
      go_ret
      exact ⟨_, rfl, HL.out, HB2.out⟩
end Go.Proofs.Ytppmfmgmlicefaa.P9
