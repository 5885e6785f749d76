/- The document's own Into. -/
import Derived.Test.YtcaalecfideldaaDoorRPath
namespace Go.Proofs.YtcaalecfideldaaDoor.C04
open Go.RowKit Go.Proofs.YtcaalecfideldaaDoor.G

def RI (w : World) (cs : Array Value) (s : Int → Bool) (v i : Value) (W : World) : Prop := ∃ (k : Nat) (l : List Int), i = .int .i64 k ∧ k ≤ 4 ∧ l.length ≤ k ∧ l ++ sel s k (4 - k) = sel s 0 4 ∧ Below w.heap.size w W ∧ Blk W w.heap.size 26 cs ∧ Own W w.heap.size 3 1 v l.length (ivs l)
set_option maxHeartbeats 4000000 in
theorem rinto_any {w : World} {v : Value} {c : Cfg} (b : Int) (h : CfgAt w v c) : Calls Tryd.prog 21 #[v, .int .i64 b] w (IntoPost (intoV c b) w) := by
  have h0 := h
  obtain ⟨A1, A2, A3, c1, c2, c3, rfl, _⟩ := h
  have HC := Lib.hid h0
  have B0 := Blk.new w 26 #[.int .i64 c.P, .int .i64 c.F, .slice A1 c.ws.length c1, .slice A2 c.cs.length c2, .slice A3 c.ac.length c3]
  have HB := b01 w (.cells #[.int .i64 c.P, .int .i64 c.F, .slice A1 c.ws.length c1, .slice A2 c.cs.length c2, .slice A3 c.ac.length c3] 26)
  clear h0
  obtain ⟨s, hs⟩ : ∃ s : Int → Bool, (fun x => pathV c x b) = s := ⟨_, rfl⟩
  have HV : Hid (intoV c b = sel s 0 4) := by show intoV c b = sel s 0 4; rw [intoV, hs]
  have HS : Hid (∀ x, pathV c x b = s x) := fun x => by rw [← hs]
  clear hs
  obtain ⟨i0, hi, hz0, hz1, hz2⟩ := info_parts infoI
  go_enter Tryd.func21, Tryd.ntmps21
  go_wp2_with fail
  go_loopw [5, 6] (fun v i W => RI w #[.int .i64 c.P, .int .i64 c.F, .slice A1 c.ws.length c1, .slice A2 c.cs.length c2, .slice A3 c.ac.length c3] s v i W) (fun v i _ => 4 - (intOf i).toNat)
  case atStart => exact ⟨0, [], rfl, by omega, by simp, rfl, HB, B0, Own.nil_ _ _ _ _⟩
  case round =>
    clear HB B0
    obtain ⟨j, l, rfl, hj, hll, hl, HB, B0, hO⟩ := hrel
    have HL := Lib.hid hl
    clear hl
    obtain ⟨P3, p3, hv3⟩ := own_slice hO
    subst hv3
    have q0 := B0.cell
    by_cases hlt : j < 4
    · have hlt' : (j : Int) < 4 := by omega
      have HE1 : Hid (4 - j = (4 - (j + 1)) + 1) := by show 4 - j = _; omega
      obtain ⟨bj, hbj⟩ : ∃ bj, s (j : Int) = bj := ⟨_, rfl⟩
      have HBJ := Lib.hid hbj
      clear hbj
      go_upto_region 6 with (go_at_call 18; refine (rpath_any (j : Int) b (HC.out.below HB)).mono ?_; rintro e w1 ⟨rfl, hb⟩; rw [HS.out, HBJ.out]; have HB := bt HB hb; have B0 := B0.bel hb; have hO := hO.below hb)
      cases bj with
      | true =>
        have BA := B0.alloc (.cells #[.int .i64 j] 3)
        have OA := hO.alloc (.cells #[.int .i64 j] 3)
        have BL := ba1 HB (.cells #[.int .i64 j] 3)
        have hsz := BL.size
        go_wp2_with (at_builtin; refine wpList_app Tryd.underlying24 hi hz0 hz1 hz2 rfl (by omega) rfl _ _ rfl w.heap.size (.slice P3 l.length p3) l.length (ivs l) rfl OA (some ⟨w1.heap.size, 0, none⟩) 1 1 [.int .i64 j] rfl (Row.of_blk (Blk.new w1 3 _) (fun j u hj => by simpa using hj)) rfl (ivs_one [(j : Int)]) (by omega) (by omega) hsz ?_; intro v' w' hown hbl' hgrow hob; clear hob; obtain ⟨P4, p4, hv4⟩ := own_slice hown; subst hv4; have N2 := grown_blk BA hgrow (own_off OA BA (by decide)); have N1 := BL.trans hbl')
        go_roundw
        case rel => exact ⟨j + 1, l ++ [(j : Int)], by go_num, by omega, by simp; omega, by rw [← HL.out, HE1.out, sel, if_pos HBJ.out, List.append_assoc]; rfl, N1, N2, by rw [ivs_app, List.length_append]; exact hown⟩
        case measure => simp [intOf]; omega
      | false =>
        go_wp2_with fail
        go_roundw
        case rel => exact ⟨j + 1, l, by go_num, by omega, by omega, by rw [← HL.out, HE1.out, sel, if_neg (by rw [HBJ.out]; decide)], HB, B0, hO⟩
        case measure => simp [intOf]; omega
    · have hlt' : ¬ (j : Int) < 4 := by omega
      have el : l = sel s 0 4 := by
        have e := HL.out
        have e1 : 4 - j = 0 := by omega
        rw [e1, sel, List.append_nil] at e
        exact e
      go_wp2_with fail
      go_ret
      rw [HV.out, ← el]
      exact ⟨_, rfl, hO, HB⟩
end Go.Proofs.YtcaalecfideldaaDoor.C04
