/- The queuing channels' places, and whom the router serves: the program's and the document's own: contracts. Condition of the program's: the library's variable errors.errorType holds what the program's text lays; at most a thousand channels. -/
import Derived.Test.YtmfkapbllmfegaaDoorWn8
namespace Go.Proofs.YtmfkapbllmfegaaDoor.W13
open Go.RowKit Go.Proofs.YtmfkapbllmfegaaDoor.G Go.Proofs.YtmfkapbllmfegaaDoor.C04 Go.Proofs.YtmfkapbllmfegaaDoor.Sat
set_option maxRecDepth 100000

/-! ### Plain -/
def plc : Nat → List Chn → List Int
  | _, [] => []
  | i, x :: r => (if x.k = 1 then [(i : Int)] else []) ++ plc (i + 1) r
theorem plc_le : ∀ (i : Nat) (l : List Chn), (plc i l).length ≤ l.length
  | _, [] => Nat.le_refl _
  | i, x :: r => by
    have := plc_le (i + 1) r
    unfold plc
    rw [List.length_append, List.length_cons]
    split <;> simp <;> omega
theorem plc_app : ∀ (i : Nat) (a b : List Chn), plc i (a ++ b) = plc i a ++ plc (i + a.length) b
  | i, [], b => rfl
  | i, x :: r, b => by
    show _ ++ plc (i + 1) (r ++ b) = (_ ++ plc (i + 1) r) ++ _
    rw [plc_app (i + 1) r b, List.append_assoc, List.length_cons, show i + 1 + r.length = i + (r.length + 1) by omega]
theorem plc_step {l : List Chn} {k : Nat} {x : Chn} (h : l[k]? = some x) : plc 0 (l.take (k + 1)) = plc 0 (l.take k) ++ (if x.k = 1 then [(k : Int)] else []) := by
  have hk := (List.getElem?_eq_some_iff.1 h).1
  rw [List.take_add_one, h, plc_app, List.length_take, Nat.min_eq_left (by omega), Nat.zero_add]
  show _ ++ (_ ++ []) = _
  rw [List.append_nil]
def srvV (c : Cfg) (now : Int) : Option Int := if whoV c now = some (-1) then (plc 0 c.cs)[(befV c (-1) now % ((plc 0 c.cs).length : Int)).toNat]? else none
theorem srv_no {c : Cfg} {now : Int} (h : whoV c now ≠ some (-1)) : srvV c now = none := if_neg h
theorem srv_nil {c : Cfg} {now : Int} (h : plc 0 c.cs = []) : srvV c now = none := by
  unfold srvV
  rw [h]
  split <;> simp
theorem srv_yes {c : Cfg} {now : Int} (h : whoV c now = some (-1)) (hl : 0 < (plc 0 c.cs).length) : ∃ p, (plc 0 c.cs)[(befV c (-1) now % ((plc 0 c.cs).length : Int)).toNat]? = some p ∧ srvV c now = some p := by
  have hb := bef_le c (-1) now
  have h1 : befV c (-1) now % ((plc 0 c.cs).length : Int) < ((plc 0 c.cs).length : Int) := Int.emod_lt_of_pos _ (by omega)
  have h0 : 0 ≤ befV c (-1) now % ((plc 0 c.cs).length : Int) := Int.emod_nonneg _ (by omega)
  obtain ⟨j, hj⟩ : ∃ j, befV c (-1) now % ((plc 0 c.cs).length : Int) = j := ⟨_, rfl⟩
  rw [hj] at h0 h1
  unfold srvV
  rw [if_pos h, hj]
  exact ⟨_, List.getElem?_eq_getElem (by omega), List.getElem?_eq_getElem (by omega)⟩
/-! ### queuing -/
def PlPost (c : Cfg) (w : World) (e : Ending) (w' : World) : Prop := ∃ v, e = .returned v ∧ G.Own w' w.heap.size 3 1 v (plc 0 c.cs).length (ivs (plc 0 c.cs)) ∧ Below w.heap.size w w'
def InvQ (w : World) (c : Cfg) (v i : Value) (wr : World) : Prop := ∃ k : Nat, i = .int .i64 k ∧ k ≤ c.cs.length ∧ G.Own wr w.heap.size 3 1 v (plc 0 (c.cs.take k)).length (ivs (plc 0 (c.cs.take k))) ∧ Below w.heap.size w wr
set_option maxHeartbeats 4000000 in
theorem queuing_any {w : World} {v : Value} {c : Cfg} (h : CfgAt w v c) (hlen : c.cs.length ≤ 1000) : Calls Tryd.prog 35 #[v] w (PlPost c w) := by
  obtain ⟨A1, A2, A3, c1, c2, c3, rfl, h1, h2, h3, _⟩ := h
  clear h1 h3
  have hb0 := b01 w (.cells #[.int .i64 c.P, .int .i64 c.F, .slice A1 c.ws.length c1, .slice A2 c.cs.length c2, .slice A3 c.ac.length c3] 26)
  have q0 := (Blk.new w 26 #[.int .i64 c.P, .int .i64 c.F, .slice A1 c.ws.length c1, .slice A2 c.cs.length c2, .slice A3 c.ac.length c3]).cell
  have H2 := Lib.hid h2
  clear h2
  obtain ⟨i0, hi, hz0, hz1, hz2⟩ := info_parts infoI
  go_enter Tryd.func35, Tryd.ntmps35
  go_wp2_with fail
  go_loopw [3, 9] (fun v i wr => InvQ w c v i wr) (fun _ i _ => c.cs.length - (intOf i).toNat)
  case atStart => exact ⟨0, rfl, by omega, G.Own.nil_ _ _ _ _, hb0⟩
  case round =>
    clear q0 hb0
    obtain ⟨k, rfl, hk, hO, hb⟩ := hrel
    obtain ⟨P3, p3, hv3⟩ := own_slice hO
    subst hv3
    by_cases hlt : k < c.cs.length
    · obtain ⟨x, hx, _⟩ := drop_cons hlt
      obtain ⟨b4, o4, rfl, hbl, g0, g1, g2, g3, g4, g5, g6, g7, g8, g9, g10⟩ := row_chn (H2.out.below hb) hx
      have HP := Lib.hid (plc_step hx)
      clear hx
      have hbx := ba1 hb (.cells #[.int .i64 x.k, .int .i64 x.f, .int .i64 x.t, .int .i64 x.w, .int .i64 x.r, .int .i64 x.la, .int .i64 x.d, .int .i64 x.h, .int .i64 x.li, .int .i64 x.ra, .int .i64 x.c] 37)
      have qx := (Blk.new wr 37 #[.int .i64 x.k, .int .i64 x.f, .int .i64 x.t, .int .i64 x.w, .int .i64 x.r, .int .i64 x.la, .int .i64 x.d, .int .i64 x.h, .int .i64 x.li, .int .i64 x.ra, .int .i64 x.c]).cell
      have OX := hO.alloc (.cells #[.int .i64 x.k, .int .i64 x.f, .int .i64 x.t, .int .i64 x.w, .int .i64 x.r, .int .i64 x.la, .int .i64 x.d, .int .i64 x.h, .int .i64 x.li, .int .i64 x.ra, .int .i64 x.c] 37)
      by_cases hq : x.k = 1
      · have tq : (x.k == 1) = true := by simp [hq]
        have e := HP.out
        rw [if_pos hq] at e
        have HE := Lib.hid e
        clear e hq HP
        go_upto_region 6 with fail
        clear g0 g1 g2 g3 g4 g5 g6 g7 g8 g9 g10 qx hbl
        generalize wr.alloc (.cells #[.int .i64 x.k, .int .i64 x.f, .int .i64 x.t, .int .i64 x.w, .int .i64 x.r, .int .i64 x.la, .int .i64 x.d, .int .i64 x.h, .int .i64 x.li, .int .i64 x.ra, .int .i64 x.c] 37) = wx at *
        have OA := OX.alloc (.cells #[.int .i64 k] 3)
        have HBA := ba1 hbx (.cells #[.int .i64 k] 3)
        have hsz := HBA.size
        go_wp2_with (at_builtin; refine wpList_app Tryd.underlying24 hi hz0 hz1 hz2 rfl (by omega) rfl _ _ rfl w.heap.size (.slice P3 (plc 0 (c.cs.take k)).length p3) (plc 0 (c.cs.take k)).length (ivs (plc 0 (c.cs.take k))) rfl OA (some ⟨wx.heap.size, 0, none⟩) 1 1 [.int .i64 k] rfl (Row.of_blk (Blk.new wx 3 _) (fun j u hj => by simpa using hj)) rfl (ivs_one [(k : Int)]) (by have := plc_le 0 (c.cs.take k); rw [List.length_take] at this; omega) (by omega) hsz ?_; intro v' w' hown hbl' hgrow hob; clear hob; obtain ⟨P4, p4, hv4⟩ := own_slice hown; subst hv4; have N := HBA.trans hbl')
        go_roundw
        case rel => exact ⟨k + 1, by go_num, by omega, by rw [HE.out, ivs_app, List.length_append]; exact hown, N⟩
        case measure => simp [intOf]; omega
      · have tq : (x.k == 1) = false := by simp [hq]
        have e := HP.out
        rw [if_neg hq, List.append_nil] at e
        have HE := Lib.hid e
        clear e hq HP
        go_wp2_with fail
        go_roundw
        case rel => exact ⟨k + 1, by go_num, by omega, by rw [HE.out]; exact OX, hbx⟩
        case measure => simp [intOf]; omega
    · have hkl : c.cs.take k = c.cs := List.take_of_length_le (by omega)
      rw [hkl] at hO
      go_wp2_with fail
      go_ret
      rw [hkl]
      exact ⟨_, rfl, hO, hb⟩
end Go.Proofs.YtmfkapbllmfegaaDoor.W13
