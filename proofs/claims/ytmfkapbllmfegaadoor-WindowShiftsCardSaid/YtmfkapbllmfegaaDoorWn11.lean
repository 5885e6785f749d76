/- Whom the router serves, by the document's own: a contract. At most a thousand channels. -/
import Derived.Test.YtmfkapbllmfegaaDoorWn10
namespace Go.Proofs.YtmfkapbllmfegaaDoor.W13
open Go.RowKit Go.Proofs.YtmfkapbllmfegaaDoor.G Go.Proofs.YtmfkapbllmfegaaDoor.C04 Go.Proofs.YtmfkapbllmfegaaDoor.Sat
set_option maxRecDepth 100000
def InvQ2 (w : World) (c : Cfg) (cs : Array Value) (v i : Value) (wr : World) : Prop := InvQ w c v i wr ∧ Blk wr w.heap.size 26 cs
set_option maxHeartbeats 4000000 in
theorem rserves_any {w : World} {v : Value} {c : Cfg} (h : CfgAt w v c) (hlen : c.cs.length ≤ 1000) (now : Int) : Calls Tryd.prog 24 #[v, .int .i64 now] w fun e w' => e = .returned (whoP (srvV c now)) ∧ Below w.heap.size w w' := by
  have h0 := h
  obtain ⟨A1, A2, A3, c1, c2, c3, rfl, h1, h2, h3, _⟩ := h
  have H2 := Lib.hid h2
  clear h1 h2 h3
  have X0 := Blk.new w 26 #[.int .i64 c.P, .int .i64 c.F, .slice A1 c.ws.length c1, .slice A2 c.cs.length c2, .slice A3 c.ac.length c3]
  have hb0 := b01 w (.cells #[.int .i64 c.P, .int .i64 c.F, .slice A1 c.ws.length c1, .slice A2 c.cs.length c2, .slice A3 c.ac.length c3] 26)
  have HC := Lib.hid h0
  have CW : Hid (∀ V, Below w.heap.size w V → Calls Tryd.prog 23 #[.agg #[.int .i64 c.P, .int .i64 c.F, .slice A1 c.ws.length c1, .slice A2 c.cs.length c2, .slice A3 c.ac.length c3], .int .i64 now] V fun e w' => e = .returned (whoP (whoV c now)) ∧ Below V.heap.size V w') := fun V hV => rwhose_any (h0.below hV) now
  have CB : Hid (∀ V, Below w.heap.size w V → Calls Tryd.prog 26 #[.agg #[.int .i64 c.P, .int .i64 c.F, .slice A1 c.ws.length c1, .slice A2 c.cs.length c2, .slice A3 c.ac.length c3], .int .i64 (-1), .int .i64 now] V fun e w' => e = .returned (.int .i64 (befV c (-1) now)) ∧ Below V.heap.size V w') := fun V hV => rbefore_any (h0.below hV) (-1) now
  have hple := plc_le 0 c.cs
  have hbv := bef_le c (-1) now
  have q0 := X0.cell
  obtain ⟨bv, hbv'⟩ : ∃ x, befV c (-1) now = x := ⟨_, rfl⟩
  rw [hbv'] at CB hbv
  have HBV := Lib.hid hbv'
  clear h0 hbv'
  rcases hw : whoV c now with _ | o
  · have HN := Lib.hid (srv_no (c := c) (now := now) (by rw [hw]; simp))
    rw [hw] at CW
    clear hw
    simp only [whoP] at CW
    go_enter Tryd.func24, Tryd.ntmps24
    go_wp2_with fail
    refine (CW.out _ hb0).mono ?_
    rintro e w1 ⟨rfl, hb1⟩
    have hB1 := bt hb0 hb1
    clear q0
    go_wp2_with fail
    exact bodyPost_ret (v := .tuple #[.int .i64 0, .bool false]) (by simp [results, Tryd.results24, go_sem, *]) rfl ⟨by rw [HN.out]; rfl, hB1⟩
  · by_cases ho : o = -1
    · subst ho
      have HW := Lib.hid hw
      rw [hw] at CW
      clear hw
      simp only [whoP] at CW
      obtain ⟨i0, hi, hz0, hz1, hz2⟩ := info_parts infoI
      go_enter Tryd.func24, Tryd.ntmps24
      go_wp2_with fail
      refine (CW.out _ hb0).mono ?_
      rintro e w1 ⟨rfl, hb1⟩
      have hB1 := bt hb0 hb1
      have X1 := X0.bel hb1
      clear q0 X0 hb0
      go_wp2_with fail
      go_loopw [8, 9] (fun v i wr => InvQ2 w c #[.int .i64 c.P, .int .i64 c.F, .slice A1 c.ws.length c1, .slice A2 c.cs.length c2, .slice A3 c.ac.length c3] v i wr) (fun _ i _ => c.cs.length - (intOf i).toNat)
      case atStart => exact ⟨⟨0, rfl, by omega, G.Own.nil_ _ _ _ _, hB1⟩, X1⟩
      case round =>
        clear X1 hB1 hb1
        obtain ⟨⟨k, rfl, hk, hO, hb⟩, hX⟩ := hrel
        obtain ⟨P3, p3, hv3⟩ := own_slice hO
        subst hv3
        have q0 := hX.cell
        by_cases hlt : k < c.cs.length
        · obtain ⟨x, hx, _⟩ := drop_cons hlt
          obtain ⟨b4, o4, rfl, hbl, g0, g1, g2, g3, g4, g5, g6, g7, g8, g9, g10⟩ := row_chn (H2.out.below hb) hx
          have HP := Lib.hid (plc_step hx)
          clear hx g1 g2 g3 g4 g5 g6 g7 g8 g9 g10
          by_cases hq : x.k = 1
          · have tq : (x.k == 1) = true := by simp [hq]
            have e := HP.out
            rw [if_pos hq] at e
            have HE := Lib.hid e
            clear e hq HP
            have OA := hO.alloc (.cells #[.int .i64 k] 3)
            have XA := hX.alloc (.cells #[.int .i64 k] 3)
            have HBA := ba1 hb (.cells #[.int .i64 k] 3)
            have hsz := HBA.size
            go_wp2_with (at_builtin; refine wpList_app Tryd.underlying24 hi hz0 hz1 hz2 rfl (by omega) rfl _ _ rfl w.heap.size (.slice P3 (plc 0 (c.cs.take k)).length p3) (plc 0 (c.cs.take k)).length (ivs (plc 0 (c.cs.take k))) rfl OA (some ⟨wr.heap.size, 0, none⟩) 1 1 [.int .i64 k] rfl (Row.of_blk (Blk.new wr 3 _) (fun j u hj => by simpa using hj)) rfl (ivs_one [(k : Int)]) (by have := plc_le 0 (c.cs.take k); rw [List.length_take] at this; omega) (by omega) hsz ?_; intro v' w' hown hbl' hgrow hob; clear hob; obtain ⟨P4, p4, hv4⟩ := own_slice hown; subst hv4; have N := HBA.trans hbl'; have XN := grown_blk XA hgrow (own_off OA XA (by decide)))
            go_roundw
            case rel => exact ⟨⟨k + 1, by go_num, by omega, by rw [HE.out, ivs_app, List.length_append]; exact hown, N⟩, XN⟩
            case measure => simp [intOf]; omega
          · have tq : (x.k == 1) = false := by simp [hq]
            have e := HP.out
            rw [if_neg hq, List.append_nil] at e
            have HE := Lib.hid e
            clear e hq HP
            go_wp2_with fail
            go_roundw
            case rel => exact ⟨⟨k + 1, by go_num, by omega, by rw [HE.out]; exact hO, hb⟩, hX⟩
            case measure => simp [intOf]; omega
        · have hkl : c.cs.take k = c.cs := List.take_of_length_le (by omega)
          rw [hkl] at hO
          rw [hkl]
          obtain ⟨L, hL⟩ : ∃ L, plc 0 c.cs = L := ⟨_, rfl⟩
          rw [hL] at hO hple
          rw [hL]
          have HL := Lib.hid hL
          clear hL hkl
          obtain ⟨P4, p4, e4, hr3, hle3, hm3, hz3⟩ := hO.row
          injection e4 with e4 _ e5
          subst e4 e5
          have HR := Lib.hid hr3
          clear hO hm3 hz3 hr3
          by_cases hl : 0 < L.length
          · have HS : Hid (∃ p, L[(bv % (L.length : Int)).toNat]? = some p ∧ srvV c now = some p) := by
              have := srv_yes HW.out (by rw [HL.out]; exact hl)
              rw [HL.out, HBV.out] at this
              exact this
            obtain ⟨p, hp, hs⟩ := HS.out
            have HP := Lib.hid hp
            have HSV := Lib.hid hs
            have tl : ((L.length : Int) == 0) = false := by simp; intro h; rw [h] at hl; simp at hl
            clear hp hs HS
            go_wp2_with fail
            refine (CB.out _ hb).mono ?_
            rintro e w3 ⟨rfl, hb3⟩
            have hB3 := bt hb hb3
            obtain ⟨b, o, j, rfl, hbl, hj, hjl, hc⟩ := place_at hbv.1 (HR.out.below hb3) hl HP.out
            clear q0
            go_wp2_with fail
            exact bodyPost_ret (v := .tuple #[.int .i64 p, .bool true]) (by simp [results, Tryd.results24, go_sem, *]) rfl ⟨by rw [HSV.out]; rfl, hB3⟩
          · have hl0 : L.length = 0 := by omega
            have HN := Lib.hid (srv_nil (c := c) (now := now) (by rw [HL.out]; exact List.eq_nil_of_length_eq_zero hl0))
            have tl : ((L.length : Int) == 0) = true := by simp [hl0]
            clear hl hl0
            go_wp2_with fail
            exact bodyPost_ret (v := .tuple #[.int .i64 0, .bool false]) (by simp [results, Tryd.results24, go_sem, *]) rfl ⟨by rw [HN.out]; rfl, hb⟩
    · have HN := Lib.hid (srv_no (c := c) (now := now) (by rw [hw]; simpa using ho))
      rw [hw] at CW
      have tno : (o != -1) = true := by simpa using ho
      clear hw ho
      simp only [whoP] at CW
      go_enter Tryd.func24, Tryd.ntmps24
      go_wp2_with fail
      refine (CW.out _ hb0).mono ?_
      rintro e w1 ⟨rfl, hb1⟩
      have hB1 := bt hb0 hb1
      clear q0
      go_wp2_with fail
      exact bodyPost_ret (v := .tuple #[.int .i64 0, .bool false]) (by simp [results, Tryd.results24, go_sem, *]) rfl ⟨by rw [HN.out]; rfl, hB1⟩
end Go.Proofs.YtmfkapbllmfegaaDoor.W13
