/- Whom the router serves: the program's and the document's own: contracts. Condition of the program's: the library's variable errors.errorType holds what the program's text lays; at most a thousand channels. -/
import Derived.Test.YtmfkapbllmfegaaDoorWn9
namespace Go.Proofs.YtmfkapbllmfegaaDoor.W13
open Go.RowKit Go.Proofs.YtmfkapbllmfegaaDoor.G Go.Proofs.YtmfkapbllmfegaaDoor.C04 Go.Proofs.YtmfkapbllmfegaaDoor.Sat
set_option maxRecDepth 100000
theorem place_at {w : World} {A : Option Addr} {l : List Int} {bv : Int} {p : Int} (hb : 0 ≤ bv) (h : Row w A (ivs l)) (hl : 0 < l.length) (hp : l[(bv % (l.length : Int)).toNat]? = some p) : ∃ (b o j : Nat), A = some ⟨b, o, none⟩ ∧ b < w.heap.size ∧ bv % (l.length : Int) = (j : Int) ∧ j < l.length ∧ w.cell? ⟨b, o + j, none⟩ = some (.int .i64 p) := by
  have h1 : bv % (l.length : Int) < (l.length : Int) := Int.emod_lt_of_pos _ (by omega)
  have h0 : 0 ≤ bv % (l.length : Int) := Int.emod_nonneg _ (by omega)
  obtain ⟨j, hj⟩ := Int.eq_ofNat_of_zero_le h0
  obtain ⟨b, o, e, hlt, hc⟩ := row_int h hp
  rw [hj] at h1 hc
  exact ⟨b, o, j, e, hlt, hj, by omega, hc⟩
set_option maxHeartbeats 4000000 in
theorem serves_any {w : World} {v : Value} {c : Cfg} (hg : Et w) (h : CfgAt w v c) (hlen : c.cs.length ≤ 1000) (now : Int) : Calls Tryd.prog 19 #[v, .int .i64 now] w fun e w' => e = .returned (whoP (srvV c now)) ∧ Below w.heap.size w w' := by
  have h0 := h
  obtain ⟨A1, A2, A3, c1, c2, c3, rfl, h1, h2, h3, _⟩ := h
  clear h1 h2 h3
  have X0 := Blk.new w 26 #[.int .i64 c.P, .int .i64 c.F, .slice A1 c.ws.length c1, .slice A2 c.cs.length c2, .slice A3 c.ac.length c3]
  have hb0 := b01 w (.cells #[.int .i64 c.P, .int .i64 c.F, .slice A1 c.ws.length c1, .slice A2 c.cs.length c2, .slice A3 c.ac.length c3] 26)
  have HG := Lib.hid hg
  have HC := Lib.hid h0
  have CW : Hid (∀ V, Below w.heap.size w V → Calls Tryd.prog 15 #[.agg #[.int .i64 c.P, .int .i64 c.F, .slice A1 c.ws.length c1, .slice A2 c.cs.length c2, .slice A3 c.ac.length c3], .int .i64 now] V fun e w' => e = .returned (whoP (whoV c now)) ∧ Below V.heap.size V w') := fun V hV => whose_any (hg.below hV) (h0.below hV) now
  have CQ : Hid (∀ V, Below w.heap.size w V → Calls Tryd.prog 35 #[.agg #[.int .i64 c.P, .int .i64 c.F, .slice A1 c.ws.length c1, .slice A2 c.cs.length c2, .slice A3 c.ac.length c3]] V (PlPost c V)) := fun V hV => queuing_any (h0.below hV) hlen
  have CB : Hid (∀ V, Below w.heap.size w V → Calls Tryd.prog 14 #[.agg #[.int .i64 c.P, .int .i64 c.F, .slice A1 c.ws.length c1, .slice A2 c.cs.length c2, .slice A3 c.ac.length c3], .int .i64 (-1), .int .i64 now] V fun e w' => e = .returned (.int .i64 (befV c (-1) now)) ∧ Below V.heap.size V w') := fun V hV => before_any (hg.below hV) (h0.below hV) (-1) now
  have hple := plc_le 0 c.cs
  have hbv := bef_le c (-1) now
  have q0 := X0.cell
  obtain ⟨bv, hbv'⟩ : ∃ x, befV c (-1) now = x := ⟨_, rfl⟩
  rw [hbv'] at CB hbv
  have HBV := Lib.hid hbv'
  clear hg h0 hbv'
  rcases hw : whoV c now with _ | o
  · have HN := Lib.hid (srv_no (c := c) (now := now) (by rw [hw]; simp))
    rw [hw] at CW
    clear hw
    simp only [whoP] at CW
    go_enter Tryd.func19, Tryd.ntmps19
    go_wp2_with fail
    refine (CW.out _ hb0).mono ?_
    rintro e w1 ⟨rfl, hb1⟩
    have hB1 := bt hb0 hb1
    have q1 := (X0.bel hb1).cell
    clear q0
    go_wp2_with fail
    refine (CQ.out _ hB1).mono ?_
    rintro e w2 ⟨v2, rfl, hO, hb2⟩
    have hB2 := bt hB1 hb2
    clear q1
    go_wp2_with fail
    exact bodyPost_ret (v := .tuple #[.int .i64 0, .bool false]) (by simp [results, Tryd.results19, go_sem, *]) rfl ⟨by rw [HN.out]; rfl, hB2⟩
  · by_cases ho : o = -1
    · subst ho
      have HW := Lib.hid hw
      rw [hw] at CW
      clear hw
      simp only [whoP] at CW
      obtain ⟨L, hL⟩ : ∃ L, plc 0 c.cs = L := ⟨_, rfl⟩
      unfold PlPost at CQ
      rw [hL] at CQ hple
      have HL := Lib.hid hL
      clear hL
      by_cases hl : 0 < L.length
      · have HS : Hid (∃ p, L[(bv % (L.length : Int)).toNat]? = some p ∧ srvV c now = some p) := by
          have := srv_yes HW.out (by rw [HL.out]; exact hl)
          rw [HL.out, HBV.out] at this
          exact this
        obtain ⟨p, hp, hs⟩ := HS.out
        have HP := Lib.hid hp
        have HSV := Lib.hid hs
        have tl : ((L.length : Int) == 0) = false := by simp; intro h; rw [h] at hl; simp at hl
        clear hp hs HS
        go_enter Tryd.func19, Tryd.ntmps19
        go_wp2_with fail
        refine (CW.out _ hb0).mono ?_
        rintro e w1 ⟨rfl, hb1⟩
        have hB1 := bt hb0 hb1
        have X1 := X0.bel hb1
        have q1 := X1.cell
        clear q0
        go_wp2_with fail
        refine (CQ.out _ hB1).mono ?_
        rintro e w2 ⟨v2, rfl, hO, hb2⟩
        have hB2 := bt hB1 hb2
        have q2 := (X1.bel hb2).cell
        obtain ⟨P3, p3, rfl, hr3, hle3, hm3, hz3⟩ := hO.row
        clear hO hm3 hz3
        have HR := Lib.hid hr3
        clear q1 hr3
        go_wp2_with fail
        refine (CB.out _ hB2).mono ?_
        rintro e w3 ⟨rfl, hb3⟩
        have hB3 := bt hB2 hb3
        obtain ⟨b, o, j, rfl, hbl, hj, hjl, hc⟩ := place_at hbv.1 (HR.out.below hb3) hl HP.out
        clear q2
        go_wp2_with fail
        exact bodyPost_ret (v := .tuple #[.int .i64 p, .bool true]) (by simp [results, Tryd.results19, go_sem, *]) rfl ⟨by rw [HSV.out]; rfl, hB3⟩
      · have hl0 : L.length = 0 := by omega
        have HN := Lib.hid (srv_nil (c := c) (now := now) (by rw [HL.out]; exact List.eq_nil_of_length_eq_zero hl0))
        rw [hl0] at CQ
        clear hl hl0
        go_enter Tryd.func19, Tryd.ntmps19
        go_wp2_with fail
        refine (CW.out _ hb0).mono ?_
        rintro e w1 ⟨rfl, hb1⟩
        have hB1 := bt hb0 hb1
        have q1 := (X0.bel hb1).cell
        clear q0
        go_wp2_with fail
        refine (CQ.out _ hB1).mono ?_
        rintro e w2 ⟨v2, rfl, hO, hb2⟩
        have hB2 := bt hB1 hb2
        obtain ⟨P3, p3, rfl, hr3, hle3, hm3, hz3⟩ := hO.row
        clear hO hm3 hz3 hr3
        clear q1
        go_wp2_with fail
        exact bodyPost_ret (v := .tuple #[.int .i64 0, .bool false]) (by simp [results, Tryd.results19, go_sem, *]) rfl ⟨by rw [HN.out]; rfl, hB2⟩
    · have HN := Lib.hid (srv_no (c := c) (now := now) (by rw [hw]; simpa using ho))
      rw [hw] at CW
      have tno : (o != -1) = true := by simpa using ho
      clear hw ho
      simp only [whoP] at CW
      go_enter Tryd.func19, Tryd.ntmps19
      go_wp2_with fail
      refine (CW.out _ hb0).mono ?_
      rintro e w1 ⟨rfl, hb1⟩
      have hB1 := bt hb0 hb1
      have q1 := (X0.bel hb1).cell
      clear q0
      go_wp2_with fail
      refine (CQ.out _ hB1).mono ?_
      rintro e w2 ⟨v2, rfl, hO, hb2⟩
      have hB2 := bt hB1 hb2
      clear q1
      go_wp2_with fail
      exact bodyPost_ret (v := .tuple #[.int .i64 0, .bool false]) (by simp [results, Tryd.results19, go_sem, *]) rfl ⟨by rw [HN.out]; rfl, hB2⟩
end Go.Proofs.YtmfkapbllmfegaaDoor.W13
