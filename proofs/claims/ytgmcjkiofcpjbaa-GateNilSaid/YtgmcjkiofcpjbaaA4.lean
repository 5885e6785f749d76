/- A gate: Offer, whatever it answers: a contract. -/
import Derived.Test.YtgmcjkiofcpjbaaA3
namespace Go.Proofs.Ytgmcjkiofcpjbaa.A12
open Go.RowKit Go.Proofs.Ytgmcjkiofcpjbaa.G Go.Proofs.Ytgmcjkiofcpjbaa.L10 Go.Proofs.Ytgmcjkiofcpjbaa.C04
set_option maxRecDepth 100000
variable {w0 w00 w w' : World} {g : Nat} {a : Ga} {s : Gs}
/-- Its bucket is asked. -/
def asks (a : Ga) (s : Gs) (mode lane : Int) (ws : List Int) : Bool := decide (jdg a.k mode lane ws = 0 ∧ room a.L a.P s.d lane ≠ 0)
/-- What an Offer answers. -/
def oc (a : Ga) (s : Gs) (mode lane : Int) (ws : List Int) (r : Int) : Int := if jdg a.k mode lane ws ≠ 0 then jdg a.k mode lane ws else if room a.L a.P s.d lane = 0 then 2 else if K11.ctok a.R a.C s.T s.N r = 0 then 2 else 0
/-- What an Offer leaves. -/
structure OfW (w0 w : World) (g : Nat) (a : Ga) (s : Gs) (M : Pm) (code : Int) (ask : Bool) (T1 N1 : Int) (m' : MV) (s' : Gs) (w' : World) : Prop where
  gt : Gt w0 w' g a s'
  wo : Wo w' 0 m'
  mp : m'.pl = if code = 0 then M else z0.pl
  dp : s'.d.map MV.pl = if code = 0 then insP (s.d.map MV.pl) M else s.d.map MV.pl
  q : s'.q = if code = 0 then s.q + 1 else s.q
  T : s'.T = if ask = true then K11.less T1 else s.T
  N : s'.N = if ask = true then N1 else s.N
  on : Only (FG g a s.r) w w'
  nw : Nw w.heap.size s.r s'.r
def OfP (w0 w : World) (g : Nat) (a : Ga) (s : Gs) (M : Pm) (code : Int) (ask : Bool) (T1 N1 : Int) (e : Ending) (w' : World) : Prop := ∃ m' s', e = .returned (.tuple #[m'.val, .int .i64 code]) ∧ OfW w0 w g a s M code ask T1 N1 m' s' w'
theorem pcode_of {L P : Nat} {d : List MV} {l : Int} (h : room L P d l ≠ 0) (hs : cnt d l ≤ P) : pcode L P d l = 0 := by
  unfold room at h
  unfold pcode
  split at h
  · rename_i h1
    rw [if_pos h1, if_pos (by omega)]
  · exact absurd rfl h
/-- Refused: the box of the answer alone has turned. -/
theorem of_no {W V : World} {M : Pm} {code : Int} {ask : Bool} {T1 N1 : Int} {s1 : Gs} {cs : Array Value} {kx : Nat} (hW : W.heap.size = kx) (hg : w0.heap.size ≤ W.heap.size) (h : Gt w0 V g a s1) (hb : Blk V kx 43 cs) (hr : s.r = s1.r) (hd : s.d = s1.d) (hq : s.q = s1.q) (hx : s.r.ownBlock ≠ some kx) (hc : code ≠ 0) (hT : s1.T = if ask = true then K11.less T1 else s.T) (hN : s1.N = if ask = true then N1 else s.N) (hO : Only (FG g a s.r) W V) (u0 u1 u2 u3 u4 : Value) :
    OfW w0 W g a s M code ask T1 N1 z0 s1 (((((V.setCell ⟨kx, 0, none⟩ u0).setCell ⟨kx, 1, none⟩ u1).setCell ⟨kx, 2, none⟩ u2).setCell ⟨kx, 3, none⟩ u3).setCell ⟨kx, 4, none⟩ u4) :=
  ⟨h.box hb (by rw [← hr]; exact hx) (by omega) (only5 (Only.refl (fun k => k = kx) V) (.inl rfl) u0 u1 u2 u3 u4), Own.nil_ _ _ _ _, by rw [if_neg hc], by rw [if_neg hc, hd], by rw [if_neg hc, hq], hT, hN, hO.trans ((only5 (Only.refl (fun k => k = kx) V) (.inl rfl) u0 u1 u2 u3 u4).mono fun k hk => .inr (by have e : k = kx := hk; omega)), .inl (by rw [hr])⟩
theorem of_yes {W V2 V : World} {M : Pm} {T1 N1 : Int} {s1 : Gs} {cs : Array Value} {kx : Nat} {m' : MV} {r' : Value} {d' : List MV} (hW : W.heap.size = kx) (hg : w0.heap.size ≤ W.heap.size) (h : LtW w0 V2 g a s1 M m' r' d' V) (hb : Blk V kx 43 cs) (hV : kx < V2.heap.size) (hr : s.r = s1.r) (hd : s.d = s1.d) (hq : s.q = s1.q) (hx : s.r.ownBlock ≠ some kx) (hT : s1.T = K11.less T1) (hN : s1.N = N1) (hO : Only (FG g a s.r) W V2) (u0 u1 u2 u3 u4 : Value) :
    OfW w0 W g a s M 0 true T1 N1 m' ⟨r', d', s1.T, s1.N, s1.q + 1⟩ (((((V.setCell ⟨kx, 0, none⟩ u0).setCell ⟨kx, 1, none⟩ u1).setCell ⟨kx, 2, none⟩ u2).setCell ⟨kx, 3, none⟩ u3).setCell ⟨kx, 4, none⟩ u4) := by
  have ho := only5 (Only.refl (fun k => k = kx) V) (.inl rfl) u0 u1 u2 u3 u4
  refine ⟨h.gt.box hb (fun e => ?_) (by omega) ho, (h.wo.less (Nat.zero_le _)).only ho fun k cs hk e => hk.ne_ hb (by decide) e, by rw [if_pos rfl]; exact h.pl, by rw [if_pos rfl, hd]; exact h.dp, by rw [if_pos rfl, hq], by rw [if_pos rfl]; exact hT, by rw [if_pos rfl]; exact hN, (hO.trans_ (by rw [hr]; exact h.on)).trans (ho.mono fun k hk => .inr (by have e : k = kx := hk; omega)), ?_⟩
  · rcases h.nw with n | n
    · exact hx (by rw [hr, ← n]; exact e)
    · have := n kx e; omega
  · rcases h.nw with n | n
    · exact .inl (by rw [hr]; exact n)
    · exact .inr fun k hk => by have := n k hk; omega
set_option maxHeartbeats 4000000 in
theorem offer_any (h : Gt w0 w g a s) {A : Option Addr} {ws : List Int} {c : Nat} (mode lane now r : Int) (hr : Ap w g a s.r A (L10.iv ws)) (hc : ws.length ≤ c) (hc2 : c ≤ 9223372036854775807) (hl : ws.length ≤ 1000) (hq0 : 0 ≤ s.q) (hq : s.q ≤ 1000000) :
    Calls Try.prog 18 #[.pointer (some ⟨g, 0, none⟩), .int .i64 mode, .int .i64 lane, .slice A ws.length c, .int .i64 now, .int .i64 r] w (OfP w0 w g a s (pm a ws lane now (s.q + 1)) (oc a s mode lane ws r) (asks a s mode lane ws) (K11.ctok a.R a.C s.T s.N r) (K11.crnd s.N r)) := by
  have b0 := b01 w (.cells zC 43)
  have h0 := h.below b0
  have N0 := Blk.new w 43 zC
  have HH := Lib.hid h0
  have HN := Lib.hid N0
  have HJ := Lib.hid (judge_any (c := c) (w := w.alloc (.cells zC 43)) a.k mode lane (hr.below b0).row hl)
  have HW := Lib.hid (show w0.heap.size ≤ w.heap.size from h.bl.size)
  have HX : Hid (s.r.ownBlock ≠ some w.heap.size) := fun e => by have := h.rlt e; omega
  have HF := Lib.hid (h.nofl (Nat.le_refl _))
  have HRo := Lib.hid (fun V (hV : Gt w0 V g a s) => room_any hV.lv.ln lane hV.st.p8 (by have := hV.len; omega))
  have HTk := Lib.hid (fun V (hV : Gt w0 V g a s) => K11.take_any hV.bk r)
  have HLe := Lib.hid (fun V s1 (hV : Gt w0 V g a s1) (hA : Ap V g a s1.r A (L10.iv ws)) (h0 : 0 ≤ s1.q) (h1 : s1.q ≤ 1000000) (h2 : pcode a.L a.P s1.d lane = 0) => let_any hV (c := c) now hA hc hc2 hl h0 h1 h2)
  have HA0 := Lib.hid (hr.below b0)
  have HO0 := Lib.hid (Only.of (F := FG g a s.r) b0)
  have HPc : Hid (room a.L a.P s.d lane ≠ 0 → pcode a.L a.P s.d lane = 0) := fun hh => pcode_of hh (h.st.cn lane)
  have c0 := h0.bx.cell
  unfold oc asks
  obtain ⟨T0, hT0⟩ : ∃ T0, K11.ctok a.R a.C s.T s.N r = T0 := ⟨_, rfl⟩
  obtain ⟨M0, hM0⟩ : ∃ M0, K11.crnd s.N r = M0 := ⟨_, rfl⟩
  obtain ⟨T1, hT1⟩ : ∃ T1, T0 = T1 := ⟨_, rfl⟩
  obtain ⟨N1, hN1⟩ : ∃ N1, M0 = N1 := ⟨_, rfl⟩
  rw [hT0, hM0] at HTk
  rw [hT0, hM0, hT1, hN1]
  obtain ⟨R0, hRR⟩ : ∃ R0, room a.L a.P s.d lane = R0 := ⟨_, rfl⟩
  obtain ⟨R, hR0⟩ : ∃ R, R0 = R := ⟨_, rfl⟩
  rw [hRR] at HRo HPc ⊢
  rw [hR0] at HPc ⊢
  have HT1 := Lib.hid hT1
  have HN1r := Lib.hid hN1
  clear hT0 hM0 hRR hT1 hN1
  obtain ⟨M, hM⟩ : ∃ M, pm a ws lane now (s.q + 1) = M := ⟨_, rfl⟩
  have HM := Lib.hid hM
  rw [hM]
  clear hM
  generalize jdg a.k mode lane ws = J at *
  unfold gcells zC at *
  unfold Chn.val at HJ
  clear h h0 b0 N0 hr hc hc2 hl
  by_cases hJ : J = 0
  · subst hJ
    by_cases hR : R = 0
    · have HRR : Hid (R0 = R) := hR0
      rw [if_neg (by simp), if_pos hR, show decide ((0 : Int) = 0 ∧ R ≠ 0) = false from decide_eq_false (fun hh => hh.2 hR)]
      have tR : (R == 0) = true := by rw [beq_iff_eq]; exact hR
      clear hR hR0
      go_enter Try.func18, Try.ntmps18
      go_wp2_with fail
      refine HJ.out.mono ?_
      rintro e w1 ⟨rfl, hb1⟩
      have H1 := Lib.hid (HH.out.below hb1)
      have HO1 := Lib.hid (HO0.out.bel hb1)
      have HA1 := Lib.hid (HA0.out.below hb1)
      have N1' := HN.out.bel hb1
      have HN1 := Lib.hid N1'
      have q0 := N1'.cell
      have f0 := N1'.frozen
      have c1 := H1.out.bx.cell
      unfold gcells at c1
      clear hb1 N1' c0
      go_wp2_with fail
      refine (HRo.out _ H1.out).mono ?_
      rintro e w2 ⟨rfl, hb2⟩
      rw [HRR.out]
      have H2 := Lib.hid (H1.out.below hb2)
      have HO2 := Lib.hid (HO1.out.bel hb2)
      have HA2 := Lib.hid (HA1.out.below hb2)
      have N2' := HN1.out.bel hb2
      have HN2 := Lib.hid N2'
      clear q0 f0 c1 hb2
      have q0 := N2'.cell
      have f0 := N2'.frozen
      have c1 := H2.out.bx.cell
      unfold gcells at c1
      clear N2'
      go_wp2_with fail
      refine bodyPost_ret (v := .tuple #[z0.val, .int .i64 2]) (by simp [results, Try.results18, go_sem, q0, z0, MV.val]) rfl ⟨z0, s, rfl, ?_⟩
      exact of_no (s := s) rfl HW.out H2.out HN2.out rfl rfl rfl HX.out (by decide) rfl rfl HO2.out _ _ _ _ _
    · by_cases hT : T1 = 0
      · rw [if_neg (by simp), if_neg hR, if_pos hT, show decide ((0 : Int) = 0 ∧ R ≠ 0) = true from decide_eq_true ⟨rfl, hR⟩]
        have HRR : Hid (R0 = R) := hR0
        have HR0 := Lib.hid hR
        have tR : (R == 0) = false := by rw [beq_eq_false_iff_ne]; exact hR
        have tT : (T1 != 0) = false := by rw [bne_eq_false_iff_eq]; exact hT
        clear hR hR0 hT
        go_enter Try.func18, Try.ntmps18
        go_wp2_with fail
        refine HJ.out.mono ?_
        rintro e w1 ⟨rfl, hb1⟩
        have H1 := Lib.hid (HH.out.below hb1)
        have HO1 := Lib.hid (HO0.out.bel hb1)
        have HA1 := Lib.hid (HA0.out.below hb1)
        have N1' := HN.out.bel hb1
        have HN1 := Lib.hid N1'
        have q0 := N1'.cell
        have f0 := N1'.frozen
        have c1 := H1.out.bx.cell
        unfold gcells at c1
        clear hb1 N1' c0
        go_wp2_with fail
        refine (HRo.out _ H1.out).mono ?_
        rintro e w2 ⟨rfl, hb2⟩
        rw [HRR.out]
        have H2 := Lib.hid (H1.out.below hb2)
        have HO2 := Lib.hid (HO1.out.bel hb2)
        have HA2 := Lib.hid (HA1.out.below hb2)
        have N2' := HN1.out.bel hb2
        have HN2 := Lib.hid N2'
        clear q0 f0 c1 hb2
        have q0 := N2'.cell
        have f0 := N2'.frozen
        have c1 := H2.out.bx.cell
        unfold gcells at c1
        clear N2'
        go_wp2_with fail
        refine (HTk.out _ H2.out).mono ?_
        rintro e w3 ⟨rfl, hb3, ho3⟩
        rw [HT1.out, HN1r.out] at hb3
        have H3 := Lib.hid (H2.out.bucket hb3 ho3)
        have HO3 := Lib.hid (HO2.out.trans_ (fg_bb ho3))
        have HA3 := Lib.hid (HA2.out.bucket ho3)
        have N3' := (ob_only ho3).blk HN2.out (fun e => HN2.out.ne_ H2.out.bk.blk (by decide) e)
        have HN3 := Lib.hid N3'
        clear q0 f0 c1 hb3 ho3
        have q0 := N3'.cell
        have f0 := N3'.frozen
        have c1 := H3.out.bx.cell
        unfold gcells at c1
        clear N3'
        rw [HT1.out]
        go_wp2_with fail
        refine bodyPost_ret (v := .tuple #[z0.val, .int .i64 2]) (by simp [results, Try.results18, go_sem, q0, z0, MV.val]) rfl ⟨z0, ⟨s.r, s.d, K11.less T1, N1, s.q⟩, rfl, ?_⟩
        exact of_no (s := s) rfl HW.out H3.out HN3.out rfl rfl rfl HX.out (by decide) rfl rfl HO3.out _ _ _ _ _
      · rw [if_neg (by simp), if_neg hR, if_neg hT, show decide ((0 : Int) = 0 ∧ R ≠ 0) = true from decide_eq_true ⟨rfl, hR⟩]
        have HRR : Hid (R0 = R) := hR0
        have HR0 := Lib.hid hR
        have tR : (R == 0) = false := by rw [beq_eq_false_iff_ne]; exact hR
        have HT0 := Lib.hid hT
        clear hR hR0 hT
        go_enter Try.func18, Try.ntmps18
        go_wp2_with fail
        refine HJ.out.mono ?_
        rintro e w1 ⟨rfl, hb1⟩
        have H1 := Lib.hid (HH.out.below hb1)
        have HO1 := Lib.hid (HO0.out.bel hb1)
        have HA1 := Lib.hid (HA0.out.below hb1)
        have N1' := HN.out.bel hb1
        have HN1 := Lib.hid N1'
        have q0 := N1'.cell
        have f0 := N1'.frozen
        have c1 := H1.out.bx.cell
        unfold gcells at c1
        clear hb1 N1' c0
        go_wp2_with fail
        refine (HRo.out _ H1.out).mono ?_
        rintro e w2 ⟨rfl, hb2⟩
        rw [HRR.out]
        have H2 := Lib.hid (H1.out.below hb2)
        have HO2 := Lib.hid (HO1.out.bel hb2)
        have HA2 := Lib.hid (HA1.out.below hb2)
        have N2' := HN1.out.bel hb2
        have HN2 := Lib.hid N2'
        clear q0 f0 c1 hb2
        have q0 := N2'.cell
        have f0 := N2'.frozen
        have c1 := H2.out.bx.cell
        unfold gcells at c1
        clear N2'
        go_wp2_with fail
        refine (HTk.out _ H2.out).mono ?_
        rintro e w3 ⟨rfl, hb3, ho3⟩
        rw [HT1.out, HN1r.out] at hb3
        have H3 := Lib.hid (H2.out.bucket hb3 ho3)
        have HO3 := Lib.hid (HO2.out.trans_ (fg_bb ho3))
        have HA3 := Lib.hid (HA2.out.bucket ho3)
        have N3' := (ob_only ho3).blk HN2.out (fun e => HN2.out.ne_ H2.out.bk.blk (by decide) e)
        have HN3 := Lib.hid N3'
        clear q0 f0 c1 hb3 ho3
        have q0 := N3'.cell
        have f0 := N3'.frozen
        have c1 := H3.out.bx.cell
        unfold gcells at c1
        clear N3'
        rw [HT1.out]
        have tT : (T1 != 0) = true := by rw [bne_iff_ne]; exact HT0.out
        have HL3 := Lib.hid (HLe.out _ _ H3.out HA3.out hq0 hq (HPc.out HR0.out))
        go_wp2_with fail
        refine HL3.out.mono ?_
        rintro e w4 ⟨m', r', d', rfl, h4⟩
        rw [HM.out] at h4
        have H4 := Lib.hid h4
        have N4' := h4.on.blk HN3.out (H3.out.off HN3.out HF.out (by decide) (by decide))
        have HN4 := Lib.hid N4'
        clear q0 f0 c1 h4
        have q0 := N4'.cell
        have f0 := N4'.frozen
        clear N4'
        unfold MV.val
        go_wp2_with fail
        refine bodyPost_ret (v := .tuple #[m'.val, .int .i64 0]) (by simp [results, Try.results18, go_sem, q0, MV.val]) rfl ⟨m', ⟨r', d', K11.less T1, N1, s.q + 1⟩, rfl, ?_⟩
        exact of_yes (s := s) (N1 := N1) rfl HW.out H4.out HN4.out HN3.out.lt rfl rfl rfl HX.out rfl rfl HO3.out _ _ _ _ _
  · rw [if_pos hJ, show decide (J = 0 ∧ R ≠ 0) = false from decide_eq_false (fun hh => hJ hh.1)]
    have tJ : (J != 0) = true := by rw [bne_iff_ne]; exact hJ
    have HJ0 := Lib.hid hJ
    clear hJ
    go_enter Try.func18, Try.ntmps18
    go_wp2_with fail
    refine HJ.out.mono ?_
    rintro e w1 ⟨rfl, hb1⟩
    have H1 := Lib.hid (HH.out.below hb1)
    have HO1 := Lib.hid (HO0.out.bel hb1)
    have HA1 := Lib.hid (HA0.out.below hb1)
    have N1' := HN.out.bel hb1
    have HN1 := Lib.hid N1'
    have q0 := N1'.cell
    have f0 := N1'.frozen
    clear hb1 N1' c0
    go_wp2_with fail
    refine bodyPost_ret (v := .tuple #[z0.val, .int .i64 J]) (by simp [results, Try.results18, go_sem, q0, z0, MV.val]) rfl ⟨z0, s, rfl, ?_⟩
    exact of_no (s := s) rfl HW.out H1.out HN1.out rfl rfl rfl HX.out HJ0.out rfl rfl HO1.out _ _ _ _ _
end Go.Proofs.Ytgmcjkiofcpjbaa.A12
