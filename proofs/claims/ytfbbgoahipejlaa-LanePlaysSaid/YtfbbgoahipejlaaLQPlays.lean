/- LanePlays, walked. -/
import Derived.Test.YtfbbgoahipejlaaQL7
import Derived.Deep.CutBlock
import Derived.Deep.RegionHeld3
namespace Go.Proofs.Ytfbbgoahipejlaa.lanePlays
open Go.RowKit Go.Proofs.Ytfbbgoahipejlaa.G Go.Proofs.Ytfbbgoahipejlaa.L10 Go.Sort
set_option maxRecDepth 100000
/-- Both Lanes tell the same. -/
def InvL (w V : World) (b g L P : Nat) : Prop := ∃ r d A c e, Lv w V b L P r d ∧ St L P d ∧ Wd V d ∧ NR w V b r g A c e ∧ Blk V g 53 #[.int .i64 L, .int .i64 P, .slice A e.length c] ∧ w.heap.size ≤ g ∧ d.map MV.pl = e.map MV.pl
variable {w V V' : World} {b L P g ks : Nat} {r r' : Value} {d e : List MV} {A : Option Addr} {c : Nat} {sc : Array Value}
theorem inv_of (h : PQ w V b r d g L P A c e ks sc) : InvL w V b g L P := ⟨r, d, A, c, e, h.lv, h.st, h.wd, h.nr, h.bx, h.ge, h.pl⟩
def InvK (w V : World) (b g L P ks : Nat) (sc : Array Value) : Prop := ∃ r d A c e, PQ w V b r d g L P A c e ks sc
theorem InvL.below (h : InvL w V b g L P) (hb : Below V.heap.size V V') : InvL w V' b g L P := by
  obtain ⟨r, d, A, c, e, h1, h2, h3, h4, h5, h6, h7⟩ := h
  exact ⟨r, d, A, c, e, h1.below hb, h2, h3.below hb, h4.below hb, h5.bel hb, h6, h7⟩
/-- A step's cells, as they lie in its box. -/
def sca (u : Sp) : Array Value := #[.int .i64 u.k, .int .i64 u.n, .slice u.m.a u.m.ws.length u.m.c, .int .i64 u.m.ln, .int .i64 u.m.st, .int .i64 u.m.lt, .int .i64 u.m.sq]
set_option maxHeartbeats 16000000 in
theorem walk {w : World} {A : Option Addr} {l : List Sp} {c : Nat} (ln p : Int) (hl : l.length ≤ c) (hc : c ≤ 9223372036854775807) (hr : Row w A (sps l)) (ho : ∀ (k : Nat) (y : Sp), l[k]? = some y → SpOk w y) : Calls Try.prog 8 #[.int .i64 ln, .int .i64 p, .slice A l.length c] w fun e w' => e = .returned (.bool true) ∧ Below w.heap.size w w' := by
  have HL := Lib.hid (And.intro hr ho)
  have C1 := Lib.hid (fun V => early_any (A := A) l.length c hl hc V)
  obtain ⟨n, hn⟩ : ∃ n, min l.length 80 = n := ⟨_, rfl⟩
  have hnl : n ≤ l.length ∧ n ≤ 80 := by omega
  have HNL := Lib.hid hnl
  unfold EaPost at C1
  simp only [hn] at C1
  clear hr ho hl hn
  go_enter Try.func8, Try.ntmps8
  go_wp2_with fail
  refine (lives_any _).mono ?_
  rintro e w1 ⟨rfl, hb1⟩
  have HB1 := Lib.hid hb1
  clear hb1
  go_wp2_with fail
  refine (new_any ln p _).mono ?_
  rintro e w2 ⟨rfl, h2, hb2⟩
  have hnl := near_pos ln (m := 3) (by omega)
  have hnp := near_pos p (m := 8) (by omega)
  obtain ⟨L, hL⟩ : ∃ L, (near ln 3).toNat = L := ⟨_, rfl⟩
  obtain ⟨P, hP⟩ : ∃ P, (near p 8).toNat = P := ⟨_, rfl⟩
  have HLP : Hid (((L : Int) = near ln 3 ∧ 1 ≤ L ∧ L ≤ 3) ∧ ((P : Int) = near p 8 ∧ 1 ≤ P ∧ P ≤ 8)) := by refine ⟨⟨?_, ?_, ?_⟩, ?_, ?_, ?_⟩ <;> omega
  have CN := Lib.hid (fun V => rnew_any ln p V)
  rw [← HLP.out.1.1, ← HLP.out.2.1] at CN
  rw [hL, hP] at h2
  have HV2 : Hid (Lv w w2 w1.heap.size L P (.slice none 0 0) []) := ⟨h2, fun k hk => by
    rcases hk with e | hk
    · have := HB1.out.size; omega
    · simp [Value.ownBlock] at hk, bt HB1.out hb2⟩
  obtain ⟨b, hb⟩ : ∃ b, w1.heap.size = b := ⟨_, rfl⟩
  rw [hb] at HV2 ⊢
  clear h2 hb2 hnl hnp hL hP hb HB1
  go_wp2_with fail
  refine (CN.out _).mono ?_
  rintro e w3 ⟨rfl, hb3⟩
  unfold rLv
  have HI : Hid (InvL w (w3.alloc (.cells #[.int .i64 L, .int .i64 P, .slice none 0 0] 53)) b w3.heap.size L P) := by
    have hv := (HV2.out.below hb3).below (b01 w3 (.cells #[.int .i64 L, .int .i64 P, .slice none 0 0] 53))
    exact ⟨_, [], none, 0, [], hv, St.nil_ L P (by have := HLP.out; omega) (by have := HLP.out; omega), Wd.nil_ _, ⟨Row.none_, .inl ⟨rfl, rfl⟩, Nat.le_refl _, fun m hm => absurd hm (by simp), fun h0 => absurd h0 (by simp), fun h0 => absurd h0 (by simp)⟩, Blk.new w3 53 _, (bt HV2.out.bl hb3).size, rfl⟩
  obtain ⟨g, hg⟩ : ∃ g, w3.heap.size = g := ⟨_, rfl⟩
  rw [hg] at HI
  clear hb3 HV2 CN
  go_wp2_with fail
  clear hg
  generalize w3.alloc (.cells #[.int .i64 L, .int .i64 P, .slice none 0 0] 53) = W0 at *
  refine (C1.out _).mono ?_
  rintro e w4 ⟨⟨c', rfl⟩, rfl⟩
  go_wp2_with fail
  go_loopw [9] (fun v V => ∃ i : Nat, v = .int .i64 i ∧ i ≤ n ∧ InvL w V b g L P) (fun v _ => n - (intOf v).toNat)
  case atStart => exact ⟨0, rfl, Nat.zero_le _, HI.out⟩
  case round =>
    obtain ⟨i, rfl, hi, r, d, A0, c0, e0, hv, hs, hw, hn, hx, hge, hpl⟩ := hrel
    by_cases hlt : i < n
    · have hltz : (i : Int) < n := by omega
      obtain ⟨u, hu⟩ : ∃ u, l[i]? = some u := ⟨_, List.getElem?_eq_getElem (by have := HNL.out.1; omega)⟩
      obtain ⟨gs, o, rfl, _, s0, s1, s2, s3, s4, s5, s6⟩ := sps_at (HL.out.1.below hv.bl) hu
      have HU := Lib.hid (HL.out.2 i u hu)
      have C := Lib.hid (kind_any u)
      obtain ⟨kd, hkd⟩ : ∃ kd, modU u.k 8 = kd := ⟨_, rfl⟩
      have hkb : 0 ≤ kd ∧ kd < 8 := by rw [← hkd]; exact modU_bd u.k 8 (by decide)
      rw [hkd] at C
      unfold Sp.val at C
      have b5 := b01 wr (.cells #[.int .i64 u.k, .int .i64 u.n, .slice u.m.a u.m.ws.length u.m.c, .int .i64 u.m.ln, .int .i64 u.m.st, .int .i64 u.m.lt, .int .i64 u.m.sq] 60)
      have HP := Lib.hid (show PQ w (wr.alloc (.cells #[.int .i64 u.k, .int .i64 u.n, .slice u.m.a u.m.ws.length u.m.c, .int .i64 u.m.ln, .int .i64 u.m.st, .int .i64 u.m.lt, .int .i64 u.m.sq] 60)) b r d g L P A0 c0 e0 wr.heap.size (sca u) from ⟨hv.below b5, hs, hw.below b5, hn.below b5, hx.bel b5, hge, Blk.new wr 60 _, hpl⟩)
      obtain ⟨ks, hks⟩ : ∃ ks, wr.heap.size = ks := ⟨_, rfl⟩
      rw [hks] at HP
      clear hkd hv hs hw hn hx hge hpl hu b5 HI
      go_wp2_with fail
      clear hks s0 s1 s2 s3 s4 s5 s6
      generalize wr.alloc (.cells #[.int .i64 u.k, .int .i64 u.n, .slice u.m.a u.m.ws.length u.m.c, .int .i64 u.m.ln, .int .i64 u.m.st, .int .i64 u.m.lt, .int .i64 u.m.sq] 60) = v at *
      refine (C.out _).mono ?_
      rintro e w5 ⟨rfl, hb5⟩
      have HP5 := Lib.hid (HP.out.below hb5)
      clear HP C hb5
      go_upto_block 2 with fail
      go_cut [11] (fun sm V => sm = .bool true ∧ InvK w V b g L P ks (sca u))
      case first =>
        obtain ⟨q0, q7⟩ := hkb
        rcases (show kd = 0 ∨ kd = 1 ∨ kd = 2 ∨ kd = 3 ∨ kd = 4 ∨ kd = 5 ∨ kd = 6 ∨ kd = 7 by omega) with rfl | rfl | rfl | rfl | rfl | rfl | rfl | rfl
        all_goals clear q0 q7
        · as_aux_lemma =>
          have HMw := Lib.hid (Sp.msg_wr HU.out.1.wr)
          obtain ⟨M, hM⟩ : ∃ M, u.msg = M := ⟨_, rfl⟩
          have CM : Hid (∀ V, Below w.heap.size w V → Calls Try.prog 31 #[.agg #[.int .i64 u.k, .int .i64 u.n, .slice u.m.a u.m.ws.length u.m.c, .int .i64 u.m.ln, .int .i64 u.m.st, .int .i64 u.m.lt, .int .i64 u.m.sq]] V fun e w' => e = .returned M.val ∧ Below V.heap.size V w') := fun V hV => by rw [← hM]; exact msg_any u (HU.out.1.wr.below hV)
          rw [hM] at HMw
          clear hM
          have CP : Hid (∀ V, Below w5.heap.size w5 V → Calls Try.prog 30 #[.agg #[.int .i64 L, .int .i64 P, .slice A0 e0.length c0], M.val] V (RpP w V b r d g L P M)) := fun V hV => rput_p (HP5.out.below hV) HMw.out.1 (by have := HMw.out.2; omega)
          have CQ : Hid (∀ V r d A' c' e', PH w V b r d g L P A' c' e' ks (sca u) → Calls Try.prog 32 #[.pointer (some ⟨b, 0, none⟩), M.val] V fun x V' => ∃ r' d', x = .returned (.int .i64 (pcode L P d M.ln)) ∧ PH w V' b r' d' g L P A' c' e' ks (sca u) ∧ d'.map MV.pl = putP L P d M) := fun V r d A' c' e' h => put_ph h (HMw.out.1.below h.lv.bl) (by have := HMw.out.2; omega)
          have HBw := Lib.hid HP5.out.lv.bl
          have HS : Hid (∀ V, Below w5.heap.size w5 V → (Below w5.heap.size w5 V ∧ (∀ i, V.cell? ⟨g, i, none⟩ = (#[.int .i64 L, .int .i64 P, .slice A0 e0.length c0] : Array Value)[i]?) ∧ (∀ i, V.cell? ⟨ks, i, none⟩ = (#[.int .i64 u.k, .int .i64 u.n, .slice u.m.a u.m.ws.length u.m.c, .int .i64 u.m.ln, .int .i64 u.m.st, .int .i64 u.m.lt, .int .i64 u.m.sq] : Array Value)[i]?))) := fun V h => ⟨h, (HP5.out.bx.bel h).cell, (HP5.out.sx.bel h).cell⟩
          obtain ⟨z, hz⟩ : ∃ z, pcode L P d M.ln = z := ⟨_, rfl⟩
          have HZ := Lib.hid hz
          unfold RpP at CP
          rw [hz] at CP
          clear hz
          unfold MV.val at CM CP CQ
          have tz : (z == z) = true := by simp
          go_upto_region 15 with fail
          go_cut [12, 13] (fun v0 v1 V => ∃ (nb : Nat) (A' : Option Addr) (c' : Nat) (e' : List MV), v0 = .pointer (some ⟨nb, 0, none⟩) ∧ NxP w w5 V b r g L P nb A' c' e' ∧ e'.map MV.pl = putP L P d M ∧ v1 = .int .i64 z)
          case first =>
            have S0 : Below w5.heap.size w5 w5.drew := (Below.refl _ _).drew
            go_region_held3 (fun V => Below w5.heap.size w5 V ∧ (∀ i, V.cell? ⟨g, i, none⟩ = (#[.int .i64 L, .int .i64 P, .slice A0 e0.length c0] : Array Value)[i]?) ∧ (∀ i, V.cell? ⟨ks, i, none⟩ = (#[.int .i64 u.k, .int .i64 u.n, .slice u.m.a u.m.ws.length u.m.c, .int .i64 u.m.ln, .int .i64 u.m.st, .int .i64 u.m.lt, .int .i64 u.m.sq] : Array Value)[i]?)) (first | (with_reducible exact HS.out _ S0) | (with_reducible exact HS.out _ (ba1 S0 _)) | (with_reducible exact HS.out _ ((b01 w5 _).drew)) | ((with_reducible refine HS.out _ (bel3 S0 ?_ _ _ _)); first | exact Nat.le_refl _ | assumption | fail) | fail)
              (first
                | (go_at_call 31; first
                    | ((with_reducible refine (CM.out _ (bt HBw.out S0)).mono ?_); rintro e w6 ⟨rfl, hb6⟩; have S0 := bt S0 hb6)
                    | ((with_reducible refine (CM.out _ (bt HBw.out ((b01 w5 _).drew))).mono ?_); rintro e w6 ⟨rfl, hb6⟩; have S0 := bt ((b01 w5 _).drew) hb6; have Zb := ((Blk.new w5 53 _).bel (Below.refl _ _).drew).bel hb6)
                    | fail)
                | (go_at_call 30; first
                    | ((with_reducible refine (CP.out _ S0).mono ?_); rintro e w8 ⟨A', c', e', rfl, hn8, hp8, hb8⟩; unfold rLv; have Zb := Zb.bel hb8; have zc := Zb.cell; have zf := Zb.frozen; have zl := Zb.lt; have S0 := bt S0 hb8)
                    | ((with_reducible refine (CP.out _ (ba1 S0 _)).mono ?_); rintro e w8 ⟨A', c', e', rfl, hn8, hp8, hb8⟩; unfold rLv; have Zc := (Blk.new w6 53 _).bel hb8; have zc := Zc.cell; have zf := Zc.frozen; have zl := Zc.lt; have hzn := S0.size; have S0 := bt (ba1 S0 _) hb8)
                    | ((with_reducible refine (CP.out _ S0).mono ?_); rintro e w8 ⟨A', c', e', rfl, hn8, hp8, hb8⟩; unfold rLv; have Zd := S0.size; have S0 := bt S0 hb8)
                    | fail)
                | fail)
            all_goals
              go_wp2_with fail
              go_meet
              first
                | with_reducible exact ⟨_, A', c', e', rfl, nx_alloc S0 hn8, hp8, rfl⟩
                | with_reducible exact ⟨_, A', c', e', rfl, nx_put S0 (Nat.le_refl _) Zb hn8, hp8, rfl⟩
                | with_reducible exact ⟨_, A', c', e', rfl, nx_put S0 hzn Zc hn8, hp8, rfl⟩
                | fail
          case rest =>
            obtain ⟨nb, A6, c6, E1, rfl, hx, hpe, rfl⟩ := hcut
            have HX := Lib.hid hx
            have HPE := Lib.hid hpe
            have HP6 := Lib.hid (HP5.out.below hx.bl)
            have j0 := hx.bx.cell 0
            have j1 := hx.bx.cell 1
            have j2 := hx.bx.cell 2
            simp only [List.getElem?_toArray, List.getElem?_cons_zero, List.getElem?_cons_succ] at j0 j1 j2
            have k0 := HP6.out.bx.cell 0
            have k1 := HP6.out.bx.cell 1
            have k2 := HP6.out.bx.cell 2
            have kf := HP6.out.bx.frozen
            simp only [List.getElem?_toArray, List.getElem?_cons_zero, List.getElem?_cons_succ] at k0 k1 k2
            clear hx hpe
            go_upto_region 17 with fail
            have HP9 := Lib.hid (HP6.out.ph.put HX.out.nr)
            clear k0 k1 k2 kf
            clear j0 j1 j2
            generalize ((wc.setCell ⟨g, 0, none⟩ (.int .i64 L)).setCell ⟨g, 1, none⟩ (.int .i64 P)).setCell ⟨g, 2, none⟩ (.slice A6 E1.length c6) = W9 at *
            have s0 := HP9.out.sx.cell 0
            have s1 := HP9.out.sx.cell 1
            have s2 := HP9.out.sx.cell 2
            have s3 := HP9.out.sx.cell 3
            have s4 := HP9.out.sx.cell 4
            have s5 := HP9.out.sx.cell 5
            have s6 := HP9.out.sx.cell 6
            unfold sca at s0 s1 s2 s3 s4 s5 s6
            simp only [List.getElem?_toArray, List.getElem?_cons_zero, List.getElem?_cons_succ] at s0 s1 s2 s3 s4 s5 s6
            go_wp2_with fail
            refine (CM.out _ HP9.out.lv.bl).mono ?_
            rintro e w10 ⟨rfl, hb10⟩
            have HP10 := Lib.hid (HP9.out.below hb10)
            clear s0 s1 s2 s3 s4 s5 s6
            clear hb10
            go_wp2_with fail
            refine (CQ.out _ _ _ _ _ _ HP10.out).mono ?_
            rintro e w11 ⟨r11, d11, rfl, hp11, hd11⟩
            rw [HZ.out]
            have HK : Hid (InvK w w11 b g L P ks (sca u)) := ⟨_, _, _, _, _, hp11.pq (hd11.trans HPE.out.symm)⟩
            clear hp11 hd11
            go_wp2_with fail
            go_meet
            exact ⟨rfl, HK.out⟩
        · as_aux_lemma =>
          have HMw := Lib.hid (Sp.msg_wr HU.out.1.wr)
          obtain ⟨M, hM⟩ : ∃ M, u.msg = M := ⟨_, rfl⟩
          have CM : Hid (∀ V, Below w.heap.size w V → Calls Try.prog 31 #[.agg #[.int .i64 u.k, .int .i64 u.n, .slice u.m.a u.m.ws.length u.m.c, .int .i64 u.m.ln, .int .i64 u.m.st, .int .i64 u.m.lt, .int .i64 u.m.sq]] V fun e w' => e = .returned M.val ∧ Below V.heap.size V w') := fun V hV => by rw [← hM]; exact msg_any u (HU.out.1.wr.below hV)
          rw [hM] at HMw
          clear hM
          have CP : Hid (∀ V, Below w5.heap.size w5 V → Calls Try.prog 30 #[.agg #[.int .i64 L, .int .i64 P, .slice A0 e0.length c0], M.val] V (RpP w V b r d g L P M)) := fun V hV => rput_p (HP5.out.below hV) HMw.out.1 (by have := HMw.out.2; omega)
          have CQ : Hid (∀ V r d A' c' e', PH w V b r d g L P A' c' e' ks (sca u) → Calls Try.prog 32 #[.pointer (some ⟨b, 0, none⟩), M.val] V fun x V' => ∃ r' d', x = .returned (.int .i64 (pcode L P d M.ln)) ∧ PH w V' b r' d' g L P A' c' e' ks (sca u) ∧ d'.map MV.pl = putP L P d M) := fun V r d A' c' e' h => put_ph h (HMw.out.1.below h.lv.bl) (by have := HMw.out.2; omega)
          have HBw := Lib.hid HP5.out.lv.bl
          have HS : Hid (∀ V, Below w5.heap.size w5 V → (Below w5.heap.size w5 V ∧ (∀ i, V.cell? ⟨g, i, none⟩ = (#[.int .i64 L, .int .i64 P, .slice A0 e0.length c0] : Array Value)[i]?) ∧ (∀ i, V.cell? ⟨ks, i, none⟩ = (#[.int .i64 u.k, .int .i64 u.n, .slice u.m.a u.m.ws.length u.m.c, .int .i64 u.m.ln, .int .i64 u.m.st, .int .i64 u.m.lt, .int .i64 u.m.sq] : Array Value)[i]?))) := fun V h => ⟨h, (HP5.out.bx.bel h).cell, (HP5.out.sx.bel h).cell⟩
          obtain ⟨z, hz⟩ : ∃ z, pcode L P d M.ln = z := ⟨_, rfl⟩
          have HZ := Lib.hid hz
          unfold RpP at CP
          rw [hz] at CP
          clear hz
          unfold MV.val at CM CP CQ
          have tz : (z == z) = true := by simp
          go_upto_region 15 with fail
          go_cut [12, 13] (fun v0 v1 V => ∃ (nb : Nat) (A' : Option Addr) (c' : Nat) (e' : List MV), v0 = .pointer (some ⟨nb, 0, none⟩) ∧ NxP w w5 V b r g L P nb A' c' e' ∧ e'.map MV.pl = putP L P d M ∧ v1 = .int .i64 z)
          case first =>
            have S0 : Below w5.heap.size w5 w5.drew := (Below.refl _ _).drew
            go_region_held3 (fun V => Below w5.heap.size w5 V ∧ (∀ i, V.cell? ⟨g, i, none⟩ = (#[.int .i64 L, .int .i64 P, .slice A0 e0.length c0] : Array Value)[i]?) ∧ (∀ i, V.cell? ⟨ks, i, none⟩ = (#[.int .i64 u.k, .int .i64 u.n, .slice u.m.a u.m.ws.length u.m.c, .int .i64 u.m.ln, .int .i64 u.m.st, .int .i64 u.m.lt, .int .i64 u.m.sq] : Array Value)[i]?)) (first | (with_reducible exact HS.out _ S0) | (with_reducible exact HS.out _ (ba1 S0 _)) | (with_reducible exact HS.out _ ((b01 w5 _).drew)) | ((with_reducible refine HS.out _ (bel3 S0 ?_ _ _ _)); first | exact Nat.le_refl _ | assumption | fail) | fail)
              (first
                | (go_at_call 31; first
                    | ((with_reducible refine (CM.out _ (bt HBw.out S0)).mono ?_); rintro e w6 ⟨rfl, hb6⟩; have S0 := bt S0 hb6)
                    | ((with_reducible refine (CM.out _ (bt HBw.out ((b01 w5 _).drew))).mono ?_); rintro e w6 ⟨rfl, hb6⟩; have S0 := bt ((b01 w5 _).drew) hb6; have Zb := ((Blk.new w5 53 _).bel (Below.refl _ _).drew).bel hb6)
                    | fail)
                | (go_at_call 30; first
                    | ((with_reducible refine (CP.out _ S0).mono ?_); rintro e w8 ⟨A', c', e', rfl, hn8, hp8, hb8⟩; unfold rLv; have Zb := Zb.bel hb8; have zc := Zb.cell; have zf := Zb.frozen; have zl := Zb.lt; have S0 := bt S0 hb8)
                    | ((with_reducible refine (CP.out _ (ba1 S0 _)).mono ?_); rintro e w8 ⟨A', c', e', rfl, hn8, hp8, hb8⟩; unfold rLv; have Zc := (Blk.new w6 53 _).bel hb8; have zc := Zc.cell; have zf := Zc.frozen; have zl := Zc.lt; have hzn := S0.size; have S0 := bt (ba1 S0 _) hb8)
                    | ((with_reducible refine (CP.out _ S0).mono ?_); rintro e w8 ⟨A', c', e', rfl, hn8, hp8, hb8⟩; unfold rLv; have Zd := S0.size; have S0 := bt S0 hb8)
                    | fail)
                | fail)
            all_goals
              go_wp2_with fail
              go_meet
              first
                | with_reducible exact ⟨_, A', c', e', rfl, nx_alloc S0 hn8, hp8, rfl⟩
                | with_reducible exact ⟨_, A', c', e', rfl, nx_put S0 (Nat.le_refl _) Zb hn8, hp8, rfl⟩
                | with_reducible exact ⟨_, A', c', e', rfl, nx_put S0 hzn Zc hn8, hp8, rfl⟩
                | fail
          case rest =>
            obtain ⟨nb, A6, c6, E1, rfl, hx, hpe, rfl⟩ := hcut
            have HX := Lib.hid hx
            have HPE := Lib.hid hpe
            have HP6 := Lib.hid (HP5.out.below hx.bl)
            have j0 := hx.bx.cell 0
            have j1 := hx.bx.cell 1
            have j2 := hx.bx.cell 2
            simp only [List.getElem?_toArray, List.getElem?_cons_zero, List.getElem?_cons_succ] at j0 j1 j2
            have k0 := HP6.out.bx.cell 0
            have k1 := HP6.out.bx.cell 1
            have k2 := HP6.out.bx.cell 2
            have kf := HP6.out.bx.frozen
            simp only [List.getElem?_toArray, List.getElem?_cons_zero, List.getElem?_cons_succ] at k0 k1 k2
            clear hx hpe
            go_upto_region 17 with fail
            have HP9 := Lib.hid (HP6.out.ph.put HX.out.nr)
            clear k0 k1 k2 kf
            clear j0 j1 j2
            generalize ((wc.setCell ⟨g, 0, none⟩ (.int .i64 L)).setCell ⟨g, 1, none⟩ (.int .i64 P)).setCell ⟨g, 2, none⟩ (.slice A6 E1.length c6) = W9 at *
            have s0 := HP9.out.sx.cell 0
            have s1 := HP9.out.sx.cell 1
            have s2 := HP9.out.sx.cell 2
            have s3 := HP9.out.sx.cell 3
            have s4 := HP9.out.sx.cell 4
            have s5 := HP9.out.sx.cell 5
            have s6 := HP9.out.sx.cell 6
            unfold sca at s0 s1 s2 s3 s4 s5 s6
            simp only [List.getElem?_toArray, List.getElem?_cons_zero, List.getElem?_cons_succ] at s0 s1 s2 s3 s4 s5 s6
            go_wp2_with fail
            refine (CM.out _ HP9.out.lv.bl).mono ?_
            rintro e w10 ⟨rfl, hb10⟩
            have HP10 := Lib.hid (HP9.out.below hb10)
            clear s0 s1 s2 s3 s4 s5 s6
            clear hb10
            go_wp2_with fail
            refine (CQ.out _ _ _ _ _ _ HP10.out).mono ?_
            rintro e w11 ⟨r11, d11, rfl, hp11, hd11⟩
            rw [HZ.out]
            have HK : Hid (InvK w w11 b g L P ks (sca u)) := ⟨_, _, _, _, _, hp11.pq (hd11.trans HPE.out.symm)⟩
            clear hp11 hd11
            go_wp2_with fail
            go_meet
            exact ⟨rfl, HK.out⟩
        · as_aux_lemma =>
          have HMw := Lib.hid (Sp.msg_wr HU.out.1.wr)
          obtain ⟨M, hM⟩ : ∃ M, u.msg = M := ⟨_, rfl⟩
          have CM : Hid (∀ V, Below w.heap.size w V → Calls Try.prog 31 #[.agg #[.int .i64 u.k, .int .i64 u.n, .slice u.m.a u.m.ws.length u.m.c, .int .i64 u.m.ln, .int .i64 u.m.st, .int .i64 u.m.lt, .int .i64 u.m.sq]] V fun e w' => e = .returned M.val ∧ Below V.heap.size V w') := fun V hV => by rw [← hM]; exact msg_any u (HU.out.1.wr.below hV)
          rw [hM] at HMw
          clear hM
          have CP : Hid (∀ V, Below w5.heap.size w5 V → Calls Try.prog 30 #[.agg #[.int .i64 L, .int .i64 P, .slice A0 e0.length c0], M.val] V (RpP w V b r d g L P M)) := fun V hV => rput_p (HP5.out.below hV) HMw.out.1 (by have := HMw.out.2; omega)
          have CQ : Hid (∀ V r d A' c' e', PH w V b r d g L P A' c' e' ks (sca u) → Calls Try.prog 32 #[.pointer (some ⟨b, 0, none⟩), M.val] V fun x V' => ∃ r' d', x = .returned (.int .i64 (pcode L P d M.ln)) ∧ PH w V' b r' d' g L P A' c' e' ks (sca u) ∧ d'.map MV.pl = putP L P d M) := fun V r d A' c' e' h => put_ph h (HMw.out.1.below h.lv.bl) (by have := HMw.out.2; omega)
          have HBw := Lib.hid HP5.out.lv.bl
          have HS : Hid (∀ V, Below w5.heap.size w5 V → (Below w5.heap.size w5 V ∧ (∀ i, V.cell? ⟨g, i, none⟩ = (#[.int .i64 L, .int .i64 P, .slice A0 e0.length c0] : Array Value)[i]?) ∧ (∀ i, V.cell? ⟨ks, i, none⟩ = (#[.int .i64 u.k, .int .i64 u.n, .slice u.m.a u.m.ws.length u.m.c, .int .i64 u.m.ln, .int .i64 u.m.st, .int .i64 u.m.lt, .int .i64 u.m.sq] : Array Value)[i]?))) := fun V h => ⟨h, (HP5.out.bx.bel h).cell, (HP5.out.sx.bel h).cell⟩
          obtain ⟨z, hz⟩ : ∃ z, pcode L P d M.ln = z := ⟨_, rfl⟩
          have HZ := Lib.hid hz
          unfold RpP at CP
          rw [hz] at CP
          clear hz
          unfold MV.val at CM CP CQ
          have tz : (z == z) = true := by simp
          go_upto_region 15 with fail
          go_cut [12, 13] (fun v0 v1 V => ∃ (nb : Nat) (A' : Option Addr) (c' : Nat) (e' : List MV), v0 = .pointer (some ⟨nb, 0, none⟩) ∧ NxP w w5 V b r g L P nb A' c' e' ∧ e'.map MV.pl = putP L P d M ∧ v1 = .int .i64 z)
          case first =>
            have S0 : Below w5.heap.size w5 w5.drew := (Below.refl _ _).drew
            go_region_held3 (fun V => Below w5.heap.size w5 V ∧ (∀ i, V.cell? ⟨g, i, none⟩ = (#[.int .i64 L, .int .i64 P, .slice A0 e0.length c0] : Array Value)[i]?) ∧ (∀ i, V.cell? ⟨ks, i, none⟩ = (#[.int .i64 u.k, .int .i64 u.n, .slice u.m.a u.m.ws.length u.m.c, .int .i64 u.m.ln, .int .i64 u.m.st, .int .i64 u.m.lt, .int .i64 u.m.sq] : Array Value)[i]?)) (first | (with_reducible exact HS.out _ S0) | (with_reducible exact HS.out _ (ba1 S0 _)) | (with_reducible exact HS.out _ ((b01 w5 _).drew)) | ((with_reducible refine HS.out _ (bel3 S0 ?_ _ _ _)); first | exact Nat.le_refl _ | assumption | fail) | fail)
              (first
                | (go_at_call 31; first
                    | ((with_reducible refine (CM.out _ (bt HBw.out S0)).mono ?_); rintro e w6 ⟨rfl, hb6⟩; have S0 := bt S0 hb6)
                    | ((with_reducible refine (CM.out _ (bt HBw.out ((b01 w5 _).drew))).mono ?_); rintro e w6 ⟨rfl, hb6⟩; have S0 := bt ((b01 w5 _).drew) hb6; have Zb := ((Blk.new w5 53 _).bel (Below.refl _ _).drew).bel hb6)
                    | fail)
                | (go_at_call 30; first
                    | ((with_reducible refine (CP.out _ S0).mono ?_); rintro e w8 ⟨A', c', e', rfl, hn8, hp8, hb8⟩; unfold rLv; have Zb := Zb.bel hb8; have zc := Zb.cell; have zf := Zb.frozen; have zl := Zb.lt; have S0 := bt S0 hb8)
                    | ((with_reducible refine (CP.out _ (ba1 S0 _)).mono ?_); rintro e w8 ⟨A', c', e', rfl, hn8, hp8, hb8⟩; unfold rLv; have Zc := (Blk.new w6 53 _).bel hb8; have zc := Zc.cell; have zf := Zc.frozen; have zl := Zc.lt; have hzn := S0.size; have S0 := bt (ba1 S0 _) hb8)
                    | ((with_reducible refine (CP.out _ S0).mono ?_); rintro e w8 ⟨A', c', e', rfl, hn8, hp8, hb8⟩; unfold rLv; have Zd := S0.size; have S0 := bt S0 hb8)
                    | fail)
                | fail)
            all_goals
              go_wp2_with fail
              go_meet
              first
                | with_reducible exact ⟨_, A', c', e', rfl, nx_alloc S0 hn8, hp8, rfl⟩
                | with_reducible exact ⟨_, A', c', e', rfl, nx_put S0 (Nat.le_refl _) Zb hn8, hp8, rfl⟩
                | with_reducible exact ⟨_, A', c', e', rfl, nx_put S0 hzn Zc hn8, hp8, rfl⟩
                | fail
          case rest =>
            obtain ⟨nb, A6, c6, E1, rfl, hx, hpe, rfl⟩ := hcut
            have HX := Lib.hid hx
            have HPE := Lib.hid hpe
            have HP6 := Lib.hid (HP5.out.below hx.bl)
            have j0 := hx.bx.cell 0
            have j1 := hx.bx.cell 1
            have j2 := hx.bx.cell 2
            simp only [List.getElem?_toArray, List.getElem?_cons_zero, List.getElem?_cons_succ] at j0 j1 j2
            have k0 := HP6.out.bx.cell 0
            have k1 := HP6.out.bx.cell 1
            have k2 := HP6.out.bx.cell 2
            have kf := HP6.out.bx.frozen
            simp only [List.getElem?_toArray, List.getElem?_cons_zero, List.getElem?_cons_succ] at k0 k1 k2
            clear hx hpe
            go_upto_region 17 with fail
            have HP9 := Lib.hid (HP6.out.ph.put HX.out.nr)
            clear k0 k1 k2 kf
            clear j0 j1 j2
            generalize ((wc.setCell ⟨g, 0, none⟩ (.int .i64 L)).setCell ⟨g, 1, none⟩ (.int .i64 P)).setCell ⟨g, 2, none⟩ (.slice A6 E1.length c6) = W9 at *
            have s0 := HP9.out.sx.cell 0
            have s1 := HP9.out.sx.cell 1
            have s2 := HP9.out.sx.cell 2
            have s3 := HP9.out.sx.cell 3
            have s4 := HP9.out.sx.cell 4
            have s5 := HP9.out.sx.cell 5
            have s6 := HP9.out.sx.cell 6
            unfold sca at s0 s1 s2 s3 s4 s5 s6
            simp only [List.getElem?_toArray, List.getElem?_cons_zero, List.getElem?_cons_succ] at s0 s1 s2 s3 s4 s5 s6
            go_wp2_with fail
            refine (CM.out _ HP9.out.lv.bl).mono ?_
            rintro e w10 ⟨rfl, hb10⟩
            have HP10 := Lib.hid (HP9.out.below hb10)
            clear s0 s1 s2 s3 s4 s5 s6
            clear hb10
            go_wp2_with fail
            refine (CQ.out _ _ _ _ _ _ HP10.out).mono ?_
            rintro e w11 ⟨r11, d11, rfl, hp11, hd11⟩
            rw [HZ.out]
            have HK : Hid (InvK w w11 b g L P ks (sca u)) := ⟨_, _, _, _, _, hp11.pq (hd11.trans HPE.out.symm)⟩
            clear hp11 hd11
            go_wp2_with fail
            go_meet
            exact ⟨rfl, HK.out⟩
        · as_aux_lemma =>
          have HMw := Lib.hid (Sp.msg_wr HU.out.1.wr)
          obtain ⟨M, hM⟩ : ∃ M, u.msg = M := ⟨_, rfl⟩
          have CM : Hid (∀ V, Below w.heap.size w V → Calls Try.prog 31 #[.agg #[.int .i64 u.k, .int .i64 u.n, .slice u.m.a u.m.ws.length u.m.c, .int .i64 u.m.ln, .int .i64 u.m.st, .int .i64 u.m.lt, .int .i64 u.m.sq]] V fun e w' => e = .returned M.val ∧ Below V.heap.size V w') := fun V hV => by rw [← hM]; exact msg_any u (HU.out.1.wr.below hV)
          rw [hM] at HMw
          clear hM
          have CP : Hid (∀ V, Below w5.heap.size w5 V → Calls Try.prog 30 #[.agg #[.int .i64 L, .int .i64 P, .slice A0 e0.length c0], M.val] V (RpP w V b r d g L P M)) := fun V hV => rput_p (HP5.out.below hV) HMw.out.1 (by have := HMw.out.2; omega)
          have CQ : Hid (∀ V r d A' c' e', PH w V b r d g L P A' c' e' ks (sca u) → Calls Try.prog 32 #[.pointer (some ⟨b, 0, none⟩), M.val] V fun x V' => ∃ r' d', x = .returned (.int .i64 (pcode L P d M.ln)) ∧ PH w V' b r' d' g L P A' c' e' ks (sca u) ∧ d'.map MV.pl = putP L P d M) := fun V r d A' c' e' h => put_ph h (HMw.out.1.below h.lv.bl) (by have := HMw.out.2; omega)
          have HBw := Lib.hid HP5.out.lv.bl
          have HS : Hid (∀ V, Below w5.heap.size w5 V → (Below w5.heap.size w5 V ∧ (∀ i, V.cell? ⟨g, i, none⟩ = (#[.int .i64 L, .int .i64 P, .slice A0 e0.length c0] : Array Value)[i]?) ∧ (∀ i, V.cell? ⟨ks, i, none⟩ = (#[.int .i64 u.k, .int .i64 u.n, .slice u.m.a u.m.ws.length u.m.c, .int .i64 u.m.ln, .int .i64 u.m.st, .int .i64 u.m.lt, .int .i64 u.m.sq] : Array Value)[i]?))) := fun V h => ⟨h, (HP5.out.bx.bel h).cell, (HP5.out.sx.bel h).cell⟩
          obtain ⟨z, hz⟩ : ∃ z, pcode L P d M.ln = z := ⟨_, rfl⟩
          have HZ := Lib.hid hz
          unfold RpP at CP
          rw [hz] at CP
          clear hz
          unfold MV.val at CM CP CQ
          have tz : (z == z) = true := by simp
          go_upto_region 15 with fail
          go_cut [12, 13] (fun v0 v1 V => ∃ (nb : Nat) (A' : Option Addr) (c' : Nat) (e' : List MV), v0 = .pointer (some ⟨nb, 0, none⟩) ∧ NxP w w5 V b r g L P nb A' c' e' ∧ e'.map MV.pl = putP L P d M ∧ v1 = .int .i64 z)
          case first =>
            have S0 : Below w5.heap.size w5 w5.drew := (Below.refl _ _).drew
            go_region_held3 (fun V => Below w5.heap.size w5 V ∧ (∀ i, V.cell? ⟨g, i, none⟩ = (#[.int .i64 L, .int .i64 P, .slice A0 e0.length c0] : Array Value)[i]?) ∧ (∀ i, V.cell? ⟨ks, i, none⟩ = (#[.int .i64 u.k, .int .i64 u.n, .slice u.m.a u.m.ws.length u.m.c, .int .i64 u.m.ln, .int .i64 u.m.st, .int .i64 u.m.lt, .int .i64 u.m.sq] : Array Value)[i]?)) (first | (with_reducible exact HS.out _ S0) | (with_reducible exact HS.out _ (ba1 S0 _)) | (with_reducible exact HS.out _ ((b01 w5 _).drew)) | ((with_reducible refine HS.out _ (bel3 S0 ?_ _ _ _)); first | exact Nat.le_refl _ | assumption | fail) | fail)
              (first
                | (go_at_call 31; first
                    | ((with_reducible refine (CM.out _ (bt HBw.out S0)).mono ?_); rintro e w6 ⟨rfl, hb6⟩; have S0 := bt S0 hb6)
                    | ((with_reducible refine (CM.out _ (bt HBw.out ((b01 w5 _).drew))).mono ?_); rintro e w6 ⟨rfl, hb6⟩; have S0 := bt ((b01 w5 _).drew) hb6; have Zb := ((Blk.new w5 53 _).bel (Below.refl _ _).drew).bel hb6)
                    | fail)
                | (go_at_call 30; first
                    | ((with_reducible refine (CP.out _ S0).mono ?_); rintro e w8 ⟨A', c', e', rfl, hn8, hp8, hb8⟩; unfold rLv; have Zb := Zb.bel hb8; have zc := Zb.cell; have zf := Zb.frozen; have zl := Zb.lt; have S0 := bt S0 hb8)
                    | ((with_reducible refine (CP.out _ (ba1 S0 _)).mono ?_); rintro e w8 ⟨A', c', e', rfl, hn8, hp8, hb8⟩; unfold rLv; have Zc := (Blk.new w6 53 _).bel hb8; have zc := Zc.cell; have zf := Zc.frozen; have zl := Zc.lt; have hzn := S0.size; have S0 := bt (ba1 S0 _) hb8)
                    | ((with_reducible refine (CP.out _ S0).mono ?_); rintro e w8 ⟨A', c', e', rfl, hn8, hp8, hb8⟩; unfold rLv; have Zd := S0.size; have S0 := bt S0 hb8)
                    | fail)
                | fail)
            all_goals
              go_wp2_with fail
              go_meet
              first
                | with_reducible exact ⟨_, A', c', e', rfl, nx_alloc S0 hn8, hp8, rfl⟩
                | with_reducible exact ⟨_, A', c', e', rfl, nx_put S0 (Nat.le_refl _) Zb hn8, hp8, rfl⟩
                | with_reducible exact ⟨_, A', c', e', rfl, nx_put S0 hzn Zc hn8, hp8, rfl⟩
                | fail
          case rest =>
            obtain ⟨nb, A6, c6, E1, rfl, hx, hpe, rfl⟩ := hcut
            have HX := Lib.hid hx
            have HPE := Lib.hid hpe
            have HP6 := Lib.hid (HP5.out.below hx.bl)
            have j0 := hx.bx.cell 0
            have j1 := hx.bx.cell 1
            have j2 := hx.bx.cell 2
            simp only [List.getElem?_toArray, List.getElem?_cons_zero, List.getElem?_cons_succ] at j0 j1 j2
            have k0 := HP6.out.bx.cell 0
            have k1 := HP6.out.bx.cell 1
            have k2 := HP6.out.bx.cell 2
            have kf := HP6.out.bx.frozen
            simp only [List.getElem?_toArray, List.getElem?_cons_zero, List.getElem?_cons_succ] at k0 k1 k2
            clear hx hpe
            go_upto_region 17 with fail
            have HP9 := Lib.hid (HP6.out.ph.put HX.out.nr)
            clear k0 k1 k2 kf
            clear j0 j1 j2
            generalize ((wc.setCell ⟨g, 0, none⟩ (.int .i64 L)).setCell ⟨g, 1, none⟩ (.int .i64 P)).setCell ⟨g, 2, none⟩ (.slice A6 E1.length c6) = W9 at *
            have s0 := HP9.out.sx.cell 0
            have s1 := HP9.out.sx.cell 1
            have s2 := HP9.out.sx.cell 2
            have s3 := HP9.out.sx.cell 3
            have s4 := HP9.out.sx.cell 4
            have s5 := HP9.out.sx.cell 5
            have s6 := HP9.out.sx.cell 6
            unfold sca at s0 s1 s2 s3 s4 s5 s6
            simp only [List.getElem?_toArray, List.getElem?_cons_zero, List.getElem?_cons_succ] at s0 s1 s2 s3 s4 s5 s6
            go_wp2_with fail
            refine (CM.out _ HP9.out.lv.bl).mono ?_
            rintro e w10 ⟨rfl, hb10⟩
            have HP10 := Lib.hid (HP9.out.below hb10)
            clear s0 s1 s2 s3 s4 s5 s6
            clear hb10
            go_wp2_with fail
            refine (CQ.out _ _ _ _ _ _ HP10.out).mono ?_
            rintro e w11 ⟨r11, d11, rfl, hp11, hd11⟩
            rw [HZ.out]
            have HK : Hid (InvK w w11 b g L P ks (sca u)) := ⟨_, _, _, _, _, hp11.pq (hd11.trans HPE.out.symm)⟩
            clear hp11 hd11
            go_wp2_with fail
            go_meet
            exact ⟨rfl, HK.out⟩
        · as_aux_lemma =>
          have k0 := HP5.out.bx.cell 0
          have k1 := HP5.out.bx.cell 1
          have k2 := HP5.out.bx.cell 2
          have kf := HP5.out.bx.frozen
          simp only [List.getElem?_toArray, List.getElem?_cons_zero, List.getElem?_cons_succ] at k0 k1 k2
          have CT := Lib.hid (rtake_p HP5.out)
          obtain ⟨hh1, hh2, hh3⟩ := head_pl HP5.out.pl
          have hwM : Wr w (e0.headD z0) := by
            cases e0 with
            | nil => exact ⟨Row.none_, Nat.le_refl _, by decide⟩
            | cons m t => exact (HP5.out.nr.ws m (List.mem_cons_self ..)).1
          unfold RtP at CT
          rw [← hh2] at CT
          generalize e0.headD z0 = M at *
          generalize e0.drop 1 = E1 at *
          obtain ⟨bo, hbo⟩ : ∃ bo, (!d.isEmpty) = bo := ⟨_, rfl⟩
          rw [hbo] at CT
          have HH := Lib.hid (And.intro hh1 (And.intro hh3 hwM))
          have HBO := Lib.hid hbo
          have tb : (bo == bo) = true := by simp
          clear hh1 hh2 hh3 hwM hbo
          go_wp2_with fail
          refine CT.out.mono ?_
          rintro e w6 ⟨A6, c6, rfl, hn6, hb6⟩
          unfold rLv MV.val
          clear k0 k1 k2 kf
          have HP6 := Lib.hid (HP5.out.below hb6)
          have b7 := ba1 (b01 w6 (.cells #[.int .i64 L, .int .i64 P, .slice A6 E1.length c6] 53)) (.cells #[.slice M.a M.ws.length M.c, .int .i64 M.ln, .int .i64 M.st, .int .i64 M.lt, .int .i64 M.sq] 58)
          have HP7 := Lib.hid (HP6.out.below b7)
          have HN7 := Lib.hid (hn6.below b7)
          have HX7 := Lib.hid (Blk.new_at (w := w6.alloc (.cells #[.int .i64 L, .int .i64 P, .slice A6 E1.length c6] 53)) (n := w6.heap.size + 1) (by rw [World.size_alloc]) 58 #[.slice M.a M.ws.length M.c, .int .i64 M.ln, .int .i64 M.st, .int .i64 M.lt, .int .i64 M.sq])
          have HF7 := Lib.hid (HP6.out.ph.new_ap (show w6.heap.size ≤ w6.heap.size + 1 by omega)).1
          clear hn6 hb6 CT b7
          have k0 := HP7.out.bx.cell 0
          have k1 := HP7.out.bx.cell 1
          have k2 := HP7.out.bx.cell 2
          have kf := HP7.out.bx.frozen
          simp only [List.getElem?_toArray, List.getElem?_cons_zero, List.getElem?_cons_succ] at k0 k1 k2
          go_upto_region 22 with fail
          have HP9 := Lib.hid (HP7.out.ph.put HN7.out)
          have HX9 := Lib.hid (((HX7.out.far (p := ⟨g, 0, none⟩) (HX7.out.ne_ HP7.out.bx (by decide)) (.int .i64 L)).far (p := ⟨g, 1, none⟩) (HX7.out.ne_ HP7.out.bx (by decide)) (.int .i64 P)).far (p := ⟨g, 2, none⟩) (HX7.out.ne_ HP7.out.bx (by decide)) (.slice A6 E1.length c6))
          clear k0 k1 k2 kf
          clear HP7 HN7 HX7
          generalize ((((w6.alloc (.cells #[.int .i64 L, .int .i64 P, .slice A6 E1.length c6] 53)).alloc (.cells #[.slice M.a M.ws.length M.c, .int .i64 M.ln, .int .i64 M.st, .int .i64 M.lt, .int .i64 M.sq] 58)).setCell ⟨g, 0, none⟩ (.int .i64 L)).setCell ⟨g, 1, none⟩ (.int .i64 P)).setCell ⟨g, 2, none⟩ (.slice A6 E1.length c6) = W9 at *
          obtain ⟨km, hkm⟩ : ∃ km, w6.heap.size + 1 = km := ⟨_, rfl⟩
          obtain ⟨kn, hkn⟩ : ∃ kn, w6.heap.size = kn := ⟨_, rfl⟩
          rw [hkm] at HX9 HF7 ⊢
          rw [hkn] at ⊢
          clear hkm hkn
          have CP := Lib.hid (peek_ph HP9.out)
          unfold PkP at CP
          rw [HBO.out] at CP
          go_wp2_with fail
          refine CP.out.mono ?_
          rintro e w10 ⟨m1, rfl, hm1, hwo1, hb10⟩
          unfold MV.val
          have b11 := b01 w10 (.cells #[.slice m1.a m1.ws.length m1.c, .int .i64 m1.ln, .int .i64 m1.st, .int .i64 m1.lt, .int .i64 m1.sq] 58)
          have HP11 := Lib.hid ((HP9.out.below hb10).below b11)
          have HX11 := Lib.hid ((HX9.out.bel hb10).bel b11)
          have HY11 := Lib.hid (Blk.new w10 58 #[.slice m1.a m1.ws.length m1.c, .int .i64 m1.ln, .int .i64 m1.st, .int .i64 m1.lt, .int .i64 m1.sq])
          have HF11 := Lib.hid ((HP9.out.below hb10).new_ap (Nat.le_refl w10.heap.size)).1
          have HW11 := Lib.hid (hwo1.below b11)
          have HM1 := Lib.hid hm1
          clear hm1 hwo1 hb10 b11 CP HP9 HX9
          obtain ⟨kp, hkp⟩ : ∃ kp, w10.heap.size = kp := ⟨_, rfl⟩
          rw [hkp] at HY11 HF11
          have CK := Lib.hid (take_ph HP11.out)
          unfold TkP at CK
          rw [HBO.out] at CK
          go_wp2_with fail
          clear hkp
          generalize w10.alloc (.cells #[.slice m1.a m1.ws.length m1.c, .int .i64 m1.ln, .int .i64 m1.st, .int .i64 m1.lt, .int .i64 m1.sq] 58) = W11 at *
          refine CK.out.mono ?_
          rintro e w12 ⟨r12, rfl, hp12, hs12, hw12⟩
          have HM2 := Lib.hid HM1.out
          generalize d.headD z0 = Hd at *
          unfold MV.val
          have b13 := b01 w12 (.cells #[.slice Hd.a Hd.ws.length Hd.c, .int .i64 Hd.ln, .int .i64 Hd.st, .int .i64 Hd.lt, .int .i64 Hd.sq] 58)
          have HP13 := Lib.hid (hp12.below b13)
          have HX13 := Lib.hid ((hs12.keep HX11.out HF7.out).1.bel b13)
          have HY13 := Lib.hid ((hs12.keep HY11.out HF11.out).1.bel b13)
          have HZ13 := Lib.hid (Blk.new w12 58 #[.slice Hd.a Hd.ws.length Hd.c, .int .i64 Hd.ln, .int .i64 Hd.st, .int .i64 Hd.lt, .int .i64 Hd.sq])
          have HWp := Lib.hid ((HW11.out.only hs12.on HP11.out.lv.ln.no_int).below b13).wr
          have HWn := Lib.hid (hw12.below b13)
          clear hp12 hs12 hw12 b13 CK HX11 HY11 HW11 HF7 HF11
          obtain ⟨kq, hkq⟩ : ∃ kq, w12.heap.size = kq := ⟨_, rfl⟩
          rw [hkq] at HZ13
          have x0 := HX13.out.cell 0
          have x1 := HX13.out.cell 1
          have x2 := HX13.out.cell 2
          have x3 := HX13.out.cell 3
          have x4 := HX13.out.cell 4
          simp only [List.getElem?_toArray, List.getElem?_cons_zero, List.getElem?_cons_succ] at x0 x1 x2 x3 x4
          have z0 := HZ13.out.cell 0
          have z1 := HZ13.out.cell 1
          have z2 := HZ13.out.cell 2
          have z3 := HZ13.out.cell 3
          have z4 := HZ13.out.cell 4
          simp only [List.getElem?_toArray, List.getElem?_cons_zero, List.getElem?_cons_succ] at z0 z1 z2 z3 z4
          have CO := Lib.hid (ron_p (HH.out.2.2.below HP13.out.lv.bl) HWn.out HH.out.1.symm)
          unfold MV.val at CO
          go_wp2_with fail
          clear hkq
          generalize w12.alloc (.cells #[.slice Hd.a Hd.ws.length Hd.c, .int .i64 Hd.ln, .int .i64 Hd.st, .int .i64 Hd.lt, .int .i64 Hd.sq] 58) = W13 at *
          refine CO.out.mono ?_
          rintro e w14 ⟨rfl, hb14⟩
          have HP14 := Lib.hid (HP13.out.below hb14)
          have HX14 := Lib.hid (HX13.out.bel hb14)
          have HY14 := Lib.hid (HY13.out.bel hb14)
          clear x0 x1 x2 x3 x4
          clear z0 z1 z2 z3 z4
          have x0 := HX14.out.cell 0
          have x1 := HX14.out.cell 1
          have x2 := HX14.out.cell 2
          have x3 := HX14.out.cell 3
          have x4 := HX14.out.cell 4
          simp only [List.getElem?_toArray, List.getElem?_cons_zero, List.getElem?_cons_succ] at x0 x1 x2 x3 x4
          have y0 := HY14.out.cell 0
          have y1 := HY14.out.cell 1
          have y2 := HY14.out.cell 2
          have y3 := HY14.out.cell 3
          have y4 := HY14.out.cell 4
          simp only [List.getElem?_toArray, List.getElem?_cons_zero, List.getElem?_cons_succ] at y0 y1 y2 y3 y4
          have CO2 := Lib.hid (ron_p (HH.out.2.2.below HP14.out.lv.bl) (HWp.out.below hb14) (HH.out.1.symm.trans HM2.out.symm))
          unfold MV.val at CO2
          clear hb14
          go_wp2_with fail
          refine CO2.out.mono ?_
          rintro e w15 ⟨rfl, hb15⟩
          have HX : Hid (InvK w w15 b g L P ks (sca u)) := ⟨_, _, _, _, _, (HP14.out.below hb15).pq HH.out.2.1⟩
          clear hb15
          go_wp2_with fail
          go_meet
          exact ⟨rfl, HX.out⟩
        · as_aux_lemma =>
          have k0 := HP5.out.bx.cell 0
          have k1 := HP5.out.bx.cell 1
          have k2 := HP5.out.bx.cell 2
          have kf := HP5.out.bx.frozen
          simp only [List.getElem?_toArray, List.getElem?_cons_zero, List.getElem?_cons_succ] at k0 k1 k2
          have CT := Lib.hid (rtake_p HP5.out)
          obtain ⟨hh1, hh2, hh3⟩ := head_pl HP5.out.pl
          have hwM : Wr w (e0.headD z0) := by
            cases e0 with
            | nil => exact ⟨Row.none_, Nat.le_refl _, by decide⟩
            | cons m t => exact (HP5.out.nr.ws m (List.mem_cons_self ..)).1
          unfold RtP at CT
          rw [← hh2] at CT
          generalize e0.headD z0 = M at *
          generalize e0.drop 1 = E1 at *
          obtain ⟨bo, hbo⟩ : ∃ bo, (!d.isEmpty) = bo := ⟨_, rfl⟩
          rw [hbo] at CT
          have HH := Lib.hid (And.intro hh1 (And.intro hh3 hwM))
          have HBO := Lib.hid hbo
          have tb : (bo == bo) = true := by simp
          clear hh1 hh2 hh3 hwM hbo
          go_wp2_with fail
          refine CT.out.mono ?_
          rintro e w6 ⟨A6, c6, rfl, hn6, hb6⟩
          unfold rLv MV.val
          clear k0 k1 k2 kf
          have HP6 := Lib.hid (HP5.out.below hb6)
          have b7 := ba1 (b01 w6 (.cells #[.int .i64 L, .int .i64 P, .slice A6 E1.length c6] 53)) (.cells #[.slice M.a M.ws.length M.c, .int .i64 M.ln, .int .i64 M.st, .int .i64 M.lt, .int .i64 M.sq] 58)
          have HP7 := Lib.hid (HP6.out.below b7)
          have HN7 := Lib.hid (hn6.below b7)
          have HX7 := Lib.hid (Blk.new_at (w := w6.alloc (.cells #[.int .i64 L, .int .i64 P, .slice A6 E1.length c6] 53)) (n := w6.heap.size + 1) (by rw [World.size_alloc]) 58 #[.slice M.a M.ws.length M.c, .int .i64 M.ln, .int .i64 M.st, .int .i64 M.lt, .int .i64 M.sq])
          have HF7 := Lib.hid (HP6.out.ph.new_ap (show w6.heap.size ≤ w6.heap.size + 1 by omega)).1
          clear hn6 hb6 CT b7
          have k0 := HP7.out.bx.cell 0
          have k1 := HP7.out.bx.cell 1
          have k2 := HP7.out.bx.cell 2
          have kf := HP7.out.bx.frozen
          simp only [List.getElem?_toArray, List.getElem?_cons_zero, List.getElem?_cons_succ] at k0 k1 k2
          go_upto_region 22 with fail
          have HP9 := Lib.hid (HP7.out.ph.put HN7.out)
          have HX9 := Lib.hid (((HX7.out.far (p := ⟨g, 0, none⟩) (HX7.out.ne_ HP7.out.bx (by decide)) (.int .i64 L)).far (p := ⟨g, 1, none⟩) (HX7.out.ne_ HP7.out.bx (by decide)) (.int .i64 P)).far (p := ⟨g, 2, none⟩) (HX7.out.ne_ HP7.out.bx (by decide)) (.slice A6 E1.length c6))
          clear k0 k1 k2 kf
          clear HP7 HN7 HX7
          generalize ((((w6.alloc (.cells #[.int .i64 L, .int .i64 P, .slice A6 E1.length c6] 53)).alloc (.cells #[.slice M.a M.ws.length M.c, .int .i64 M.ln, .int .i64 M.st, .int .i64 M.lt, .int .i64 M.sq] 58)).setCell ⟨g, 0, none⟩ (.int .i64 L)).setCell ⟨g, 1, none⟩ (.int .i64 P)).setCell ⟨g, 2, none⟩ (.slice A6 E1.length c6) = W9 at *
          obtain ⟨km, hkm⟩ : ∃ km, w6.heap.size + 1 = km := ⟨_, rfl⟩
          obtain ⟨kn, hkn⟩ : ∃ kn, w6.heap.size = kn := ⟨_, rfl⟩
          rw [hkm] at HX9 HF7 ⊢
          rw [hkn] at ⊢
          clear hkm hkn
          have CP := Lib.hid (peek_ph HP9.out)
          unfold PkP at CP
          rw [HBO.out] at CP
          go_wp2_with fail
          refine CP.out.mono ?_
          rintro e w10 ⟨m1, rfl, hm1, hwo1, hb10⟩
          unfold MV.val
          have b11 := b01 w10 (.cells #[.slice m1.a m1.ws.length m1.c, .int .i64 m1.ln, .int .i64 m1.st, .int .i64 m1.lt, .int .i64 m1.sq] 58)
          have HP11 := Lib.hid ((HP9.out.below hb10).below b11)
          have HX11 := Lib.hid ((HX9.out.bel hb10).bel b11)
          have HY11 := Lib.hid (Blk.new w10 58 #[.slice m1.a m1.ws.length m1.c, .int .i64 m1.ln, .int .i64 m1.st, .int .i64 m1.lt, .int .i64 m1.sq])
          have HF11 := Lib.hid ((HP9.out.below hb10).new_ap (Nat.le_refl w10.heap.size)).1
          have HW11 := Lib.hid (hwo1.below b11)
          have HM1 := Lib.hid hm1
          clear hm1 hwo1 hb10 b11 CP HP9 HX9
          obtain ⟨kp, hkp⟩ : ∃ kp, w10.heap.size = kp := ⟨_, rfl⟩
          rw [hkp] at HY11 HF11
          have CK := Lib.hid (take_ph HP11.out)
          unfold TkP at CK
          rw [HBO.out] at CK
          go_wp2_with fail
          clear hkp
          generalize w10.alloc (.cells #[.slice m1.a m1.ws.length m1.c, .int .i64 m1.ln, .int .i64 m1.st, .int .i64 m1.lt, .int .i64 m1.sq] 58) = W11 at *
          refine CK.out.mono ?_
          rintro e w12 ⟨r12, rfl, hp12, hs12, hw12⟩
          have HM2 := Lib.hid HM1.out
          generalize d.headD z0 = Hd at *
          unfold MV.val
          have b13 := b01 w12 (.cells #[.slice Hd.a Hd.ws.length Hd.c, .int .i64 Hd.ln, .int .i64 Hd.st, .int .i64 Hd.lt, .int .i64 Hd.sq] 58)
          have HP13 := Lib.hid (hp12.below b13)
          have HX13 := Lib.hid ((hs12.keep HX11.out HF7.out).1.bel b13)
          have HY13 := Lib.hid ((hs12.keep HY11.out HF11.out).1.bel b13)
          have HZ13 := Lib.hid (Blk.new w12 58 #[.slice Hd.a Hd.ws.length Hd.c, .int .i64 Hd.ln, .int .i64 Hd.st, .int .i64 Hd.lt, .int .i64 Hd.sq])
          have HWp := Lib.hid ((HW11.out.only hs12.on HP11.out.lv.ln.no_int).below b13).wr
          have HWn := Lib.hid (hw12.below b13)
          clear hp12 hs12 hw12 b13 CK HX11 HY11 HW11 HF7 HF11
          obtain ⟨kq, hkq⟩ : ∃ kq, w12.heap.size = kq := ⟨_, rfl⟩
          rw [hkq] at HZ13
          have x0 := HX13.out.cell 0
          have x1 := HX13.out.cell 1
          have x2 := HX13.out.cell 2
          have x3 := HX13.out.cell 3
          have x4 := HX13.out.cell 4
          simp only [List.getElem?_toArray, List.getElem?_cons_zero, List.getElem?_cons_succ] at x0 x1 x2 x3 x4
          have z0 := HZ13.out.cell 0
          have z1 := HZ13.out.cell 1
          have z2 := HZ13.out.cell 2
          have z3 := HZ13.out.cell 3
          have z4 := HZ13.out.cell 4
          simp only [List.getElem?_toArray, List.getElem?_cons_zero, List.getElem?_cons_succ] at z0 z1 z2 z3 z4
          have CO := Lib.hid (ron_p (HH.out.2.2.below HP13.out.lv.bl) HWn.out HH.out.1.symm)
          unfold MV.val at CO
          go_wp2_with fail
          clear hkq
          generalize w12.alloc (.cells #[.slice Hd.a Hd.ws.length Hd.c, .int .i64 Hd.ln, .int .i64 Hd.st, .int .i64 Hd.lt, .int .i64 Hd.sq] 58) = W13 at *
          refine CO.out.mono ?_
          rintro e w14 ⟨rfl, hb14⟩
          have HP14 := Lib.hid (HP13.out.below hb14)
          have HX14 := Lib.hid (HX13.out.bel hb14)
          have HY14 := Lib.hid (HY13.out.bel hb14)
          clear x0 x1 x2 x3 x4
          clear z0 z1 z2 z3 z4
          have x0 := HX14.out.cell 0
          have x1 := HX14.out.cell 1
          have x2 := HX14.out.cell 2
          have x3 := HX14.out.cell 3
          have x4 := HX14.out.cell 4
          simp only [List.getElem?_toArray, List.getElem?_cons_zero, List.getElem?_cons_succ] at x0 x1 x2 x3 x4
          have y0 := HY14.out.cell 0
          have y1 := HY14.out.cell 1
          have y2 := HY14.out.cell 2
          have y3 := HY14.out.cell 3
          have y4 := HY14.out.cell 4
          simp only [List.getElem?_toArray, List.getElem?_cons_zero, List.getElem?_cons_succ] at y0 y1 y2 y3 y4
          have CO2 := Lib.hid (ron_p (HH.out.2.2.below HP14.out.lv.bl) (HWp.out.below hb14) (HH.out.1.symm.trans HM2.out.symm))
          unfold MV.val at CO2
          clear hb14
          go_wp2_with fail
          refine CO2.out.mono ?_
          rintro e w15 ⟨rfl, hb15⟩
          have HX : Hid (InvK w w15 b g L P ks (sca u)) := ⟨_, _, _, _, _, (HP14.out.below hb15).pq HH.out.2.1⟩
          clear hb15
          go_wp2_with fail
          go_meet
          exact ⟨rfl, HX.out⟩
        · as_aux_lemma =>
          have k0 := HP5.out.bx.cell 0
          have k1 := HP5.out.bx.cell 1
          have k2 := HP5.out.bx.cell 2
          have kf := HP5.out.bx.frozen
          simp only [List.getElem?_toArray, List.getElem?_cons_zero, List.getElem?_cons_succ] at k0 k1 k2
          have s1 := HP5.out.sx.cell 1
          unfold sca at s1
          simp only [List.getElem?_toArray, List.getElem?_cons_zero, List.getElem?_cons_succ] at s1
          have CW := Lib.hid (fun V (hV : Below w5.heap.size w5 V) => rsweep_p (HP5.out.below hV) u.n)
          go_wp2_with fail
          refine (CW.out _ (Below.refl _ _)).mono ?_
          rintro e w6 ⟨A6, c6, A7, c7, rfl, hn6, hn7, hb6⟩
          unfold rLv
          have hpl6 := filt_pl HP5.out.pl (fun t => late u.n t)
          have hpl7 := filt_pl HP5.out.pl (fun t => !late u.n t)
          have h24 := HP5.out.len
          have hlg : (d.filter fun m => late u.n m.lt).length ≤ 1000 := Nat.le_trans (List.length_filter_le _ _) (by omega)
          have HG : Hid (∀ V, PH w V b r d g L P A6 c6 (e0.filter fun m => !late u.n m.lt) ks (sca u) → Calls Try.prog 39 #[.pointer (some ⟨b, 0, none⟩), .int .i64 u.n] V (OuP w V b r (d.filter fun m => late u.n m.lt) (d.filter fun m => !late u.n m.lt) g L P A6 c6 (e0.filter fun m => !late u.n m.lt) ks (sca u))) := fun V h => sweep_ph h u.n
          generalize (e0.filter fun m => !late u.n m.lt) = E1 at *
          generalize (e0.filter fun m => late u.n m.lt) = E2 at *
          generalize (d.filter fun m => !late u.n m.lt) = D1 at *
          generalize (d.filter fun m => late u.n m.lt) = D2 at *
          have b7 := b01 w6 (.cells #[.int .i64 L, .int .i64 P, .slice A6 E1.length c6] 53)
          have HP7 := Lib.hid ((HP5.out.below hb6).below b7)
          have HN6 := Lib.hid (hn6.below b7)
          have HN7 := Lib.hid (hn7.below b7)
          have HPL := Lib.hid (And.intro hpl6 hpl7)
          clear k0 k1 k2 kf
          clear s1 hn6 hn7 hb6 b7 CW hpl6 hpl7
          have k0 := HP7.out.bx.cell 0
          have k1 := HP7.out.bx.cell 1
          have k2 := HP7.out.bx.cell 2
          have kf := HP7.out.bx.frozen
          simp only [List.getElem?_toArray, List.getElem?_cons_zero, List.getElem?_cons_succ] at k0 k1 k2
          have s1 := HP7.out.sx.cell 1
          unfold sca at s1
          simp only [List.getElem?_toArray, List.getElem?_cons_zero, List.getElem?_cons_succ] at s1
          go_upto_region 28 with fail
          have HP9 := Lib.hid (HP7.out.ph.put HN6.out)
          have HN9 := Lib.hid (HN7.out.put (.int .i64 L) (.int .i64 P) (.slice A6 E1.length c6))
          clear k0 k1 k2 kf
          clear s1
          generalize ((((w6.alloc (.cells #[.int .i64 L, .int .i64 P, .slice A6 E1.length c6] 53)).setCell ⟨g, 0, none⟩ (.int .i64 L)).setCell ⟨g, 1, none⟩ (.int .i64 P)).setCell ⟨g, 2, none⟩ (.slice A6 E1.length c6)) = W9 at *
          have s1 := HP9.out.sx.cell 1
          unfold sca at s1
          simp only [List.getElem?_toArray, List.getElem?_cons_zero, List.getElem?_cons_succ] at s1
          go_wp2_with fail
          refine (HG.out _ HP9.out).mono ?_
          rintro e w10 ⟨A8, c8, r8, rfl, hr8, hw8, hp8, hs8⟩
          have HN10 := Lib.hid (HN9.out.step hs8)
          have HP10 := Lib.hid hp8
          have CS := Lib.hid (rsame_n (c' := c8) hr8 hw8 HN10.out hp8.lv.bl HPL.out.1 hlg)
          clear hr8 hw8 hp8 hs8 s1
          go_wp2_with fail
          refine CS.out.mono ?_
          rintro e w11 ⟨rfl, hb11⟩
          have HX : Hid (InvK w w11 b g L P ks (sca u)) := ⟨_, _, _, _, _, (HP10.out.below hb11).pq HPL.out.2⟩
          clear hb11
          go_wp2_with fail
          go_meet
          exact ⟨rfl, HX.out⟩
        · as_aux_lemma =>
          have s1 := HP5.out.sx.cell 1
          unfold sca at s1
          simp only [List.getElem?_toArray, List.getElem?_cons_zero, List.getElem?_cons_succ] at s1
          by_cases hy : u.n.tmod 4 = 0
          · skip
            have h24 : d.length ≤ 24 := HP5.out.len.2
            have k2 := HP5.out.bx.cell 2
            simp only [List.getElem?_toArray, List.getElem?_cons_zero, List.getElem?_cons_succ] at k2
            have S5 := HP5.out.below (Below.refl _ _).drew
            have HQ0 : Hid (w5.drew.cell? ⟨g, 2, none⟩ = some (.slice A0 e0.length c0)) := by show w5.drew.cell? ⟨g, 2, none⟩ = some (.slice A0 e0.length c0); rw [S5.bx.cell]; rfl
            have CF := Lib.hid (flush_ph S5.ph)
            have CS : Hid (∀ V A' c' r', Row V A' (mvs d) → WsR V d → PH w V b r' [] g L P A0 c0 e0 ks (sca u) → Calls Try.prog 38 #[.slice A' d.length c', .slice A0 e0.length c0] V fun x V' => x = .returned (.bool true) ∧ Below V.heap.size V V') := fun V A' c' r' h1 h2 h3 => rsame_n h1 h2 h3.nr h3.lv.bl HP5.out.pl (by omega)
            clear S5 k2
            go_upto_region 31 with fail
            go_region_held3 (fun V => V.cell? ⟨g, 2, none⟩ = some (.slice A0 e0.length c0)) (first | (with_reducible exact HQ0.out) | (with_reducible exact HQ6.out) | (with_reducible exact HQ7.out) | fail)
              (first
                | (go_at_call 40; (with_reducible refine CF.out.mono ?_); rintro e w6 ⟨A6, c6, r6, rfl, hr6, hw6, hp6, hs6⟩; have HP6 := Lib.hid hp6; have HQ6 : Hid (w6.cell? ⟨g, 2, none⟩ = some (.slice A0 e0.length c0)) := (by show w6.cell? ⟨g, 2, none⟩ = some (.slice A0 e0.length c0); rw [hp6.bx.cell]; rfl); have C6 := Lib.hid (CS.out _ A6 c6 _ hr6 hw6 hp6); clear hr6 hw6 hp6 hs6)
                | (go_at_call 38; (with_reducible refine C6.out.mono ?_); rintro e w7 ⟨rfl, hb7⟩; have HP7 := Lib.hid (HP6.out.below hb7); have HQ7 : Hid (w7.cell? ⟨g, 2, none⟩ = some (.slice A0 e0.length c0)) := (by show w7.cell? ⟨g, 2, none⟩ = some (.slice A0 e0.length c0); rw [HP7.out.bx.cell]; rfl); clear hb7)
                | fail)
            have HP8 : Hid (PH w (w7.setCell ⟨g, 2, none⟩ (.slice none 0 0)) b r6 [] g L P none 0 [] ks (sca u)) := HP7.out.put2 (NR.nil_ w w7 b r6 g)
            have k2 := HQ7.out
            have kf := HP7.out.bx.frozen
            clear s1
            go_wp2_with fail
            have HX : Hid (InvK w (w7.setCell ⟨g, 2, none⟩ (.slice none 0 0)) b g L P ks (sca u)) := ⟨_, _, _, _, _, HP8.out.pq rfl⟩
            go_meet
            exact ⟨rfl, HX.out⟩
          · have t3 : (u.n.tmod 4 == 0) = false := by rw [beq_eq_false_iff_ne]; exact hy
            have HX : Hid (InvK w w5 b g L P ks (sca u)) := ⟨_, _, _, _, _, HP5.out⟩
            clear hy
            go_wp2_with fail
            go_meet
            exact ⟨rfl, HX.out⟩
      case rest =>
        as_aux_lemma =>
        obtain ⟨rfl, r, d, A1, c1, e1, hp⟩ := hcut
        obtain ⟨N, hN⟩ : ∃ N, d.length = N := ⟨_, rfl⟩
        have hNe : e1.length = N := by have := hp.len; omega
        have hN24 : N ≤ 24 := by have := hp.len; omega
        have HI9 := Lib.hid (inv_of hp)
        have CLen : Hid (∀ V, Below wc.heap.size wc V → Calls Try.prog 41 #[.pointer (some ⟨b, 0, none⟩)] V fun x V' => x = .returned (.int .i64 N) ∧ V = V') := fun V hV => by
          have := len_any (hp.below hV).lv.ln
          rw [hN] at this
          exact this
        have CAll : Hid (∀ V, Below wc.heap.size wc V → Calls Try.prog 42 #[.pointer (some ⟨b, 0, none⟩)] V (LsP V (d.map MV.pl))) := fun V hV => all_p (hp.below hV).ph
        have CSame : Hid (∀ V A' c' l, Below wc.heap.size wc V → Row V A' (mvs l) → WsR V l → l.map MV.pl = d.map MV.pl → Calls Try.prog 38 #[.slice A' l.length c', .slice A1 N c1] V fun x V' => x = .returned (.bool true) ∧ Below V.heap.size V V') := fun V A' c' l hV hr hw hq => by
          have hh := hp.below hV
          have := rsame_p (c := c') (d := c1) hr hh.nr.row hw (fun m hm => (hh.ph.wr m hm).1) (hq.trans hh.pl) (by have := congrArg List.length hq; rw [List.length_map, List.length_map] at this; omega)
          rw [hNe] at this
          exact this
        have CRoom : Hid (∀ V k, Below wc.heap.size wc V → Calls Try.prog 43 #[.pointer (some ⟨b, 0, none⟩), .int .i64 k] V fun x V' => x = .returned (.int .i64 (room L P d k)) ∧ Below V.heap.size V V') := fun V k hV => room_p (hp.below hV).ph k
        have CrRoom : Hid (∀ V k, Below wc.heap.size wc V → Calls Try.prog 44 #[.agg #[.int .i64 L, .int .i64 P, .slice A1 N c1], .int .i64 k] V fun x V' => x = .returned (.int .i64 (room L P d k)) ∧ Below V.heap.size V V') := fun V k hV => by
          have := rroom_p (hp.below hV) k
          rw [hNe] at this
          exact this
        have COf : Hid (∀ V k, Below wc.heap.size wc V → Calls Try.prog 45 #[.pointer (some ⟨b, 0, none⟩), .int .i64 k] V (LsP V ((d.map MV.pl).filter fun m => m.ln == k))) := fun V k hV => of_p (hp.below hV).ph k
        have CrOf : Hid (∀ V k, Below wc.heap.size wc V → Calls Try.prog 46 #[.agg #[.int .i64 L, .int .i64 P, .slice A1 N c1], .int .i64 k] V (LsP V ((d.map MV.pl).filter fun m => m.ln == k))) := fun V k hV => by
          have := rof_p (hp.below hV) k
          rw [hNe, ← hp.pl] at this
          exact this
        have CS2 : Hid (∀ V V0 A' c' l A2 c2 l2 q0, Row V0 A' (mvs l) → WsR V0 l → l.map MV.pl = q0 → Row V A2 (mvs l2) → WsR V l2 → l2.map MV.pl = q0 → q0.length ≤ 24 → Below V0.heap.size V0 V → Calls Try.prog 38 #[.slice A' l.length c', .slice A2 l2.length c2] V fun x V' => x = .returned (.bool true) ∧ Below V.heap.size V V') := fun V V0 A' c' l A2 c2 l2 q0 a1 a2 a3 b1 b2 b3 hq hB => rsame_p (a1.below hB) b1 (a2.below hB) b2 (a3.trans b3.symm) (by have := congrArg List.length a3; rw [List.length_map] at this; omega)
        have HF24 : Hid (∀ k : Int, ((d.map MV.pl).filter fun m => m.ln == k).length ≤ 24) := fun k => Nat.le_trans (List.length_filter_le _ _) (by rw [List.length_map]; omega)
        have HS : Hid (∀ V, Below wc.heap.size wc V → V.cell? ⟨g, 2, none⟩ = some (.slice A1 N c1)) := fun V hV => by rw [(hp.bx.bel hV).cell, ← hNe]; rfl
        have HS3 : Hid (∀ V, Below wc.heap.size wc V → ∀ i, V.cell? ⟨g, i, none⟩ = (#[.int .i64 L, .int .i64 P, .slice A1 N c1] : Array Value)[i]?) := fun V hV => by rw [← hNe]; exact (hp.bx.bel hV).cell
        generalize d.map MV.pl = D at *
        have tN : ((N : Int) != (N : Int)) = false := by simp
        have S0 : Below wc.heap.size wc wc.drew := (Below.refl _ _).drew
        clear hp hN hNe HP5
        go_wp2_with fail
        go_region_held3 (fun V => V.cell? ⟨g, 2, none⟩ = some (.slice A1 N c1)) (first | (with_reducible exact HS.out _ S0) | fail)
          (first
            | (go_at_call 41; (with_reducible refine (CLen.out _ S0).mono ?_); rintro e w' ⟨rfl, rfl⟩)
            | (go_at_call 42; (with_reducible refine (CAll.out _ S0).mono ?_); rintro e w6 ⟨A6, c6, l6, rfl, hr6, hw6, hp6, hb6⟩; have S0 := bt S0 hb6; have H6 := Lib.hid (And.intro hr6 (And.intro hw6 hp6)); clear hr6 hw6 hp6)
            | (go_at_call 38; (with_reducible refine (CSame.out _ _ _ _ S0 H6.out.1 H6.out.2.1 H6.out.2.2).mono ?_); rintro e w7 ⟨rfl, hb7⟩; have S0 := bt S0 hb7)
            | fail)
        have HS7 := Lib.hid S0
        clear hb6 hb7 S0
        go_wp2_with fail
        go_loopw [23] (fun v V => ∃ j : Nat, v = .int .i64 ((j : Int) - 1) ∧ j ≤ 5 ∧ Below wc.heap.size wc V) (fun v _ => 5 - (intOf v + 1).toNat)
        case atStart => exact ⟨0, rfl, by omega, HS7.out⟩
        case round =>
          obtain ⟨j, rfl, hj, hB⟩ := hrel
          obtain ⟨k, hk⟩ : ∃ k : Int, (j : Int) - 1 = k := ⟨_, rfl⟩
          have HK := Lib.hid hk
          have HBr := Lib.hid hB
          rw [hk]
          by_cases hj5 : j < 5
          · have hk4 : k < 4 := by omega
            have hk0 : -1 ≤ k := by omega
            clear hk hB
            have CRoomk := Lib.hid (fun V => CRoom.out V k)
            have CrRoomk := Lib.hid (fun V => CrRoom.out V k)
            have COfk := Lib.hid (fun V => COf.out V k)
            have CrOfk := Lib.hid (fun V => CrOf.out V k)
            have hF := HF24.out k
            generalize room L P d k = R at *
            generalize (D.filter fun m => m.ln == k) = Q at *
            have HF := Lib.hid hF
            clear hF
            have tR : (R != R) = false := by simp
            obtain ⟨Wr, hWr⟩ : ∃ Wr, wr = Wr := ⟨_, rfl⟩
            have S0 : Below wc.heap.size wc wr.drew := HBr.out.drew
            clear hWr
            go_wp2_with fail
            go_region_held3 (fun V => ∀ i, V.cell? ⟨g, i, none⟩ = (#[.int .i64 L, .int .i64 P, .slice A1 N c1] : Array Value)[i]?) (first | (with_reducible exact HS3.out _ S0) | fail)
              (first
                | (go_at_call 43; (with_reducible refine (CRoomk.out _ S0).mono ?_); rintro e w6 ⟨rfl, hb6⟩; have S0 := S0.trans (hb6.mono S0.size))
                | (go_at_call 44; (with_reducible refine (CrRoomk.out _ S0).mono ?_); rintro e w7 ⟨rfl, hb7⟩; have S0 := S0.trans (hb7.mono S0.size))
                | (go_at_call 45; (with_reducible refine (COfk.out _ S0).mono ?_); rintro e w8 ⟨A8, c8, l8, rfl, hr8, hw8, hp8, hb8⟩; have S0 := S0.trans (hb8.mono S0.size); have H8 := Lib.hid (And.intro hr8 (And.intro hw8 hp8)); clear hr8 hw8 hp8)
                | (go_at_call 46; (with_reducible refine (CrOfk.out _ S0).mono ?_); rintro e w9 ⟨A9, c9, l9, rfl, hr9, hw9, hp9, hb9⟩; have S0 := S0.trans (hb9.mono S0.size); have H9 := Lib.hid (And.intro hr9 (And.intro hw9 hp9)); clear hr9 hw9 hp9)
                | (go_at_call 38; (with_reducible refine (CS2.out _ _ _ _ _ _ _ _ _ H8.out.1 H8.out.2.1 H8.out.2.2 H9.out.1 H9.out.2.1 H9.out.2.2 HF.out hb9).mono ?_); rintro e w10 ⟨rfl, hb10⟩; have S0 := S0.trans (hb10.mono S0.size))
                | fail)
            have HZ := Lib.hid S0
            clear hb6 hb7 hb9
            go_wp2_with fail
            go_roundw
            case rel => exact ⟨j + 1, by rw [show (((j + 1 : Nat) : Int)) - 1 = k + 1 by have := HK.out; push_cast; omega], by omega, HZ.out⟩
            case measure => have := HK.out; simp [intOf] <;> omega
          · have hk4 : ¬ k < 4 := by omega
            clear hk hB
            go_wp2_with fail
            go_roundw
            case rel => exact ⟨i + 1, by go_num, by omega, HI9.out.below HBr.out⟩
            case measure => simp [intOf] <;> omega
    · have hltz : ¬ (i : Int) < n := by omega
      go_wp2_with fail
      go_ret
      exact ⟨rfl, hv.bl⟩
end Go.Proofs.Ytfbbgoahipejlaa.lanePlays
