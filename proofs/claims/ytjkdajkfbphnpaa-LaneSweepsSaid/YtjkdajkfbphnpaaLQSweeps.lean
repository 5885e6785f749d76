/- LaneSweeps, walked. -/
import Derived.Test.YtjkdajkfbphnpaaQStep
namespace Go.Proofs.Ytjkdajkfbphnpaa.laneSweeps
open Go.RowKit Go.Proofs.Ytjkdajkfbphnpaa.G Go.Proofs.Ytjkdajkfbphnpaa.L10
set_option maxRecDepth 100000
theorem filt_at {α : Type} {p : α → Bool} {d : List α} {i : Nat} {y : α} (h : d[i]? = some y) (hp : p y = true) : (d.filter p)[((d.take i).filter p).length]? = some y := by
  have hi := (List.getElem?_eq_some_iff.1 h).1
  have e : d = d.take i ++ y :: d.drop (i + 1) := by
    have h1 := List.drop_eq_getElem_cons hi
    rw [List.getElem?_eq_getElem hi] at h
    injection h with h
    rw [h] at h1
    rw [← h1, List.take_append_drop]
  have : d.filter p = (d.take i).filter p ++ y :: (d.drop (i + 1)).filter p := by
    conv => lhs; rw [e]
    rw [List.filter_append, List.filter_cons, if_pos hp]
  rw [this, List.getElem?_append_right (Nat.le_refl _), Nat.sub_self]; rfl
theorem filt_yes {α : Type} {p : α → Bool} {d : List α} {i : Nat} {y : α} (h : d[i]? = some y) (hp : p y = true) : ((d.take (i + 1)).filter p).length = ((d.take i).filter p).length + 1 := by
  rw [take_snoc h, List.filter_append, List.length_append]; simp [hp]
theorem filt_no {α : Type} {p : α → Bool} {d : List α} {i : Nat} {y : α} (h : d[i]? = some y) (hp : p y = false) : ((d.take (i + 1)).filter p).length = ((d.take i).filter p).length := by
  rw [take_snoc h, List.filter_append, List.length_append]; simp [hp]
theorem pl_at {l d : List MV} (h : l.map MV.pl = d.map MV.pl) {i : Nat} {y : MV} (hy : d[i]? = some y) : ∃ x, l[i]? = some x ∧ x.pl = y.pl := by
  have h1 := congrArg (·[i]?) h
  simp only [List.getElem?_map, hy, Option.map_some] at h1
  obtain ⟨x, hx, e⟩ := Option.map_eq_some_iff.1 h1
  exact ⟨x, hx, e⟩
def InvP (w : World) (b P : Nat) (V : World) : Prop := ∃ r d, Lv w V b 3 P r d ∧ St 3 P d ∧ Wd V d
set_option maxHeartbeats 8000000 in
theorem walk {w : World} {A : Option Addr} {l : List Sp} {c : Nat} (p now : Int) (hl : l.length ≤ c) (hc : c ≤ 9223372036854775807) (hr : Row w A (sps l)) (ho : ∀ (k : Nat) (y : Sp), l[k]? = some y → SpOk w y) : Calls Try.prog 5 #[.int .i64 p, .slice A l.length c, .int .i64 now] w fun e w' => e = .returned (.bool true) ∧ Below w.heap.size w w' := by
  have HL := Lib.hid (And.intro hr ho)
  have C1 := Lib.hid (fun V => early_any (A := A) l.length c hl hc V)
  obtain ⟨n, hn⟩ : ∃ n, min l.length 80 = n := ⟨_, rfl⟩
  have hnl : n ≤ l.length ∧ n ≤ 80 := by omega
  have HNL := Lib.hid hnl
  unfold EaPost at C1
  simp only [hn] at C1
  clear hr ho hl hn
  go_enter Try.func5, Try.ntmps5
  go_wp2_with fail
  refine (lives_any _).mono ?_
  rintro e w1 ⟨rfl, hb1⟩
  have HB1 := Lib.hid hb1
  clear hb1
  go_wp2_with fail
  refine (new_any 3 p _).mono ?_
  rintro e w2 ⟨rfl, h2, hb2⟩
  have hnp := near_pos p (m := 8) (by omega)
  obtain ⟨P, hP⟩ : ∃ P, (near p 8).toNat = P := ⟨_, rfl⟩
  have HP8 : Hid (P ≤ 8) := by show P ≤ 8; omega
  have HI : Hid (InvP w w1.heap.size P w2) := by
    rw [hP] at h2
    refine ⟨_, _, ⟨h2, fun k hk => ?_, bt HB1.out hb2⟩, St.nil_ 3 P (by omega) HP8.out, Wd.nil_ _⟩
    rcases hk with rfl | hk
    · exact HB1.out.size
    · simp [Value.ownBlock] at hk
  obtain ⟨b, hb⟩ : ∃ b, w1.heap.size = b := ⟨_, rfl⟩
  rw [hb] at HI ⊢
  clear h2 hb2 hnp hP hb HB1
  go_wp2_with fail
  refine (C1.out _).mono ?_
  rintro e w3 ⟨⟨c', rfl⟩, rfl⟩
  go_wp2_with fail
  go_loopw [8] (fun v V => ∃ i : Nat, v = .int .i64 i ∧ i ≤ n ∧ InvP w b P V) (fun v _ => n - (intOf v).toNat)
  case atStart => exact ⟨0, rfl, Nat.zero_le _, HI.out⟩
  case round =>
    obtain ⟨i, rfl, hi, r, d, hv, hs, hw⟩ := hrel
    by_cases hlt : i < n
    · have hltz : (i : Int) < n := by omega
      obtain ⟨u, hu⟩ : ∃ u, l[i]? = some u := ⟨_, List.getElem?_eq_getElem (by have := HNL.out.1; omega)⟩
      obtain ⟨g, o, rfl, _, s0, s1, s2, s3, s4, s5, s6⟩ := sps_at (HL.out.1.below hv.bl) hu
      have hm := ((HL.out.2 i u hu).1.wr.below hv.bl)
      have C := Lib.hid (msg_any u hm)
      have H := Lib.hid (And.intro hv (And.intro hs (And.intro hw hm)))
      unfold Sp.val at C
      clear hv hs hw hm hu HI
      go_wp2_with fail
      refine C.out.mono ?_
      rintro e w5 ⟨rfl, hb5⟩
      obtain ⟨M, hM⟩ : ∃ M, u.msg = M := ⟨_, rfl⟩
      have hMw : Wr w5 M ∧ M.ws.length ≤ 8 := by rw [← hM]; exact Sp.msg_wr (H.out.2.2.2.below hb5)
      rw [hM]
      unfold MV.val
      have b6 := b01 w5 (.cells #[.slice M.a M.ws.length M.c, .int .i64 M.ln, .int .i64 M.st, .int .i64 M.lt, .int .i64 i] 33)
      have b56 := bt hb5 b6
      have C6 := Lib.hid (put_any (m := ⟨M.a, M.ws, M.c, M.ln, M.st, M.lt, i⟩) (H.out.1.below b56).ln H.out.2.1 ⟨hMw.1.row.below b6, hMw.1.le, hMw.1.top⟩ (show M.ws.length ≤ 1000 by omega))
      have H6 := Lib.hid (And.intro (H.out.1.below b56) (H.out.2.2.1.below b56))
      unfold MV.val at C6
      clear hM hMw b6 b56 hb5 C s0 s1 s2 s3 s4 s5 s6
      go_wp2_with fail
      refine C6.out.mono ?_
      rintro e w7 ⟨r', d', rfl, hp⟩
      have H7 : Hid (InvP w b P w7) := ⟨r', d', H6.out.1.step hp.ln hp.on hp.nw, hp.st, hp.wd H6.out.2⟩
      clear hp C6 H6 H
      go_wp2_with fail
      go_roundw
      case rel => exact ⟨i + 1, by go_num, by omega, H7.out⟩
      case measure => simp [intOf] <;> omega
    · have hltz : ¬ (i : Int) < n := by omega
      have HV := Lib.hid (And.intro hv (And.intro hs hw))
      have C := Lib.hid (all_any hv.ln hw.ws (by have := hs.len; omega))
      have hdl := hs.len
      clear hv hs hw HI
      go_wp2_with fail
      refine C.out.mono ?_
      rintro e w4 ⟨av, al, rfl, ha, hap, hb4⟩
      have hal : al.length = d.length := by have := congrArg List.length hap; simpa using this
      obtain ⟨Aa, ca, rfl, hra, hxa⟩ := ha.own.row
      have HA4 := Lib.hid (And.intro hra (And.intro hap hal))
      have HV4 := Lib.hid (HV.out.1.below hb4)
      have HW4 := Lib.hid (HV.out.2.2.below hb4)
      have HD4 : Hid (∀ q, (Value.slice Aa al.length ca).ownBlock = some q → wr.heap.size ≤ q) := fun q hq => (ha.own.block_lt hq).1
      have HO4 := Lib.hid ha.own
      have C4 := Lib.hid (sweep_any (HV.out.1.below hb4).ln (by omega) now)
      rw [hal] at HD4 HO4 ⊢
      clear ha hap hra hxa hb4 C hal
      go_wp2_with fail
      refine C4.out.mono ?_
      rintro e w5 ⟨ov, r5, rfl, h5⟩
      obtain ⟨Ao, co, rfl, hro, hxo⟩ := h5.og.row
      have HV5 := Lib.hid (HV4.out.out h5.ln h5.on h5.fr)
      have HA5 := Lib.hid (h5.on.own HO4.out fun q hq e => by
        have e' : q = b := e
        subst e'
        exact Blk.ne_ (HO4.out.block_lt hq).2.choose_spec HV4.out.ln.blk (by decide) rfl)
      have HW5 := Lib.hid ((HW4.out.sub (d' := d.filter fun m => !late now m.lt) fun x hx => (List.mem_filter.1 hx).1).only h5.on fun g cs hg e => HV4.out.ln.no_int g cs hg (.inl e))
      have HO5 := Lib.hid h5.og
      obtain ⟨G, hG⟩ : ∃ G, d.filter (fun m => late now m.lt) = G := ⟨_, rfl⟩
      obtain ⟨S, hS⟩ : ∃ S, d.filter (fun m => !late now m.lt) = S := ⟨_, rfl⟩
      rw [hG] at HO5 hro
      rw [hS] at HV5 HW5
      rw [hG]
      have hGl : G.length ≤ d.length := by rw [← hG]; exact List.length_filter_le _ _
      have hSl : S.length ≤ d.length := by rw [← hS]; exact List.length_filter_le _ _
      have HGS := Lib.hid (And.intro hG hS)
      have HGL := Lib.hid (And.intro hGl hSl)
      have C5 := Lib.hid (all_any HV5.out.ln HW5.out.ws (by omega))
      clear h5 hxo hG hS C4 hro hGl hSl
      go_wp2_with fail
      refine C5.out.mono ?_
      rintro e w6 ⟨bv, bl, rfl, hB, hbp, hb6⟩
      have hbl : bl.length = S.length := by have := congrArg List.length hbp; simpa using this
      obtain ⟨Ab, cb, rfl, hrb, hxb⟩ := hB.own.row
      rw [hbl] at ⊢
      have HV6 := Lib.hid (HV5.out.below hb6)
      have RA := Lib.hid (HA5.out.below hb6)
      have RO := Lib.hid (HO5.out.below hb6)
      have RB : Hid (Own w6 0 33 5 (.slice Ab S.length cb) bl.length (mvs bl)) := by have := hB.own.less (Nat.zero_le _); rw [hbl] at this ⊢; exact this
      have HBP := Lib.hid (And.intro hbp hbl)
      clear hB hbp hrb hxb hb6 C5 hbl HO5 HA5 HO4
      go_wp2_with fail
      go_loopw [13, 14, 15] (fun a b' i V => ∃ k : Nat, i = .int .i64 k ∧ k ≤ d.length ∧ a = .int .i64 ((d.take k).filter fun m => late now m.lt).length ∧ b' = .int .i64 ((d.take k).filter fun m => !late now m.lt).length ∧ Below w6.heap.size w6 V) (fun _ _ i _ => d.length - (intOf i).toNat)
      case atStart => exact ⟨0, rfl, Nat.zero_le _, rfl, rfl, Below.refl _ _⟩
      case round =>
        obtain ⟨k, rfl, hk, rfl, rfl, hb⟩ := hrel
        have HB := Lib.hid hb
        clear hb
        by_cases hkd : k < d.length
        · obtain ⟨y, hy⟩ : ∃ y, d[k]? = some y := ⟨_, List.getElem?_eq_getElem hkd⟩
          obtain ⟨x, hx, hxy⟩ := pl_at HA4.out.2.1 hy
          have hkz : (k : Int) < d.length := by omega
          have RA' := RA.out.below HB.out
          have hal : al.length = d.length := HA4.out.2.2
          obtain ⟨ga, rfl, _, x0, x1, x2, x3, x4⟩ : ∃ g, Aa = some ⟨g, 0, none⟩ ∧ g < wr.heap.size ∧ MsgAt wr g (k * 5) x := (own_msg (n := d.length) (by rw [hal]; exact RA') hx).2
          have C := Lib.hid (rlate_any x now wr)
          have elt : x.lt = y.lt := congrArg Pm.lt hxy
          have esq : x.sq = y.sq := congrArg Pm.sq hxy
          rw [elt] at C
          unfold MV.val at C
          have HY := Lib.hid (And.intro hx (And.intro esq hal))
          have gl := HGL.out
          clear hal esq elt hxy hx
          cases hlt2 : late now y.lt with
          | true =>
            rw [hlt2] at C
            have hgy := filt_at (p := fun m => late now m.lt) hy hlt2
            rw [HGS.out.1] at hgy
            have e1 : Hid (((d.take (k + 1)).filter fun m => late now m.lt).length = ((d.take k).filter fun m => late now m.lt).length + 1) := filt_yes hy hlt2
            have e2 : Hid (((d.take (k + 1)).filter fun m => !late now m.lt).length = ((d.take k).filter fun m => !late now m.lt).length) := filt_no hy (by simp [hlt2])
            obtain ⟨ia, hia⟩ : ∃ ia, ((d.take k).filter fun m => late now m.lt).length = ia := ⟨_, rfl⟩
            obtain ⟨ib, hib⟩ : ∃ ib, ((d.take k).filter fun m => !late now m.lt).length = ib := ⟨_, rfl⟩
            rw [hia] at hgy e1 ⊢
            rw [hib] at e2 ⊢
            have hiG : ia < G.length := (List.getElem?_eq_some_iff.1 hgy).1
            have hz : (ia : Int) < G.length := by omega
            have hz2 : ¬ (ia : Int) ≥ G.length := by omega
            clear C1 hlt2 hia hib hy RA'
            go_wp2_with fail
            refine C.out.mono ?_
            rintro e w8 ⟨rfl, hb8⟩
            have HB8 := Lib.hid (bt HB.out hb8)
            obtain ⟨qq, go, rfl, _, y0, y1, y2, y3, y4⟩ := own_msg (RO.out.below HB8.out) hgy
            obtain ⟨qq2, ga', ea, _, z0, z1, z2, z3, z4⟩ := own_msg (n := d.length) (by rw [HY.out.2.2]; exact RA.out.below HB8.out) HY.out.1
            rw [HY.out.2.1] at z4
            injection ea with ea
            injection ea with ea
            subst ea
            have t9 : (y.sq != y.sq) = false := by simp
            clear qq qq2 hb8 y0 y1 y2 y3 z0 z1 z2 z3 x0 x1 x2 x3 x4
            go_wp2_with fail
            go_quiet (fail)
            go_wp2_with fail
            go_roundw
            case rel => exact ⟨k + 1, by go_num, by omega, by rw [e1.out]; go_num, by rw [e2.out], bn HB8.out nq⟩
            case measure => simp [intOf] <;> omega
          | false =>
            rw [hlt2] at C
            have hgy := filt_at (p := fun m => !late now m.lt) hy (by simp [hlt2])
            rw [HGS.out.2] at hgy
            have e1 : Hid (((d.take (k + 1)).filter fun m => late now m.lt).length = ((d.take k).filter fun m => late now m.lt).length) := filt_no hy hlt2
            have e2 : Hid (((d.take (k + 1)).filter fun m => !late now m.lt).length = ((d.take k).filter fun m => !late now m.lt).length + 1) := filt_yes hy (by simp [hlt2])
            obtain ⟨ia, hia⟩ : ∃ ia, ((d.take k).filter fun m => late now m.lt).length = ia := ⟨_, rfl⟩
            obtain ⟨ib, hib⟩ : ∃ ib, ((d.take k).filter fun m => !late now m.lt).length = ib := ⟨_, rfl⟩
            rw [hia] at e1 ⊢
            rw [hib] at hgy e2 ⊢
            obtain ⟨v, hv, hvy⟩ := pl_at HBP.out.1 hgy
            have evq : v.sq = y.sq := congrArg Pm.sq hvy
            have hiG : ib < S.length := (List.getElem?_eq_some_iff.1 hgy).1
            have hz : (ib : Int) < S.length := by omega
            have hz2 : ¬ (ib : Int) ≥ S.length := by omega
            have HVV := Lib.hid (And.intro hv evq)
            clear C1 hlt2 hia hib hy RA' hv hvy evq
            go_wp2_with fail
            refine C.out.mono ?_
            rintro e w8 ⟨rfl, hb8⟩
            have HB8 := Lib.hid (bt HB.out hb8)
            obtain ⟨qq, go, rfl, _, y0, y1, y2, y3, y4⟩ := own_msg (n := S.length) (by have := RB.out.below HB8.out; rw [HBP.out.2] at this ⊢; exact this) HVV.out.1
            obtain ⟨qq2, ga', ea, _, z0, z1, z2, z3, z4⟩ := own_msg (n := d.length) (by rw [HY.out.2.2]; exact RA.out.below HB8.out) HY.out.1
            rw [HVV.out.2] at y4
            rw [HY.out.2.1] at z4
            injection ea with ea
            injection ea with ea
            subst ea
            have t9 : (y.sq != y.sq) = false := by simp
            clear qq qq2 hb8 y0 y1 y2 y3 z0 z1 z2 z3 x0 x1 x2 x3 x4
            go_wp2_with fail
            go_quiet (fail)
            go_wp2_with fail
            go_roundw
            case rel => exact ⟨k + 1, by go_num, by omega, by rw [e1.out], by rw [e2.out]; go_num, bn HB8.out nq⟩
            case measure => simp [intOf] <;> omega
        · obtain rfl : k = d.length := by omega
          rw [List.take_length] at *
          have eG := HGS.out.1
          have eS := HGS.out.2
          have C9 : Hid (∀ V, Below w6.heap.size w6 V → Calls Try.prog 25 #[.pointer (some ⟨b, 0, none⟩), .int .i64 now] V (OutsPost V b 3 P [] (S.filter fun m => !late now m.lt))) := fun V hV => by
            have h1 := sweep_any (HV6.out.ln.below hV) (by have := HGL.out.2; omega) now
            rw [show S.filter (fun m => late now m.lt) = [] by
              rw [← eS, List.filter_filter]
              exact List.filter_eq_nil_iff.2 fun x hx => by simp] at h1
            exact h1
          rw [eG, eS]
          have HBw := Lib.hid (bt HV6.out.bl HB.out)
          have C9' := Lib.hid (C9.out _ HB.out)
          clear eG eS hkd hk C1
          go_wp2_with fail
          refine C9'.out.mono ?_
          rintro e w9 ⟨v9, r9, rfl, h9⟩
          obtain ⟨A9, c9, rfl, hx9⟩ := h9.og.row
          have HB9 : Hid (Below w.heap.size w w9) := Only.to_below HBw.out h9.on (fun q hq => by
            have e' : q = b := hq
            rw [e']; exact HV6.out.ab b (.inl rfl)) HBw.out.size
          clear hx9 h9
          simp only [List.length_nil]
          go_wp2_with fail
          go_ret
          exact ⟨rfl, HB9.out⟩
end Go.Proofs.Ytjkdajkfbphnpaa.laneSweeps
