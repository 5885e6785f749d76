/- LaneFlushes, walked. -/
import Derived.Test.YtjkdajkfbphnpaaQFlush
namespace Go.Proofs.Ytjkdajkfbphnpaa.laneFlushes
open Go.RowKit Go.Proofs.Ytjkdajkfbphnpaa.G Go.Proofs.Ytjkdajkfbphnpaa.L10 Go.Sort
set_option maxRecDepth 100000
def InvF (w V : World) (a b L P : Nat) : Prop := ∃ q r c d, Two w V a b L P q r c d ∧ c.map MV.pl = d.map MV.pl
set_option maxHeartbeats 8000000 in
theorem walk {w : World} {A : Option Addr} {l : List Sp} {c : Nat} (ln p : Int) (hl : l.length ≤ c) (hc : c ≤ 9223372036854775807) (hr : Row w A (sps l)) (ho : ∀ (k : Nat) (y : Sp), l[k]? = some y → SpOk w y) : Calls Try.prog 10 #[.int .i64 ln, .int .i64 p, .slice A l.length c] w fun e w' => e = .returned (.bool true) ∧ Below w.heap.size w w' := by
  have mixed : Try.prog.follows .mixedOrders = true := by kernel_rfl
  have HL := Lib.hid (And.intro hr ho)
  have C1 := Lib.hid (fun V => early_any (A := A) l.length c hl hc V)
  obtain ⟨n, hn⟩ : ∃ n, min l.length 80 = n := ⟨_, rfl⟩
  have hnl : n ≤ l.length ∧ n ≤ 80 := by omega
  have HNL := Lib.hid hnl
  unfold EaPost at C1
  simp only [hn] at C1
  clear hr ho hl hn
  go_enter Try.func10, Try.ntmps10
  go_wp2_with fail
  refine (lives_any _).mono ?_
  rintro e w1 ⟨rfl, hb1⟩
  have HB1 := Lib.hid hb1
  clear hb1
  go_wp2_with fail
  refine (new_any ln p _).mono ?_
  rintro e w2 ⟨rfl, h2, hb2⟩
  have HA := Lib.hid (And.intro h2 hb2)
  clear h2 hb2
  go_wp2_with fail
  refine (new_any ln p _).mono ?_
  rintro e w3 ⟨rfl, h3, hb3⟩
  have hnl := near_pos ln (m := 3) (by omega)
  have hnp := near_pos p (m := 8) (by omega)
  obtain ⟨L, hL⟩ : ∃ L, (near ln 3).toNat = L := ⟨_, rfl⟩
  obtain ⟨P, hP⟩ : ∃ P, (near p 8).toNat = P := ⟨_, rfl⟩
  have HLP : Hid (((L : Int) = near ln 3 ∧ 1 ≤ L ∧ L ≤ 3) ∧ ((P : Int) = near p 8 ∧ 1 ≤ P ∧ P ≤ 8)) := by refine ⟨⟨?_, ?_, ?_⟩, ?_, ?_, ?_⟩ <;> omega
  rw [hL, hP] at HA h3
  have HI : Hid (InvF w w3 w1.heap.size w2.heap.size L P) := ⟨_, _, _, _, Two.new HB1.out HA.out.1 HA.out.2 h3 hb3 (by have := HLP.out; omega) (by have := HLP.out; omega), rfl⟩
  obtain ⟨a, ha⟩ : ∃ a, w1.heap.size = a := ⟨_, rfl⟩
  obtain ⟨b, hb⟩ : ∃ b, w2.heap.size = b := ⟨_, rfl⟩
  rw [ha] at HI ⊢
  rw [hb] at HI ⊢
  clear h3 hb3 hnl hnp hL hP ha hb HA HB1
  go_wp2_with fail
  refine (C1.out _).mono ?_
  rintro e w4 ⟨⟨c', rfl⟩, rfl⟩
  go_wp2_with fail
  go_loopw [9] (fun v V => ∃ i : Nat, v = .int .i64 i ∧ i ≤ n ∧ InvF w V a b L P) (fun v _ => n - (intOf v).toNat)
  case atStart => exact ⟨0, rfl, Nat.zero_le _, HI.out⟩
  case round =>
    obtain ⟨i, rfl, hi, q, r, x, y, T, hxy⟩ := hrel
    by_cases hlt : i < n
    · have hltz : (i : Int) < n := by omega
      obtain ⟨u, hu⟩ : ∃ u, l[i]? = some u := ⟨_, List.getElem?_eq_getElem (by have := HNL.out.1; omega)⟩
      obtain ⟨g, o, rfl, _, s0, s1, s2, s3, s4, s5, s6⟩ := sps_at (HL.out.1.below T.va.bl) hu
      have hm := ((HL.out.2 i u hu).1.wr.below T.va.bl)
      have HM0 := Lib.hid (Sp.msg_wr (HL.out.2 i u hu).1.wr)
      have C := Lib.hid (msg_any u hm)
      have H := Lib.hid (And.intro T hm)
      have HXY := Lib.hid hxy
      unfold Sp.val at C
      clear T hm hu HI hxy
      go_wp2_with fail
      refine C.out.mono ?_
      rintro e w5 ⟨rfl, hb5⟩
      obtain ⟨M, hM⟩ : ∃ M, u.msg = M := ⟨_, rfl⟩
      rw [hM] at HM0
      rw [hM]
      unfold MV.val
      have b6 := b01 w5 (.cells #[.slice M.a M.ws.length M.c, .int .i64 M.ln, .int .i64 M.st, .int .i64 M.lt, .int .i64 M.sq] 33)
      have N := Blk.new w5 33 #[.slice M.a M.ws.length M.c, .int .i64 M.ln, .int .i64 M.st, .int .i64 M.lt, .int .i64 M.sq]
      have T6 := Lib.hid (H.out.1.below (bt hb5 b6))
      have hm8 := HM0.out.2
      have HF : Hid (¬ FL a q w5.heap.size) := fun hk => by have := (H.out.1.below hb5).va.ln.lts _ hk; omega
      have HN := Lib.hid N
      clear hM b6 hb5 C s0 s1 s2 s3 s4 s5 s6 H N
      go_wp2_with fail
      obtain ⟨kx, hkx⟩ : ∃ kx, w5.heap.size = kx := ⟨_, rfl⟩
      rw [hkx] at HN HF ⊢
      generalize w5.alloc (.cells #[.slice M.a M.ws.length M.c, .int .i64 M.ln, .int .i64 M.st, .int .i64 M.lt, .int .i64 M.sq] 33) = v at *
      clear hkx
      obtain ⟨z, hz⟩ : ∃ z, pcode L P x M.ln = z := ⟨_, rfl⟩
      have hz2 : pcode L P y M.ln = z := by rw [← pcode_pl HXY.out]; exact hz
      have t9 : (z != z) = false := by simp
      have HP := Lib.hid (putP_pl (L := L) (P := P) HXY.out M)
      have S0 : Below v.heap.size v v.drew := (Below.refl _ _).drew
      have HM : Hid (∀ V, Blk V kx 33 #[.slice M.a M.ws.length M.c, .int .i64 M.ln, .int .i64 M.st, .int .i64 M.lt, .int .i64 M.sq] → MsgAt V kx 0 M) := fun V hV => by
        have q := hV.cell
        exact ⟨by rw [q]; rfl, by rw [q]; rfl, by rw [q]; rfl, by rw [q]; rfl, by rw [q]; rfl⟩
      obtain ⟨x0, x1, x2, x3, x4⟩ := HM.out _ (HN.out.bel S0)
      have CA := Lib.hid (putp_any (m := M) (T6.out.below S0).va.ln T6.out.sa (HM0.out.1.below (T6.out.below S0).va.bl) (by omega))
      unfold MV.val at CA
      go_region_law
        (first
          | ((rw [if_pos (by simp [Region.wanted])]; go_simp; go_at_call 18; (with_reducible refine CB.out.mono ?_); rintro e w7 ⟨r', d', rfl, hp2, hd2⟩; have T7 := Lib.hid (And.intro (T6a.out.swap.put hp2).swap (hc1.out.trans (HP.out.trans hd2.symm))); rw [hz2]; clear hp2 hd2))
          | ((rw [if_pos (by simp [Region.wanted])]; go_simp; go_at_call 18; (with_reducible refine CA.out.mono ?_); rintro e w6 ⟨q', c', rfl, hp1, hd1⟩; have T6a := Lib.hid ((T6.out.below S0).put hp1); have CB := Lib.hid (putp_any (m := M) T6a.out.vb.ln T6a.out.sb (HM0.out.1.below T6a.out.va.bl) (by omega)); unfold MV.val at CB; rw [hz]; have hc1 := Lib.hid hd1; obtain ⟨z0, z1, z2, z3, z4⟩ := HM.out _ (Only.blk (HN.out.bel S0) hp1.on HF.out); clear hp1 hd1)))
      all_goals
        clear x0 x1 x2 x3 x4 z0 z1 z2 z3 z4 CA CB hz hz2 HM
        go_wp2_with fail
        go_roundw
        case rel => exact ⟨i + 1, by go_num, by omega, _, _, _, _, T7.out.1, T7.out.2⟩
        case measure => simp [intOf] <;> omega
    · have hltz : ¬ (i : Int) < n := by omega
      have hlen : x.length = y.length := by have := congrArg List.length hxy; simpa using this
      have hx24 := T.sa.len
      have HT := Lib.hid (And.intro T hxy)
      have CF := Lib.hid (fun V (hV : Below wr.heap.size wr V) => flush_any (T.below hV).va.ln (by omega))
      clear T hxy HI
      go_wp2_with fail
      refine (CF.out _ (Below.refl _ _)).mono ?_
      rintro e w5 ⟨lv, q1, rfl, h5⟩
      obtain ⟨Al, cl, rfl, hrow⟩ := h5.og.row
      have T5 := Lib.hid (HT.out.1.out h5.ln h5.on h5.fr (List.nil_sublist _))
      have HOG := Lib.hid h5.og
      have HWX := Lib.hid (HT.out.1.wa.only h5.on fun g cs hg e => HT.out.1.va.ln.no_int g cs hg (.inl e))
      have HXY := Lib.hid HT.out.2
      have HO := Lib.hid (fun k (hk : FL b r k) => (HT.out.1.vb.ln.lts k hk))
      clear h5 hrow HT CF
      go_wp2_with fail
      go_loopw [12] (fun v V => ∃ k : Nat, v = .int .i64 k ∧ k ≤ x.length ∧ ∃ r', Two w V a b L P q1 r' [] (y.drop k) ∧ Own V wr.heap.size 33 5 (.slice Al x.length cl) x.length (mvs x) ∧ Wd V x) (fun v _ => x.length - (intOf v).toNat)
      case atStart => exact ⟨0, rfl, Nat.zero_le _, r, T5.out, HOG.out, HWX.out⟩
      case round =>
        obtain ⟨k, rfl, hk, r', T, hog, hwx⟩ := hrel
        by_cases hkx : k < x.length
        · have hkz : (k : Int) < x.length := by omega
          obtain ⟨mx, hmx⟩ : ∃ mx, x[k]? = some mx := ⟨_, List.getElem?_eq_getElem hkx⟩
          obtain ⟨my, hmy⟩ : ∃ my, y[k]? = some my := ⟨_, List.getElem?_eq_getElem (by omega)⟩
          have hone : one my mx = true := by
            have := congrArg (·[k]?) HXY.out
            simp only [List.getElem?_map, hmx, hmy, Option.map_some] at this
            injection this with this
            exact decide_eq_true this.symm
          have hdrop : y.drop k = my :: y.drop (k + 1) := by
            have h1 := List.drop_eq_getElem_cons (show k < y.length by omega)
            rw [List.getElem?_eq_getElem (show k < y.length by omega)] at hmy
            injection hmy with hmy
            rw [hmy] at h1; exact h1
          have CT := Lib.hid (take_any T.vb.ln (by rw [List.length_drop]; omega))
          unfold TkPost at CT
          rw [hdrop] at CT
          simp only [List.headD_cons, List.isEmpty_cons, Bool.not_false, List.drop_succ_cons, List.drop_zero] at CT
          have hdr : (y.drop (k + 1)).Sublist (y.drop k) := by rw [hdrop]; exact List.sublist_cons_self _ _
          have hmm : my ∈ y.drop k := by rw [hdrop]; exact List.mem_cons_self ..
          have HT := Lib.hid (And.intro T (And.intro hog (And.intro hwx (And.intro hmx (And.intro hdr hmm)))))
          clear T hog hwx hmx hmy hdrop hdr hmm
          go_wp2_with fail
          refine CT.out.mono ?_
          rintro e w6 ⟨r2, rfl, h6, f6, o6⟩
          have T6 := Lib.hid ((HT.out.1.swap.out h6 o6 f6 HT.out.2.2.2.2.1).swap)
          have noi : ∀ g cs, Blk wr g 3 cs → ¬ g = b := fun g cs hg e => HT.out.1.vb.ln.no_int g cs hg (.inl e)
          have HOG6 := Lib.hid (o6.own HT.out.2.1 fun q hq e => by
            have e' : q = b := e
            subst e'
            exact Blk.ne_ (HT.out.2.1.block_lt hq).2.choose_spec HT.out.1.vb.ln.blk (by decide) rfl)
          have HWX6 := Lib.hid (HT.out.2.2.1.only o6 noi)
          have HMX := Lib.hid HT.out.2.2.2.1
          have HMY6 := Lib.hid ((HT.out.1.wb my HT.out.2.2.2.2.2).1.only o6 noi)
          have b6 := b01 w6 (.cells #[.slice my.a my.ws.length my.c, .int .i64 my.ln, .int .i64 my.st, .int .i64 my.lt, .int .i64 my.sq] 33)
          have HN := Lib.hid (Blk.new w6 33 #[.slice my.a my.ws.length my.c, .int .i64 my.ln, .int .i64 my.st, .int .i64 my.lt, .int .i64 my.sq])
          have HB6 := Lib.hid b6
          unfold MV.val
          clear CT HT noi o6 f6 h6 b6
          go_wp2_with fail
          obtain ⟨kx, hkx⟩ : ∃ kx, w6.heap.size = kx := ⟨_, rfl⟩
          have T7 := Lib.hid (T6.out.below HB6.out)
          have HOG7 := Lib.hid (HOG6.out.below HB6.out)
          have HWX7 := Lib.hid (HWX6.out.below HB6.out)
          have HMY7 := Lib.hid (HMY6.out.below HB6.out)
          clear T6 HOG6 HWX6 HMY6 HB6
          rw [hkx] at HN ⊢
          generalize w6.alloc (.cells #[.slice my.a my.ws.length my.c, .int .i64 my.ln, .int .i64 my.st, .int .i64 my.lt, .int .i64 my.sq] 33) = v at *
          clear hkx
          have G1 : ∀ n os, MsgAt (grow (v.drewN n) os) kx 0 my := fun n os => by
            have q := (HN.out.bel (below_grow v n os)).cell
            exact ⟨by rw [q]; rfl, by rw [q]; rfl, by rw [q]; rfl, by rw [q]; rfl, by rw [q]; rfl⟩
          obtain ⟨gl, hgl⟩ : ∃ gl : Nat, Al = some ⟨gl, 0, none⟩ := by
            obtain ⟨_, g, e, _⟩ := own_msg HOG7.out HMX.out
            exact ⟨g, e⟩
          subst hgl
          have G2 : ∀ n os, MsgAt (grow (v.drewN n) os) gl (k * 5) mx := fun n os => by
            obtain ⟨_, g', e, _, hm⟩ := own_msg (HOG7.out.below (below_grow v n os)) HMX.out
            injection e with e
            injection e with e1
            subst e1
            exact hm
          have x0 := fun n os => (G1 n os).1
          have x1 := fun n os => (G1 n os).2.1
          have x2 := fun n os => (G1 n os).2.2.1
          have x3 := fun n os => (G1 n os).2.2.2.1
          have x4 := fun n os => (G1 n os).2.2.2.2
          have y0 := fun n os => (G2 n os).1
          have y1 := fun n os => (G2 n os).2.1
          have y2 := fun n os => (G2 n os).2.2.1
          have y3 := fun n os => (G2 n os).2.2.2.1
          have y4 := fun n os => (G2 n os).2.2.2.2
          have CC : Hid (∀ n os, Calls Try.prog 22 #[my.val, mx.val] (grow (v.drewN n) os) fun e w'' => e = .returned (.bool (one my mx)) ∧ ∃ p : GrownBy, w'' = grow (v.drewN p.n) p.os) := fun n os =>
            Calls.grown_of (one_any (HMY7.out.wr.below (below_grow v n os)) ((HWX7.out.ws mx (List.mem_of_getElem? HMX.out)).1.below (below_grow v n os)))
          have f0 : (0 : Int) ≤ (k : Int) := by omega
          unfold MV.val at CC
          rw [hone] at CC
          clear G1 G2
          go_quiet_grown (first | (go_at_call 22; exact CC.out _ _))
          clear x0 x1 x2 x3 x4 y0 y1 y2 y3 y4 CC
          go_wp2_with fail
          go_roundw
          case rel => exact ⟨k + 1, by go_num, by omega, _, T7.out.below (below_grow v nq osq), HOG7.out.below (below_grow v nq osq), HWX7.out.below (below_grow v nq osq)⟩
          case measure => simp [intOf] <;> omega
        · have hkz : ¬ (k : Int) < x.length := by omega
          have e0 : y.drop k = [] := List.drop_eq_nil_of_le (by omega)
          rw [e0] at T
          have HT := Lib.hid T
          clear T hog hwx e0
          go_wp2_with fail
          go_loopw [15] (fun v V => ∃ j : Nat, v = .int .i64 j ∧ j ≤ L ∧ Two w V a b L P q1 r' [] []) (fun v _ => L - (intOf v).toNat)
          case atStart => exact ⟨0, rfl, Nat.zero_le _, HT.out⟩
          case round =>
            obtain ⟨j, rfl, hj, T⟩ := hrel
            have HT3 := Lib.hid T
            have eL : min (max ln 1) 3 = (L : Int) := HLP.out.1.1.symm
            have eP : min (max p 1) 8 = (P : Int) := HLP.out.2.1.symm
            clear T HT
            by_cases hjL : j < L
            · have hjz : (j : Int) < L := by omega
              have CR := Lib.hid (room_any HT3.out.va.ln (j : Int) (by have := HLP.out; omega) (by simp))
              have er : room L P [] (j : Int) = P := by unfold room isL; rw [if_pos (decide_eq_true ⟨by omega, by omega⟩)]; simp [cnt]
              rw [er] at CR
              have t8 : ((P : Int) != P) = false := by simp
              clear er
              go_wp2_with fail
              all_goals
                refine CR.out.mono ?_
                rintro e w5 ⟨rfl, hb5⟩
                have H5 := Lib.hid (HT3.out.below hb5)
                clear hb5
                go_wp2_with fail
              all_goals
                go_roundw
                case rel => exact ⟨j + 1, by go_num, by omega, H5.out⟩
                case measure => simp [intOf] <;> omega
            · have hjz : ¬ (j : Int) < L := by omega
              have CA := Lib.hid (len_any HT3.out.va.ln)
              have CB := Lib.hid (len_any HT3.out.vb.ln)
              have CF := Lib.hid (flush_any HT3.out.va.ln (by simp))
              have z0 : (([] : List MV).length : Int) = 0 := rfl
              rw [z0] at CA CB
              clear eP z0
              go_wp2_with fail
              all_goals
                refine CA.out.mono ?_
                rintro e w5 ⟨rfl, rfl⟩
                go_wp2_with fail
              all_goals
                refine CB.out.mono ?_
                rintro e w5 ⟨rfl, rfl⟩
                go_wp2_with fail
              all_goals
                refine CF.out.mono ?_
                rintro e w5 ⟨fv, r5, rfl, h5⟩
                obtain ⟨Af, cf, rfl, hrow⟩ := h5.og.row
                have HB5 := Lib.hid (HT3.out.va.out h5.ln h5.on h5.fr).bl
                clear hrow h5
                simp only [List.length_nil]
                go_wp2_with fail
              all_goals
                go_ret
                exact ⟨rfl, HB5.out⟩
end Go.Proofs.Ytjkdajkfbphnpaa.laneFlushes
