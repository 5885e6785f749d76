/- LaneRow, walked. -/
import Derived.Test.YtjkdajkfbphnpaaQRow
namespace Go.Proofs.Ytjkdajkfbphnpaa.laneRow
open Go.RowKit Go.Proofs.Ytjkdajkfbphnpaa.G Go.Proofs.Ytjkdajkfbphnpaa.L10 Go.Sort
set_option maxRecDepth 100000
set_option maxHeartbeats 8000000 in
theorem walk {w : World} {A : Option Addr} {l : List Sp} {c : Nat} (ln p : Int) (hl : l.length ≤ c) (hc : c ≤ 9223372036854775807) (hr : Row w A (sps l)) (ho : ∀ (k : Nat) (y : Sp), l[k]? = some y → SpOk w y) : Calls Try.prog 4 #[.int .i64 ln, .int .i64 p, .slice A l.length c] w fun e w' => e = .returned (.bool true) ∧ Below w.heap.size w w' := by
  have mixed : Try.prog.follows .mixedOrders = true := by kernel_rfl
  have HL := Lib.hid (And.intro hr ho)
  have C1 := Lib.hid (fun V => early_any (A := A) l.length c hl hc V)
  obtain ⟨n, hn⟩ : ∃ n, min l.length 80 = n := ⟨_, rfl⟩
  have hnl : n ≤ l.length ∧ n ≤ 80 := by omega
  have HNL := Lib.hid hnl
  unfold EaPost at C1
  simp only [hn] at C1
  clear hr ho hl hn
  go_enter Try.func4, Try.ntmps4
  go_wp2_with fail
  refine (lives_any _).mono ?_
  rintro e w1 ⟨rfl, hb1⟩
  have HB1 := Lib.hid hb1
  clear hb1
  go_wp2_with fail
  refine (new_any ln p _).mono ?_
  rintro e w2 ⟨rfl, h2, hb2⟩
  have hnl3 := near_pos ln (m := 3) (by omega)
  have hnp := near_pos p (m := 8) (by omega)
  obtain ⟨L, hL⟩ : ∃ L, (near ln 3).toNat = L := ⟨_, rfl⟩
  obtain ⟨P, hP⟩ : ∃ P, (near p 8).toNat = P := ⟨_, rfl⟩
  have hL3 : L ≤ 3 := by omega
  have hP8 : P ≤ 8 := by omega
  rw [hL, hP] at h2
  have HI : Hid (RowS w (w2.alloc (.cells #[.int .i64 0, .int .i64 0, .int .i64 0] 56)) w1.heap.size L P w2.heap.size 0 0) := by
    have s1 := HB1.out.size
    have s2 := hb2.size
    refine ⟨_, _, fun _ => 0, ⟨h2.below (b01 _ _), fun k hk => ?_, ba1 (bt HB1.out hb2) _⟩, St.nil_ L P hL3 hP8, Wd.nil_ _, Blk.new w2 56 _, by omega, RowI.nil_⟩
    rcases hk with e | hk
    · omega
    · simp [Value.ownBlock] at hk
  obtain ⟨b, hb⟩ : ∃ b, w1.heap.size = b := ⟨_, rfl⟩
  obtain ⟨g, hg⟩ : ∃ g, w2.heap.size = g := ⟨_, rfl⟩
  rw [hb, hg] at HI
  rw [hb]
  clear h2 hb2 hnl3 hnp hL hP hb HB1 hL3 hP8
  go_wp2_with fail
  generalize w2.alloc (.cells #[.int .i64 0, .int .i64 0, .int .i64 0] 56) = w3 at *
  clear hg
  refine (C1.out _).mono ?_
  rintro e w4 ⟨⟨c', rfl⟩, rfl⟩
  go_wp2_with fail
  go_loopw [8, 9, 11] (fun a o v V => ∃ ni no i : Nat, a = .int .i64 ni ∧ o = .int .i64 no ∧ v = .int .i64 i ∧ i ≤ n ∧ ni ≤ i ∧ RowS w V b L P g ni no) (fun _ _ v _ => n - (intOf v).toNat)
  case atStart => exact ⟨0, 0, 0, rfl, rfl, rfl, Nat.zero_le _, Nat.le_refl _, HI.out⟩
  case round =>
    obtain ⟨ni, no, i, rfl, rfl, rfl, hi, hni, r, d, f, hv, hs, hw, hg, hwg, hI⟩ := hrel
    have hno : no ≤ ni := by have := hI.ct; omega
    by_cases hlt : i < n
    · have hltz : (i : Int) < n := by omega
      obtain ⟨u, hu⟩ : ∃ u, l[i]? = some u := ⟨_, List.getElem?_eq_getElem (by have := HNL.out.1; omega)⟩
      obtain ⟨gs, o, rfl, _, s0, s1, s2, s3, s4, s5, s6⟩ := sps_at (HL.out.1.below hv.bl) hu
      have C := Lib.hid (kind_any u)
      obtain ⟨kd, hkd⟩ : ∃ kd, modU u.k 8 = kd := ⟨_, rfl⟩
      rw [hkd] at C
      unfold Sp.val at C
      have HN := Lib.hid (Blk.new wr 35 #[.int .i64 u.k, .int .i64 u.n, .slice u.m.a u.m.ws.length u.m.c, .int .i64 u.m.ln, .int .i64 u.m.st, .int .i64 u.m.lt, .int .i64 u.m.sq])
      have b1 := b01 wr (.cells #[.int .i64 u.k, .int .i64 u.n, .slice u.m.a u.m.ws.length u.m.c, .int .i64 u.m.ln, .int .i64 u.m.st, .int .i64 u.m.lt, .int .i64 u.m.sq] 35)
      have HV := Lib.hid (hv.below b1)
      have HG := Lib.hid (hg.bel b1)
      have HW := Lib.hid (hw.below b1)
      have HS := Lib.hid hs
      have HH := Lib.hid (And.intro hwg hI)
      clear hkd hv hs hw hg hwg hI hu b1 HI
      go_wp2_with fail
      obtain ⟨kx, hkx⟩ : ∃ kx, wr.heap.size = kx := ⟨_, rfl⟩
      rw [hkx] at HN ⊢
      generalize wr.alloc (.cells #[.int .i64 u.k, .int .i64 u.n, .slice u.m.a u.m.ws.length u.m.c, .int .i64 u.m.ln, .int .i64 u.m.st, .int .i64 u.m.lt, .int .i64 u.m.sq] 35) = v at *
      clear hkx s0 s1 s2 s3 s4 s5 s6
      refine (C.out _).mono ?_
      rintro e w5 ⟨rfl, hb5⟩
      have HV5 := Lib.hid (HV.out.below hb5)
      have HG5 := Lib.hid (HG.out.bel hb5)
      have HW5 := Lib.hid (HW.out.below hb5)
      have HN5 := Lib.hid (HN.out.bel hb5)
      clear HV HG HW HN C hb5
      by_cases hk4 : kd < 4
      · have n3 := HN5.out.cell 3
        simp only [List.getElem?_toArray, List.getElem?_cons_zero, List.getElem?_cons_succ] at n3
        obtain ⟨x, hx', x0, x3⟩ : ∃ x, (IntKind.u64.wrap u.m.ln).tmod 3 = x ∧ 0 ≤ x ∧ x < 3 := ⟨_, rfl, (modU_bd u.m.ln 3 (by decide)).1, (modU_bd u.m.ln 3 (by decide)).2⟩
        have b6 := b01 w5 (.cells #[.slice none 0 0, .int .i64 x, .int .i64 0, .int .i64 0, .int .i64 (ni + 1)] 33)
        have HN6 := Lib.hid (Blk.new w5 33 #[.slice none 0 0, .int .i64 x, .int .i64 0, .int .i64 0, .int .i64 (ni + 1)])
        have HV6 := Lib.hid (HV5.out.below b6)
        have HG6 := Lib.hid (HG5.out.bel b6)
        have HW6 := Lib.hid (HW5.out.below b6)
        have hd24 := HS.out.len
        obtain ⟨R, hR⟩ : ∃ R, room L P d x = R := ⟨_, rfl⟩
        have CR := Lib.hid (fun V (hV : Below (w5.alloc (.cells #[.slice none 0 0, .int .i64 x, .int .i64 0, .int .i64 0, .int .i64 (ni + 1)] 33)).heap.size (w5.alloc (.cells #[.slice none 0 0, .int .i64 x, .int .i64 0, .int .i64 0, .int .i64 (ni + 1)] 33)) V) => room_any (HV6.out.below hV).ln x HS.out.p8 (by omega))
        rw [hR] at CR
        have hpr := pcode_room (L := L) HS.out.cn x
        rw [hR] at hpr
        have HPR := Lib.hid hpr
        clear HV5 HG5 HW5 HN5 b6 hR hpr
        go_wp2_with fail
        obtain ⟨kb, hkb⟩ : ∃ kb, w5.heap.size = kb := ⟨_, rfl⟩
        rw [hkb] at HN6 ⊢
        generalize w5.alloc (.cells #[.slice none 0 0, .int .i64 x, .int .i64 0, .int .i64 0, .int .i64 (ni + 1)] 33) = v6 at *
        clear hkb n3 hx'
        refine (CR.out _ (Below.refl _ _)).mono ?_
        rintro e w7 ⟨rfl, hb7⟩
        have HV7 := Lib.hid (HV6.out.below hb7)
        have HG7 := Lib.hid (HG6.out.bel hb7)
        have HW7 := Lib.hid (HW6.out.below hb7)
        have HN7 := Lib.hid (HN6.out.bel hb7)
        have C8 := Lib.hid (putp_any (m := mk0 x 0 (ni + 1)) HV7.out.ln HS.out (wr0 x 0 (ni + 1) w7) (show 0 ≤ 1000 by decide))
        have q0 := HN7.out.cell 0
        have q1 := HN7.out.cell 1
        have q2 := HN7.out.cell 2
        have q3 := HN7.out.cell 3
        have q4 := HN7.out.cell 4
        simp only [List.getElem?_toArray, List.getElem?_cons_zero, List.getElem?_cons_succ] at q0 q1 q2 q3 q4
        have hput : Hid (∀ r' d' w', PaW w7 b L P r d x r' d' w' → d'.map MV.pl = putP L P d (mk0 x 0 (ni + 1)) → ∀ z, pcode L P d x = z → if z = 0 then RowS w w' b L P g (ni + 1) no else RowS w w' b L P g ni no) := by
          intro r' d' w' hp hd z hz
          have a1 := HV7.out.step hp.ln hp.on hp.nw
          have a2 := hp.on.blk HG7.out (HV7.out.ln.off HG7.out (by decide) (by decide))
          have e1 : (mk0 x 0 ((ni : Int) + 1)).ln = x := rfl
          unfold putP at hd
          rw [e1, hz] at hd
          by_cases c0 : z = 0
          · rw [if_pos c0] at hd ⊢
            exact ⟨r', d', f, a1, hp.st, hp.wd HW7.out, a2, HH.out.1, by rw [hd]; exact HH.out.2.put rfl⟩
          · rw [if_neg c0] at hd ⊢
            exact ⟨r', d', f, a1, hp.st, hp.wd HW7.out, a2, HH.out.1, by rw [hd]; exact HH.out.2⟩
        unfold PpPost mk0 MV.val at C8
        simp only [List.length_nil] at C8
        clear HV6 HG6 HW6 HN6 HV7 HG7 HW7 HN7 CR hb7
        by_cases c0 : pcode L P d x = 0
        · have hRp : R > 0 := by have := HPR.out; rw [c0] at this; exact of_decide_eq_true this.symm
          rw [c0] at C8
          have HP0 := Lib.hid c0
          clear c0
          go_wp2_with fail
          refine C8.out.mono ?_
          rintro e w8 ⟨r', d', rfl, hp, hd⟩
          have H8 : Hid (RowS w w8 b L P g (ni + 1) no) := hput.out r' d' w8 hp hd 0 HP0.out
          clear hput hp hd C8 q0 q1 q2 q3 q4
          go_wp2_with fail
          go_roundw
          case rel => exact ⟨ni + 1, no, i + 1, by go_num, rfl, by go_num, by omega, by omega, H8.out⟩
          case measure => simp [intOf] <;> omega
        · have hRp : ¬ R > 0 := by have := HPR.out; exact of_decide_eq_false (by rw [← this]; simpa using c0)
          obtain ⟨z, hz⟩ : ∃ z, pcode L P d x = z := ⟨_, rfl⟩
          rw [hz] at C8 c0
          have t0 : (z == 0) = false := by simpa using c0
          have HP0 := Lib.hid (And.intro hz c0)
          clear c0 hz
          go_wp2_with fail
          refine C8.out.mono ?_
          rintro e w8 ⟨r', d', rfl, hp, hd⟩
          have H8 : Hid (RowS w w8 b L P g ni no) := by
            have := hput.out r' d' w8 hp hd z HP0.out.1
            rw [if_neg HP0.out.2] at this
            exact this
          clear hput hp hd C8 q0 q1 q2 q3 q4
          go_wp2_with fail
          go_roundw
          case rel => exact ⟨ni, no, i + 1, rfl, rfl, by go_num, by omega, by omega, H8.out⟩
          case measure => simp [intOf] <;> omega
      · have hd24 := HS.out.len
        have CA := Lib.hid (all_any HV5.out.ln HW5.out.ws (by omega))
        cases d with
        | nil =>
          go_wp2_with fail
          refine CA.out.mono ?_
          rintro e w6 ⟨av, al, rfl, ha, hap, hb6⟩
          have hal : al.length = 0 := by have := congrArg List.length hap; simpa using this
          obtain ⟨Aa, ca, rfl, hra⟩ := ha.own.row
          have HV6 := Lib.hid (HV5.out.below hb6)
          have HG6 := Lib.hid (HG5.out.bel hb6)
          have C7 := Lib.hid (take_any HV6.out.ln (by omega))
          unfold TkPost z0 MV.val at C7
          simp only [List.headD_nil, List.isEmpty_nil, Bool.not_true, List.drop_nil, List.length_nil] at C7
          rw [hal]
          clear ha hap hra hb6 CA HV5 HG5 HW5 hal
          go_wp2_with fail
          refine C7.out.mono ?_
          rintro e w7 ⟨r', rfl, h7, f7, o7⟩
          have H7 : Hid (RowS w w7 b L P g ni no) := ⟨r', [], f, HV6.out.out h7 o7 f7, HS.out, Wd.nil_ _, o7.blk HG6.out fun e => HV6.out.ln.off HG6.out (by decide) (by decide) (.inl e), HH.out.1, HH.out.2⟩
          clear h7 f7 o7 C7 HV6 HG6
          go_wp2_with fail
          go_roundw
          case rel => exact ⟨ni, no, i + 1, rfl, rfl, by go_num, by omega, by omega, H7.out.below (b01 _ _)⟩
          case measure => simp [intOf] <;> omega
        | cons h T =>
          go_wp2_with fail
          refine CA.out.mono ?_
          rintro e w6 ⟨av, al, rfl, ha, hap, hb6⟩
          have hal : al.length = (h :: T).length := by have := congrArg List.length hap; simpa using this
          obtain ⟨Aa, ca, rfl, hra⟩ := ha.own.row
          have HO6 := Lib.hid ha.own
          have HAP := Lib.hid hap
          have HV6 := Lib.hid (HV5.out.below hb6)
          have HG6 := Lib.hid (HG5.out.bel hb6)
          have HW6 := Lib.hid (HW5.out.below hb6)
          have C7 := Lib.hid (take_any HV6.out.ln (by omega))
          unfold TkPost MV.val at C7
          simp only [List.headD_cons, List.isEmpty_cons, Bool.not_false, List.drop_succ_cons, List.drop_zero] at C7
          have ha0 : (al.length : Int) > 0 := by rw [hal, List.length_cons]; omega
          have ha24 : al.length ≤ 24 := by omega
          have ha1 : decide (0 < al.length) = true := decide_eq_true (by omega)
          clear ha hap hra hb6 CA HV5 HG5 HW5 hal hd24
          go_wp2_with fail
          refine C7.out.mono ?_
          rintro e w7 ⟨r', rfl, h7, f7, o7⟩
          have HT := Lib.hid (RowS.took HV6.out HS.out HW6.out HG6.out HH.out.1 HH.out.2 h7 f7 o7)
          have HO7 := Lib.hid (o7.own HO6.out fun q hq e => by
            have e' : q = b := e
            subst e'
            exact Blk.ne_ (HO6.out.block_lt hq).2.choose_spec HV6.out.ln.blk (by decide) rfl)
          have b8 := b01 w7 (.cells #[.slice h.a h.ws.length h.c, .int .i64 h.ln, .int .i64 h.st, .int .i64 h.lt, .int .i64 h.sq] 33)
          have HN := Lib.hid (Blk.new w7 33 #[.slice h.a h.ws.length h.c, .int .i64 h.ln, .int .i64 h.st, .int .i64 h.lt, .int .i64 h.sq])
          have HV8 := Lib.hid (HT.out.1.below b8)
          have HT8 := Lib.hid (And.intro HT.out.2.1 (HT.out.2.2.1.below b8))
          have HG8 := Lib.hid (HT.out.2.2.2.bel b8)
          have HO8 := Lib.hid (HO7.out.below b8)
          have hln := HS.out.ln h (List.mem_cons_self ..)
          have hL3 := HS.out.l3
          clear h7 f7 o7 C7 HV6 HG6 HO6 HW6 HT HO7 b8
          go_wp2_with fail
          obtain ⟨kb, hkb⟩ : ∃ kb, w7.heap.size = kb := ⟨_, rfl⟩
          rw [hkb] at HN ⊢
          generalize w7.alloc (.cells #[.slice h.a h.ws.length h.c, .int .i64 h.ln, .int .i64 h.st, .int .i64 h.lt, .int .i64 h.sq] 33) = v at *
          clear hkb
          obtain ⟨j, hj⟩ : ∃ j : Nat, h.ln = j := ⟨h.ln.toNat, by omega⟩
          have hj3 : (j : Int) < 3 := by omega
          have hj0 : (0 : Int) ≤ (j : Int) := by omega
          have HJ := Lib.hid hj
          clear hj hln
          go_loopw [19] (fun a V => ∃ k : Nat, a = .int .i64 k ∧ k ≤ al.length ∧ Below v.heap.size v V) (fun a _ => al.length - (intOf a).toNat)
          case atStart => exact ⟨0, rfl, Nat.zero_le _, Below.refl _ _⟩
          case round =>
            obtain ⟨k, rfl, hk, hb⟩ := hrel
            have HB := Lib.hid hb
            clear hb
            have n1 := (HN.out.bel HB.out).cell 1
            have n4 := (HN.out.bel HB.out).cell 4
            simp only [List.getElem?_toArray, List.getElem?_cons_zero, List.getElem?_cons_succ] at n1 n4
            rw [HJ.out] at n1
            by_cases hkl : k < al.length
            · have hkz : (k : Int) < al.length := by omega
              have f0 : (0 : Int) ≤ (k : Int) := by omega
              obtain ⟨y, hy⟩ : ∃ y, al[k]? = some y := ⟨_, List.getElem?_eq_getElem hkl⟩
              obtain ⟨_, ga, rfl, _, y0, y1, y2, y3, y4⟩ := own_msg (HO8.out.below HB.out) hy
              have hym : y.pl ∈ (h :: T).map MV.pl := by rw [← HAP.out]; exact List.mem_map.2 ⟨y, List.mem_of_getElem? hy, rfl⟩
              have hcmp : (h.ln < y.ln) ∨ (h.ln = y.ln ∧ h.sq ≤ y.sq) := RowI.head (h0 := h.pl) (T := T.map MV.pl) HH.out.2 hym
              rw [HJ.out] at hcmp
              clear hy hym
              rcases hcmp with h1 | ⟨h1, h2⟩
              · have t1 : (y.ln == (j : Int)) = false := by rw [beq_eq_false_iff_ne]; omega
                have t2 : decide (y.ln < (j : Int)) = false := decide_eq_false (by omega)
                go_wp2_with fail
                go_quiet (fail)
                go_wp2_with fail
                go_roundw
                case rel => exact ⟨k + 1, by go_num, by omega, bn HB.out nq⟩
                case measure => simp [intOf] <;> omega
              · rw [← h1] at y1
                have t2 : decide (y.sq < h.sq) = false := decide_eq_false (by omega)
                have t3 : decide ((j : Int) < (j : Int)) = false := decide_eq_false (by omega)
                have t4 : ((j : Int) == (j : Int)) = true := by simp
                clear h1
                go_wp2_with fail
                go_quiet (fail)
                go_wp2_with fail
                go_roundw
                case rel => exact ⟨k + 1, by go_num, by omega, bn HB.out nq⟩
                case measure => simp [intOf] <;> omega
            · have hkz : ¬ (k : Int) < al.length := by omega
              have hla := HH.out.2.la h.pl (List.mem_map.2 ⟨h, List.mem_cons_self .., rfl⟩)
              have e1 : h.pl.ln.toNat = j := by show h.ln.toNat = j; have := HJ.out; omega
              rw [e1] at hla
              have t1 : decide (h.sq ≤ f j) = false := decide_eq_false (by have h9 : f j < h.sq := hla; omega)
              have t2 : decide ((j : Int) < 0) = false := decide_eq_false (by omega)
              have t3 : decide ((j : Int) > 2) = false := decide_eq_false (by omega)
              have g1 := (HG8.out.bel HB.out).cell j
              rw [arr_at f (show j < 3 by omega)] at g1
              have hjn : j < 3 := by omega
              clear e1 hla
              go_wp2_with fail
              go_quiet (fail)
              have HBn := Lib.hid (bn HB.out nq)
              generalize wr.drewN nq = W2 at *
              clear g1 n1 n4 t1
              have n1 := (HN.out.bel HBn.out).cell 1
              have n4 := (HN.out.bel HBn.out).cell 4
              simp only [List.getElem?_toArray, List.getElem?_cons_zero, List.getElem?_cons_succ] at n1 n4
              rw [HJ.out] at n1
              have g1 := (HG8.out.bel HBn.out).cell j
              rw [arr_at f hjn] at g1
              have g2 := (HG8.out.bel HBn.out).frozen j
              have HR : Hid (RowS w (W2.setCell ⟨g, j, none⟩ (.int .i64 h.sq)) b L P g ni (no + 1)) := RowS.note (HV8.out.below HBn.out) HT8.out.1 (fun x hx => (HS.out.ln x hx).1) (HT8.out.2.below HBn.out) (HG8.out.bel HBn.out) HH.out.1 HH.out.2 HJ.out hjn
              go_wp2_with fail
              go_roundw
              case rel => exact ⟨ni, no + 1, i + 1, rfl, by go_num, by go_num, by omega, by omega, HR.out⟩
              case measure => simp [intOf] <;> omega
    · have hltz : ¬ (i : Int) < n := by omega
      have hdn : (ni : Int) - no = (d.length : Int) := by have := hI.ct; rw [List.length_map] at this; omega
      have CL := Lib.hid (len_any hv.ln)
      have HV := Lib.hid hv
      clear hv hs hw hg hwg hI HI
      go_wp2_with fail
      refine CL.out.mono ?_
      rintro e w5 ⟨rfl, rfl⟩
      go_wp2_with fail
      go_ret
      exact ⟨rfl, HV.out.bl⟩
end Go.Proofs.Ytjkdajkfbphnpaa.laneRow
