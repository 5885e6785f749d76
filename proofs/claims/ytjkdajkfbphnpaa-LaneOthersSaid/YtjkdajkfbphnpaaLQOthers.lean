/- LaneOthers, walked. -/
import Derived.Test.YtjkdajkfbphnpaaQPut
namespace Go.Proofs.Ytjkdajkfbphnpaa.laneOthers
open Go.RowKit Go.Proofs.Ytjkdajkfbphnpaa.G Go.Proofs.Ytjkdajkfbphnpaa.L10
set_option maxRecDepth 100000
/-- The lanes, and the message's box beside them. -/
def Inv (w0 : World) (b P bx : Nat) (cs : Array Value) (V : World) : Prop := ∃ r d, Lv w0 V b 3 P r d ∧ St 3 P d ∧ Blk V bx 33 cs ∧ ¬ FL b r bx
set_option maxHeartbeats 4000000 in
theorem walk (p : Int) (m : MV) (n : Int) (w : World) : Calls Try.prog 6 #[.int .i64 p, m.val, .int .i64 n] w fun e w' => e = .returned (.bool true) ∧ Below w.heap.size w w' := by
  have HN := Lib.hid (Blk.new w 33 #[.slice m.a m.ws.length m.c, .int .i64 m.ln, .int .i64 m.st, .int .i64 m.lt, .int .i64 m.sq])
  have HB := Lib.hid (b01 w (.cells #[.slice m.a m.ws.length m.c, .int .i64 m.ln, .int .i64 m.st, .int .i64 m.lt, .int .i64 m.sq] 33))
  obtain ⟨q, hq, q0, q1⟩ : ∃ q, (IntKind.u64.wrap n).tmod 30 = q ∧ 0 ≤ q ∧ q < 30 := ⟨_, rfl, (modU_bd n 30 (by decide)).1, (modU_bd n 30 (by decide)).2⟩
  obtain ⟨q, rfl⟩ : ∃ q' : Nat, q = q' := ⟨q.toNat, by omega⟩
  unfold MV.val
  go_enter Try.func6, Try.ntmps6
  go_wp2_with fail
  refine (lives_any _).mono ?_
  rintro e w1 ⟨rfl, hb1⟩
  have HN1 := Lib.hid (HN.out.bel hb1)
  have HB1 := Lib.hid (bt HB.out hb1)
  clear hb1 HN HB
  go_wp2_with fail
  refine (new_any 3 p _).mono ?_
  rintro e w2 ⟨rfl, h2, hb2⟩
  have hnp := near_pos p (m := 8) (by omega)
  obtain ⟨P, hP⟩ : ∃ P, (near p 8).toNat = P := ⟨_, rfl⟩
  have HP8 : Hid (P ≤ 8) := by show P ≤ 8; omega
  have HI : Hid (Inv w w1.heap.size P w.heap.size #[.slice m.a m.ws.length m.c, .int .i64 m.ln, .int .i64 m.st, .int .i64 m.lt, .int .i64 m.sq] w2) := by
    rw [hP] at h2
    refine ⟨_, _, ⟨h2, fun k hk => ?_, bt HB1.out hb2⟩, St.nil_ 3 P (by omega) HP8.out, HN1.out.bel hb2, fun hk => ?_⟩
    · rcases hk with rfl | hk
      · exact HB1.out.size
      · simp [Value.ownBlock] at hk
    · rcases hk with e | hk
      · have := HN1.out.lt; omega
      · simp [Value.ownBlock] at hk
  have hbb : w.heap.size < w1.heap.size := HN1.out.lt
  obtain ⟨b, hb⟩ : ∃ b, w1.heap.size = b := ⟨_, rfl⟩
  have HBB := Lib.hid hbb
  rw [hb] at HI HBB ⊢
  clear h2 hb2 hnp hP hbb hb HN1 HB1
  go_wp2_with fail
  go_loopw [8] (fun v V => ∃ i : Nat, v = .int .i64 i ∧ i ≤ q ∧ Inv w b P w.heap.size #[.slice m.a m.ws.length m.c, .int .i64 m.ln, .int .i64 m.st, .int .i64 m.lt, .int .i64 m.sq] V) (fun v _ => q - (intOf v).toNat)
  case atStart => exact ⟨0, rfl, Nat.zero_le _, HI.out⟩
  case round =>
    obtain ⟨i, rfl, hi, r, d, hv, hs, hx, hoff⟩ := hrel
    by_cases hlt : i < q
    · have hltz : (i : Int) < q := by omega
      have C := Lib.hid (put_any (m := mk0 ((i : Int) % 3) 0 0) hv.ln hs (wr0 _ 0 0 _) (show 0 ≤ 1000 by decide))
      have H := Lib.hid (And.intro hv (And.intro hx hoff))
      clear hv hs hx hoff HI
      unfold mk0 MV.val at C
      simp only [List.length_nil] at C
      go_wp2_with fail
      refine C.out.mono ?_
      rintro e w3 ⟨r', d', rfl, hp⟩
      have H3 : Hid (Inv w b P w.heap.size #[.slice m.a m.ws.length m.c, .int .i64 m.ln, .int .i64 m.st, .int .i64 m.lt, .int .i64 m.sq] w3) :=
        ⟨r', d', H.out.1.step hp.ln hp.on hp.nw, hp.st, hp.on.blk H.out.2.1 H.out.2.2, off_nw hp.nw H.out.2.2 H.out.2.1.lt⟩
      clear hp C H
      go_wp2_with fail
      go_roundw
      case rel => exact ⟨i + 1, by go_num, by omega, H3.out⟩
      case measure => simp [intOf] <;> omega
    · have hltz : ¬ (i : Int) < q := by omega
      obtain ⟨x, hx', x0, x3⟩ : ∃ x, (IntKind.u64.wrap m.ln).tmod 3 = x ∧ 0 ≤ x ∧ x < 3 := ⟨_, rfl, (modU_bd m.ln 3 (by decide)).1, (modU_bd m.ln 3 (by decide)).2⟩
      obtain ⟨x, rfl⟩ : ∃ x' : Nat, x = x' := ⟨x.toNat, by omega⟩
      have k0 := hx.cell 0
      have k1 := hx.cell 1
      have f0 := hx.frozen 0
      have f1 := hx.frozen 1
      simp only [List.getElem?_toArray, List.getElem?_cons_zero, List.getElem?_cons_succ] at k0 k1
      have hwl : w.heap.size < wr.heap.size := hx.lt
      have HV : Hid (Lv w (((wr.setCell ⟨w.heap.size, 0, none⟩ (.slice none 0 0)).setCell ⟨w.heap.size, 1, none⟩ (.int .i64 x)).alloc (.cells #[.int .i64 0, .int .i64 0, .int .i64 0] 56)) b 3 P r d) :=
        (hv.other (X := fun k => k = w.heap.size) (((Only.refl (fun k => k = w.heap.size) wr).set_ (.inl rfl) 0 _).set_ (.inl rfl) 1 _) (fun k hk => by
          have e : k = w.heap.size := hk
          subst e
          exact ⟨hoff, Nat.le_refl _⟩)).below (b01 _ _)
      have HX : Hid (Blk (((wr.setCell ⟨w.heap.size, 0, none⟩ (.slice none 0 0)).setCell ⟨w.heap.size, 1, none⟩ (.int .i64 x)).alloc (.cells #[.int .i64 0, .int .i64 0, .int .i64 0] 56)) w.heap.size 33 #[.slice none 0 0, .int .i64 x, .int .i64 m.st, .int .i64 m.lt, .int .i64 m.sq]) :=
        ((hx.set_ 0 (.slice none 0 0)).set_ 1 (.int .i64 x)).alloc _
      have HW : Hid (Blk (((wr.setCell ⟨w.heap.size, 0, none⟩ (.slice none 0 0)).setCell ⟨w.heap.size, 1, none⟩ (.int .i64 x)).alloc (.cells #[.int .i64 0, .int .i64 0, .int .i64 0] 56)) wr.heap.size 56 (arr3 (fun t => room 3 P d t) 0)) := by
        have := Blk.new ((wr.setCell ⟨w.heap.size, 0, none⟩ (.slice none 0 0)).setCell ⟨w.heap.size, 1, none⟩ (.int .i64 x)) 56 #[.int .i64 0, .int .i64 0, .int .i64 0]
        simp only [World.size_setCell] at this
        exact this
      have HS := Lib.hid hs
      have HOff := Lib.hid (And.intro hoff hwl)
      clear hv hs hx hoff HI hlt hwl
      go_wp2_with fail
      generalize ((wr.setCell ⟨w.heap.size, 0, none⟩ (.slice none 0 0)).setCell ⟨w.heap.size, 1, none⟩ (.int .i64 x)).alloc (.cells #[.int .i64 0, .int .i64 0, .int .i64 0] 56) = W4 at *
      obtain ⟨bw, hbw⟩ : ∃ bw, wr.heap.size = bw := ⟨_, rfl⟩
      rw [hbw] at HW HOff ⊢
      clear k0 k1 f0 f1 hbw
      go_loopw [10] (fun v V => ∃ k : Nat, v = .int .i64 k ∧ k ≤ 3 ∧ Lv w V b 3 P r d ∧ Blk V w.heap.size 33 #[.slice none 0 0, .int .i64 x, .int .i64 m.st, .int .i64 m.lt, .int .i64 m.sq] ∧ Blk V bw 56 (arr3 (fun t => room 3 P d t) k)) (fun v _ => 3 - (intOf v).toNat)
      case atStart => exact ⟨0, rfl, by omega, HV.out, HX.out, HW.out⟩
      case round =>
        obtain ⟨k, rfl, hk, hv, hx, hw⟩ := hrel
        have HV2 := Lib.hid hv
        have HX2 := Lib.hid hx
        have HW2 := Lib.hid hw
        clear HV HX HW hv hx hw
        by_cases hk3 : k < 3
        · have hkz : (k : Int) < 3 := by omega
          have C := Lib.hid (room_any HV2.out.ln (k : Int) HS.out.p8 (by have := HS.out.len; omega))
          obtain ⟨R, hR⟩ : ∃ R, room 3 P d k = R := ⟨_, rfl⟩
          have HR := Lib.hid hR
          rw [hR] at C
          clear hR
          go_wp2_with fail
          refine C.out.mono ?_
          rintro e w5 ⟨rfl, hb5⟩
          have HV5 := Lib.hid (HV2.out.below hb5)
          have HX5 := Lib.hid (HX2.out.bel hb5)
          have HW5 := Lib.hid (HW2.out.bel hb5)
          clear hb5 HV2 HX2 HW2 C
          have kk : ∃ u, w5.cell? ⟨bw, k, none⟩ = some u := by
            rw [HW5.out.cell]; unfold arr3
            rcases (show k = 0 ∨ k = 1 ∨ k = 2 by omega) with rfl | rfl | rfl <;> exact ⟨_, rfl⟩
          obtain ⟨u, k5⟩ := kk
          have f5 := HW5.out.frozen k
          go_wp2_with fail
          go_roundw
          case rel =>
            refine ⟨k + 1, by go_num, by omega, ?_, HX5.out.far (p := ⟨bw, k, none⟩) (HX5.out.ne_ HW5.out (by decide)) _, ?_⟩
            · refine HV5.out.other (X := fun q => q = bw) ((Only.refl (fun q => q = bw) w5).set_ (.inl rfl) k _) fun q hq => ?_
              have e : q = bw := hq
              subst e
              exact ⟨HV5.out.ln.off HW5.out (by decide) (by decide), by have := HOff.out.2; omega⟩
            · have := HW5.out.set_ k (.int .i64 R)
              rw [show (arr3 (fun t => room 3 P d t) k).setIfInBounds k (.int .i64 R) = arr3 (fun t => room 3 P d t) (k + 1) by
                rw [← HR.out]; unfold arr3
                rcases (show k = 0 ∨ k = 1 ∨ k = 2 by omega) with rfl | rfl | rfl <;> rfl] at this
              exact this
          case measure => simp [intOf] <;> omega
        · obtain rfl : k = 3 := by omega
          clear hk hk3
          obtain ⟨M, hM⟩ : ∃ M : MV, M = ⟨none, [], 0, x, m.st, m.lt, m.sq⟩ := ⟨_, rfl⟩
          have C := Lib.hid (put_any (m := ⟨none, [], 0, x, m.st, m.lt, m.sq⟩) HV2.out.ln HS.out ⟨Row.none_, Nat.le_refl _, by show (0 : Nat) ≤ _; omega⟩ (show 0 ≤ 1000 by decide))
          unfold MV.val at C
          simp only [List.length_nil] at C
          obtain ⟨pc, hpc⟩ : ∃ pc, pcode 3 P d x = pc := ⟨_, rfl⟩
          have HPC := Lib.hid hpc
          unfold PaPost at C
          simp only [hpc] at C
          have k0 := HX2.out.cell 0
          have k1 := HX2.out.cell 1
          have k2 := HX2.out.cell 2
          have k3 := HX2.out.cell 3
          have k4 := HX2.out.cell 4
          simp only [List.getElem?_toArray, List.getElem?_cons_zero, List.getElem?_cons_succ] at k0 k1 k2 k3 k4
          clear hM hpc
          go_wp2_with fail
          refine C.out.mono ?_
          rintro e w6 ⟨r', d', rfl, hp⟩
          have HV6 := Lib.hid (HV2.out.step hp.ln hp.on hp.nw)
          have HX6 := Lib.hid (hp.on.blk HX2.out HOff.out.1)
          have HW6 := Lib.hid (hp.on.blk HW2.out (HV2.out.ln.off HW2.out (by decide) (by decide)))
          have HS6 := Lib.hid hp.st
          have HCn := Lib.hid hp.cn
          clear hp C k0 k1 k2 k3 k4 HV2 HX2 HW2 M
          go_wp2_with fail
          go_loopw [12] (fun v V => ∃ k : Nat, v = .int .i64 k ∧ k ≤ 3 ∧ Lv w V b 3 P r' d' ∧ Blk V w.heap.size 33 #[.slice none 0 0, .int .i64 x, .int .i64 m.st, .int .i64 m.lt, .int .i64 m.sq] ∧ Blk V bw 56 (arr3 (fun t => room 3 P d t) 3)) (fun v _ => 3 - (intOf v).toNat)
          case atStart => exact ⟨0, rfl, by omega, HV6.out, HX6.out, HW6.out⟩
          case round =>
            obtain ⟨k, rfl, hk, hv, hx, hw⟩ := hrel
            have HV7 := Lib.hid hv
            have HX7 := Lib.hid hx
            have HW7 := Lib.hid hw
            have k1 := hx.cell 1
            simp only [List.getElem?_toArray, List.getElem?_cons_zero, List.getElem?_cons_succ] at k1
            clear HV6 HX6 HW6 hv hx hw
            by_cases hk3 : k < 3
            · have hkz : (k : Int) < 3 := by omega
              have kk : wr.cell? ⟨bw, k, none⟩ = some (.int .i64 (room 3 P d k)) := by
                rw [HW7.out.cell]; unfold arr3
                rcases (show k = 0 ∨ k = 1 ∨ k = 2 by omega) with rfl | rfl | rfl <;> rfl
              have C := Lib.hid (room_any HV7.out.ln (k : Int) HS6.out.p8 (by have := HS6.out.len; omega))
              have il : isL 3 (k : Int) = true := decide_eq_true (by omega)
              have r1 : room 3 P d k = (P : Int) - cnt d k := room_in il
              have r2 : room 3 P d' k = (P : Int) - cnt d' k := room_in il
              have hcn := HCn.out (k : Int)
              rw [HPC.out] at hcn
              have hle := HS6.out.cn (k : Int)
              have hp8 := HS6.out.p8
              obtain ⟨R, hR⟩ : ∃ R, room 3 P d k = R := ⟨_, rfl⟩
              obtain ⟨Wt, hWt⟩ : ∃ Wt, room 3 P d' k = Wt := ⟨_, rfl⟩
              rw [hWt] at C
              rw [hR] at kk
              by_cases hA : pc = 0 ∧ (x : Int) = k
              · rw [if_pos hA] at hcn
                have hz : R - 1 = Wt := by omega
                have hwp : IntKind.i64.wrap Wt = Wt := by rw [IntKind.wrap_i64]; omega
                have w0 : ¬ Wt < 0 := by omega
                have t3 : (Wt != Wt) = false := by simp
                obtain ⟨rfl, hxk⟩ := hA
                have t1 : ((k : Int) == (x : Int)) = true := by rw [beq_iff_eq]; exact hxk.symm
                clear hcn hle r1 r2 hR hWt il hxk hp8
                go_wp2_with fail
                refine C.out.mono ?_
                rintro e w8 ⟨rfl, hb8⟩
                have H8 := Lib.hid (And.intro (HV7.out.below hb8) (And.intro (HX7.out.bel hb8) (HW7.out.bel hb8)))
                clear hb8 C k1 kk
                go_wp2_with fail
                go_roundw
                case rel => exact ⟨k + 1, by go_num, by omega, H8.out.1, H8.out.2.1, H8.out.2.2⟩
                case measure => simp [intOf] <;> omega
              · rw [if_neg hA] at hcn
                have hz : R = Wt := by omega
                subst hz
                have w0 : ¬ R < 0 := by omega
                have t3 : (R != R) = false := by simp
                have hor : (x : Int) ≠ k ∨ ((x : Int) = k ∧ pc ≠ 0) := by
                  by_cases c : (x : Int) = k
                  · exact .inr ⟨c, fun e => hA ⟨e, c⟩⟩
                  · exact .inl c
                clear hcn hle r1 r2 hR hWt il hp8 hA
                rcases hor with hne | ⟨he, hp0⟩
                · have t1 : ((k : Int) == (x : Int)) = false := by rw [beq_eq_false_iff_ne]; exact Ne.symm hne
                  clear hne
                  go_wp2_with fail
                  refine C.out.mono ?_
                  rintro e w8 ⟨rfl, hb8⟩
                  have H8 := Lib.hid (And.intro (HV7.out.below hb8) (And.intro (HX7.out.bel hb8) (HW7.out.bel hb8)))
                  clear hb8 C k1 kk
                  go_wp2_with fail
                  go_roundw
                  case rel => exact ⟨k + 1, by go_num, by omega, H8.out.1, H8.out.2.1, H8.out.2.2⟩
                  case measure => simp [intOf] <;> omega
                · have t1 : ((k : Int) == (x : Int)) = true := by rw [beq_iff_eq]; exact he.symm
                  have t2 : (pc == 0) = false := by rw [beq_eq_false_iff_ne]; exact hp0
                  clear he hp0
                  go_wp2_with fail
                  refine C.out.mono ?_
                  rintro e w8 ⟨rfl, hb8⟩
                  have H8 := Lib.hid (And.intro (HV7.out.below hb8) (And.intro (HX7.out.bel hb8) (HW7.out.bel hb8)))
                  clear hb8 C k1 kk
                  go_wp2_with fail
                  go_roundw
                  case rel => exact ⟨k + 1, by go_num, by omega, H8.out.1, H8.out.2.1, H8.out.2.2⟩
                  case measure => simp [intOf] <;> omega
            · obtain rfl : k = 3 := by omega
              clear hk hk3
              have kk : wr.cell? ⟨bw, x, none⟩ = some (.int .i64 (room 3 P d x)) := by
                rw [HW7.out.cell]; unfold arr3
                rcases (show x = 0 ∨ x = 1 ∨ x = 2 by omega) with rfl | rfl | rfl <;> rfl
              have il : isL 3 (x : Int) = true := decide_eq_true (by omega)
              have r1 : room 3 P d x = (P : Int) - cnt d x := room_in il
              have hpc := HPC.out
              unfold pcode at hpc
              rw [if_pos il] at hpc
              have C3 : Hid (Calls Try.prog 29 #[.pointer (some ⟨b, 0, none⟩), .int .i64 3] wr fun e w' => e = .returned (.int .i64 0) ∧ Below wr.heap.size wr w') := by
                have := room_any HV7.out.ln 3 HS6.out.p8 (by have := HS6.out.len; omega)
                rw [room_out (show isL 3 3 = false by decide)] at this
                exact this
              have C4 : Hid (∀ V, Below wr.heap.size wr V → Calls Try.prog 18 #[.pointer (some ⟨b, 0, none⟩), .agg #[.slice none 0 0, .int .i64 3, .int .i64 0, .int .i64 0, .int .i64 0]] V fun e w' => e = .returned (.int .i64 3) ∧ Below V.heap.size V w') := fun V hV => put_no (HV7.out.ln.below hV) (mk0 3 0 0) (by decide)
              have C5 : Hid (∀ V, Below wr.heap.size wr V → Calls Try.prog 18 #[.pointer (some ⟨b, 0, none⟩), .agg #[.slice none 0 0, .int .i64 (-1), .int .i64 0, .int .i64 0, .int .i64 0]] V fun e w' => e = .returned (.int .i64 3) ∧ Below V.heap.size V w') := fun V hV => put_no (HV7.out.ln.below hV) (mk0 (-1) 0 0) (by decide)
              have HBl := Lib.hid HV7.out.bl
              have x9 : (x : Int) < 3 := x3
              by_cases hc : cnt d x < P
              · rw [if_pos hc] at hpc
                subst hpc
                have t1 : decide (room 3 P d x > 0) = true := decide_eq_true (by omega)
                clear r1 il hc
                generalize room 3 P d x = R at *
                go_wp2_with fail
                refine C3.out.mono ?_
                rintro e w8 ⟨rfl, hb8⟩
                have C4' := Lib.hid (C4.out _ hb8)
                clear k1 kk
                go_wp2_with fail
                refine C4'.out.mono ?_
                rintro e w9 ⟨rfl, hb9⟩
                have hb9' := bt hb8 hb9
                have C5' := Lib.hid (C5.out _ hb9')
                clear hb8 hb9
                go_wp2_with fail
                refine C5'.out.mono ?_
                rintro e w10 ⟨rfl, hb10⟩
                go_wp2_with fail
                go_ret
                exact ⟨rfl, bt HBl.out (bt hb9' hb10)⟩
              · rw [if_neg hc] at hpc
                subst hpc
                have hcx := HS.out.cn (x : Int)
                have e0 : room 3 P d x = 0 := by omega
                rw [e0] at kk
                clear r1 il hc hcx e0
                go_wp2_with fail
                refine C3.out.mono ?_
                rintro e w8 ⟨rfl, hb8⟩
                have C4' := Lib.hid (C4.out _ hb8)
                clear k1 kk
                go_wp2_with fail
                refine C4'.out.mono ?_
                rintro e w9 ⟨rfl, hb9⟩
                have hb9' := bt hb8 hb9
                have C5' := Lib.hid (C5.out _ hb9')
                clear hb8 hb9
                go_wp2_with fail
                refine C5'.out.mono ?_
                rintro e w10 ⟨rfl, hb10⟩
                go_wp2_with fail
                go_ret
                exact ⟨rfl, bt HBl.out (bt hb9' hb10)⟩
end Go.Proofs.Ytjkdajkfbphnpaa.laneOthers
