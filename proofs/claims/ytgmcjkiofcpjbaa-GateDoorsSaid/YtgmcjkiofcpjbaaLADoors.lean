/- GateDoors, walked. -/
import Derived.Test.YtgmcjkiofcpjbaaAPut
import Derived.Test.YtgmcjkiofcpjbaaKAll
import Derived.Deep.CutBlock
namespace Go.Proofs.Ytgmcjkiofcpjbaa.gateDoors
open Go.RowKit Go.Proofs.Ytgmcjkiofcpjbaa.G Go.Proofs.Ytgmcjkiofcpjbaa.L10 Go.Proofs.Ytgmcjkiofcpjbaa.C04 Go.Proofs.Ytgmcjkiofcpjbaa.A12
set_option maxRecDepth 100000
variable {w w' V V' : World} {g : Nat} {a : Ga} {y : Chn} {ks : Nat}
/-- Between the rounds. -/
structure Dr (w V : World) (g ks : Nat) (a : Ga) (y : Chn) (i : Nat) : Prop where
  ex : ∃ s, Gt w V g a s ∧ 0 ≤ s.q ∧ s.q ≤ i
  bx : Blk V ks 23 #[.int .i64 y.k, .int .i64 y.f, .int .i64 y.t, .int .i64 y.w, .int .i64 y.r, .int .i64 y.la, .int .i64 y.d, .int .i64 y.h, .int .i64 y.li, .int .i64 y.ra, .int .i64 y.c]
theorem Dr.mk' {s : Gs} {i : Nat} (h : Gt w V g a s) (h0 : 0 ≤ s.q) (h1 : s.q ≤ (i : Int) + 1) (hb : Blk V ks 23 #[.int .i64 y.k, .int .i64 y.f, .int .i64 y.t, .int .i64 y.w, .int .i64 y.r, .int .i64 y.la, .int .i64 y.d, .int .i64 y.h, .int .i64 y.li, .int .i64 y.ra, .int .i64 y.c]) : Dr w V g ks a y (i + 1) := ⟨⟨s, h, h0, by push_cast; omega⟩, hb⟩
/-- What is told of a message in a lane that there is. -/
theorem oc_lane {s : Gs} (hf : Fit y a) (hy : GdC y) (lane z : Int) (h0 : 0 ≤ z) (h1 : z ≤ 2147483647) (hl : 0 ≤ lane) (hl2 : lane < y.la) (r : Int) :
    oc a s 0 lane [z] r = (if room a.L a.P s.d lane = 0 then 2 else if K11.ctok a.R a.C s.T s.N r = 0 then 2 else 0) := by
  have e1 : jdg a.k 0 lane [z] = 0 := by
    rw [hf.ch]
    exact jdg_ok rfl hy.k (decide_eq_true ⟨hl, hl2⟩) (mayb_yes (by simp) (by have := hy.w; simp only [List.length_cons, List.length_nil]; omega) (by simp [A12.wok, h0, h1]))
  unfold oc
  rw [e1, if_neg (by omega)]
theorem room_cnt {s : Gs} (hg : Gt w V g a s) (hf : Fit y a) (hy : GdC y) {lane : Int} (hl : 0 ≤ lane) (hl2 : lane < y.la) : room a.L a.P s.d lane = y.d - cnt s.d lane ∧ (cnt s.d lane : Int) ≤ y.d := by
  have h1 := hf.l
  have h2 := hf.p
  have h3 := hy.la
  have h4 := hy.d
  have h5 := hg.st.cn lane
  unfold near at h1 h2
  rw [room_in (decide_eq_true (by omega))]
  omega
theorem tok_again {s : Gs} (hg : Gt w V g a s) (r : Int) : K11.ctok a.R a.C (K11.ctok a.R a.C s.T s.N r) (K11.crnd s.N r) r = K11.ctok a.R a.C s.T s.N r :=
  (K11.come_same (hg.bk.ok.come r) (by unfold K11.crnd; omega)).1
set_option maxHeartbeats 8000000 in
theorem walk (k : Chn) {w : World} {A : Option Addr} {l : List A12.Sp} {c : Nat} (hl : l.length ≤ c) (hc : c ≤ 9223372036854775807) (hr : Row w A (A12.sps l)) (ho : ∀ (k : Nat) (y : A12.Sp), l[k]? = some y → A12.SpOk w y) : Calls Try.prog 6 #[k.val, .slice A l.length c] w fun e w' => e = .returned (.bool true) ∧ Below w.heap.size w w' := by
  have HR := Lib.hid (And.intro hr ho)
  have C1 := Lib.hid (fun V => A12.early_any (A := A) l.length c hl hc V)
  obtain ⟨n, hn⟩ : ∃ n, min l.length 80 = n := ⟨_, rfl⟩
  have hnl : n ≤ l.length ∧ n ≤ 80 := by omega
  have HNL := Lib.hid hnl
  unfold A12.EaPost at C1
  simp only [hn] at C1
  clear hr hl hc ho hn
  have b0 := b01 w (.cells #[.int .i64 k.k, .int .i64 k.f, .int .i64 k.t, .int .i64 k.w, .int .i64 k.r, .int .i64 k.la, .int .i64 k.d, .int .i64 k.h, .int .i64 k.li, .int .i64 k.ra, .int .i64 k.c] 23)
  have HN := Lib.hid (Blk.new w 23 #[.int .i64 k.k, .int .i64 k.f, .int .i64 k.t, .int .i64 k.w, .int .i64 k.r, .int .i64 k.la, .int .i64 k.d, .int .i64 k.h, .int .i64 k.li, .int .i64 k.ra, .int .i64 k.c])
  have HB := Lib.hid b0
  have HGd := Lib.hid (fun V => good12_any k V)
  unfold Chn.val at *
  clear b0
  go_enter Try.func6, Try.ntmps6
  go_wp2_with fail
  refine (lives_any _).mono ?_
  rintro e w1 ⟨rfl, hb1⟩
  have HN1 := Lib.hid (HN.out.bel hb1)
  have HB1 := Lib.hid (bt HB.out hb1)
  obtain ⟨ks, hks⟩ : ∃ ks, w.heap.size = ks := ⟨_, rfl⟩
  have HKS : Hid (w.heap.size ≤ ks) := Nat.le_of_eq hks
  rw [hks] at HN1
  rw [hks]
  clear hb1 HN HB hks
  have q0 := HN1.out.cell
  go_wp2_with fail
  refine (HGd.out _).mono ?_
  rintro e w2 ⟨y, rfl, hy, hb2⟩
  have HY := Lib.hid hy
  have HN2 := Lib.hid (HN1.out.bel hb2)
  have HB2 := Lib.hid (bt HB1.out hb2)
  clear q0 hy hb2 HN1 HB1 HGd
  unfold Chn.val
  have q0 := HN2.out.cell
  have f0 := HN2.out.frozen
  go_upto_region 4 with fail
  have HN3 := Lib.hid (put11 HN2.out (.int .i64 y.k) (.int .i64 y.f) (.int .i64 y.t) (.int .i64 y.w) (.int .i64 y.r) (.int .i64 y.la) (.int .i64 y.d) (.int .i64 y.h) (.int .i64 y.li) (.int .i64 y.ra) (.int .i64 y.c))
  have HB3 := Lib.hid (bel11 HB2.out HKS.out (.int .i64 y.k) (.int .i64 y.f) (.int .i64 y.t) (.int .i64 y.w) (.int .i64 y.r) (.int .i64 y.la) (.int .i64 y.d) (.int .i64 y.h) (.int .i64 y.li) (.int .i64 y.ra) (.int .i64 y.c))
  clear q0 f0 HN2 HB2
  generalize (((((((((((w2.setCell ⟨ks, 0, none⟩ (.int .i64 y.k)).setCell ⟨ks, 1, none⟩ (.int .i64 y.f)).setCell ⟨ks, 2, none⟩ (.int .i64 y.t)).setCell ⟨ks, 3, none⟩ (.int .i64 y.w)).setCell ⟨ks, 4, none⟩ (.int .i64 y.r)).setCell ⟨ks, 5, none⟩ (.int .i64 y.la)).setCell ⟨ks, 6, none⟩ (.int .i64 y.d)).setCell ⟨ks, 7, none⟩ (.int .i64 y.h)).setCell ⟨ks, 8, none⟩ (.int .i64 y.li)).setCell ⟨ks, 9, none⟩ (.int .i64 y.ra)).setCell ⟨ks, 10, none⟩ (.int .i64 y.c)) = W3 at *
  have q0 := HN3.out.cell
  have HNw := Lib.hid (new_any y W3)
  unfold Chn.val at HNw
  go_wp2_with fail
  refine HNw.out.mono ?_
  rintro e w4 ⟨g, a, rfl, hg, hf⟩
  have HG := Lib.hid (hg.old HB3.out)
  have HF := Lib.hid hf
  have HN4 := Lib.hid (HN3.out.bel (hg.below (Below.refl _ _)).bl)
  clear q0 hg hf HN3 HNw
  have HI : Hid (Dr w w4 g ks a y 0) := ⟨⟨_, HG.out, Int.le_refl _, Int.le_refl _⟩, HN4.out⟩
  clear HG HN4 HB3
  go_wp2_with fail
  refine (C1.out _).mono ?_
  rintro e w5 ⟨⟨c', rfl⟩, rfl⟩
  go_wp2_with fail
  go_loopw [6, 7] (fun rv iv V => ∃ (rd i : Nat), rv = .int .i64 rd ∧ iv = .int .i64 i ∧ i ≤ n ∧ rd ≤ i ∧ Dr w V g ks a y i) (fun _ iv _ => n - (intOf iv).toNat)
  case atStart => exact ⟨0, 0, rfl, rfl, Nat.zero_le _, Nat.le_refl _, HI.out⟩
  case round =>
    clear HI
    obtain ⟨rd, i, rfl, rfl, hi, hrd, ⟨s, hg, hq0, hq1⟩, hbx⟩ := hrel
    by_cases hlt : i < n
    · have hltz : (i : Int) < n := by omega
      have hi80 : i < 80 := by omega
      obtain ⟨u, hu⟩ : ∃ u, l[i]? = some u := ⟨_, List.getElem?_eq_getElem (by have := HNL.out.1; omega)⟩
      obtain ⟨gs, o, rfl, _, s0, s1, s2, s3, s4, s5⟩ := A12.sps_at (HR.out.1.below hg.bl) hu
      have hi0 : (0 : Int) ≤ (i : Int) := by omega
      have CK := Lib.hid (A12.kind_any u)
      obtain ⟨kd, hkd⟩ : ∃ kd, modU u.k 8 = kd := ⟨_, rfl⟩
      rw [hkd] at CK
      unfold A12.Sp.val at CK
      obtain ⟨b, hb, hb0, hb2⟩ : ∃ b, (IntKind.u64.wrap u.r).tmod 2 = b ∧ 0 ≤ b ∧ b < 2 := ⟨_, rfl, modU_bd u.r 2 (by decide)⟩
      have hla := HY.out.la
      obtain ⟨ln, hln, hl0, hl1⟩ : ∃ ln, (IntKind.u64.wrap u.ln).tmod y.la = ln ∧ 0 ≤ ln ∧ ln < y.la := ⟨_, rfl, modU_bd u.ln y.la (by omega)⟩
      have hwl : IntKind.u64.wrap y.la = y.la := by rw [IntKind.wrap_u64]; omega
      have hz : (y.la == 0) = false := by rw [beq_eq_false_iff_ne]; omega
      have b5 := b01 wr (.cells #[.int .i64 u.k, .int .i64 u.md, .int .i64 u.ln, .int .i64 u.n, .int .i64 u.r, .slice u.a u.ws.length u.c] 40)
      have HN := Lib.hid (Blk.new wr 40 #[.int .i64 u.k, .int .i64 u.md, .int .i64 u.ln, .int .i64 u.n, .int .i64 u.r, .slice u.a u.ws.length u.c])
      have HG := Lib.hid (hg.below b5)
      have HX := Lib.hid (hbx.bel b5)
      have HQ := Lib.hid (And.intro hq0 hq1)
      clear hg hbx hu b5 hkd hq0 hq1
      go_upto_region 11 with fail
      obtain ⟨kx, hkx⟩ : ∃ kx, wr.heap.size = kx := ⟨_, rfl⟩
      rw [hkx] at HN
      rw [hkx]
      generalize wr.alloc (.cells #[.int .i64 u.k, .int .i64 u.md, .int .i64 u.ln, .int .i64 u.n, .int .i64 u.r, .slice u.a u.ws.length u.c] 40) = v at *
      clear hkx s0 s1 s2 s3 s4 s5
      have q0 := HX.out.cell
      have n0 := HN.out.cell
      obtain ⟨rn, hrz⟩ : ∃ rn : Nat, (rd : Int) + b = (rn : Int) := ⟨((rd : Int) + b).toNat, by omega⟩
      have hrl : rn ≤ i + 1 := by omega
      have HCnt := Lib.hid (room_cnt HG.out HF.out HY.out hl0 hl1)
      go_upto_region 14 with fail
      clear q0 n0
      clear hb hrz hb0 hb2 hwl hz hln
      have CA := Lib.hid (A12.all_any HG.out)
      go_wp2_with fail
      refine CA.out.mono ?_
      rintro e w5 ⟨A5, c5, l5, rfl, hr5, hw5, hp5, hb5⟩
      have HG5 := Lib.hid (HG.out.below hb5)
      have HX5 := Lib.hid (HX.out.bel hb5)
      have HN5 := Lib.hid (HN.out.bel hb5)
      have HR5 := Lib.hid hr5
      have hl24 : l5.length ≤ 24 := by
        have h := congrArg List.length hp5
        rw [List.length_map, List.length_map] at h
        have := HG.out.len
        omega
      have HP5 := Lib.hid (cnt_pl hp5 ln)
      clear hr5 hw5 hp5 hb5 HG HX HN CA
      go_upto_block 2 with fail
      go_cut [10] (fun v V => v = .int .i64 (cnt s.d ln : Nat) ∧ V = w5)
      case first =>
        go_wp2_with fail
        go_loopw [10, 12] (fun nv jv V => ∃ j : Nat, jv = .int .i64 j ∧ j ≤ l5.length ∧ nv = .int .i64 (cnt (l5.take j) ln : Nat) ∧ V = w5) (fun _ jv _ => l5.length - (intOf jv).toNat)
        case atStart => exact ⟨0, rfl, Nat.zero_le _, rfl, rfl⟩
        case round =>
          obtain ⟨j, rfl, hj, rfl, hV⟩ := hrel
          obtain rfl : w5 = wr := hV.symm
          by_cases hjl : j < l5.length
          · obtain ⟨m, hm⟩ : ∃ m, l5[j]? = some m := ⟨_, List.getElem?_eq_getElem hjl⟩
            obtain ⟨b5, o5, rfl, _, p0, p1, p2, p3, p4⟩ := row_msg HR5.out hm
            have hjz : (j : Int) < l5.length := by omega
            have hj0 : (0 : Int) ≤ (j : Int) := by omega
            have hcl := cnt_le (l5.take j) ln
            rw [List.length_take] at hcl
            by_cases he : m.ln = ln
            · have HY1 := Lib.hid (cnt_yes hm he)
              have t1 : (m.ln == ln) = true := by simpa using he
              generalize cnt (l5.take j) ln = ct at *
              clear he hm
              go_wp2_with fail
              go_roundw
              case rel => exact ⟨j + 1, by go_num, by omega, by rw [HY1.out]; go_num, by trivial⟩
              case measure => simp [intOf] <;> omega
            · have HY1 := Lib.hid (cnt_no hm he)
              have t1 : (m.ln == ln) = false := by simpa using he
              generalize cnt (l5.take j) ln = ct at *
              clear he hm
              go_wp2_with fail
              go_roundw
              case rel => exact ⟨j + 1, by go_num, by omega, by rw [HY1.out], by trivial⟩
              case measure => simp [intOf] <;> omega
          · have hjz : ¬ (j : Int) < l5.length := by omega
            have hjl2 : l5.take j = l5 := List.take_of_length_le (by omega)
            rw [hjl2, HP5.out]
            go_wp2_with fail
            go_meet
            exact ⟨rfl, rfl⟩
      case rest =>
        obtain ⟨rfl, hV⟩ := hcut
        obtain rfl : w5 = wc := hV.symm
        clear HR5 HP5 hl24
        by_cases hC : (cnt s.d ln : Int) < y.d
        · skip
          have HC : Hid (room a.L a.P s.d ln ≠ 0) := by
            have := HCnt.out.1
            show room a.L a.P s.d ln ≠ 0
            rw [this]
            omega
          have hct : ((cnt s.d ln : Nat) : Int) < y.d := by omega
          have HTA := Lib.hid (tok_again HG5.out (rn : Int))
          have HT0 := Lib.hid (HG5.out.bk.ok.come (rn : Int)).t0
          have CT := Lib.hid (A12.tokens_any HG5.out (rn : Int))
          unfold A12.TkPost at CT
          generalize K11.ctok a.R a.C s.T s.N (rn : Int) = T1 at *
          generalize K11.crnd s.N (rn : Int) = N1 at *
          have q0 := HX5.out.cell
          go_wp2_with fail
          with_reducible refine CT.out.mono ?_
          rintro e w6 ⟨rfl, hg6, ho6⟩
          have HG6 := Lib.hid hg6
          have HX6 := Lib.hid (ho6.blk HX5.out (HG5.out.off2 HX5.out (by decide) (by decide) (by decide) (by decide)))
          have HN6 := Lib.hid (ho6.blk HN5.out (HG5.out.off2 HN5.out (by decide) (by decide) (by decide) (by decide)))
          clear hg6 ho6 q0 CT HG5 HX5 HN5
          by_cases hT : T1 = 0
          · skip
            have HO := Lib.hid (offer_one HG6.out (i : Int) 0 ln u.n (rn : Int) (by exact HQ.out.1) (by have := HQ.out; (try dsimp only); omega))
            rw [oc_lane HF.out HY.out ln (i : Int) (by omega) (by omega) hl0 hl1 (rn : Int)] at HO
            dsimp only at HO
            rw [if_neg HC.out, HTA.out, if_pos hT] at HO
            have tT : decide (T1 > 0) = false := decide_eq_false (by omega)
            have q0 := HX6.out.cell
            have n0 := HN6.out.cell
            have n1 := HN6.out.lt
            clear hT hC
            go_wp2_with fail
            with_reducible refine HO.out.mono ?_
            rintro e w7 ⟨m, s', rfl, h7⟩
            have HX7 := Lib.hid (h7.on.blk (HX6.out.alloc (.cells #[.int .i64 i] 3)) ((HG6.out.alloc (.cells #[.int .i64 i] 3)).off2 (HX6.out.alloc (.cells #[.int .i64 i] 3)) (by decide) (by decide) (by decide) (by decide)))
            have HN7 := Lib.hid (h7.on.blk (HN6.out.alloc (.cells #[.int .i64 i] 3)) ((HG6.out.alloc (.cells #[.int .i64 i] 3)).off2 (HN6.out.alloc (.cells #[.int .i64 i] 3)) (by decide) (by decide) (by decide) (by decide)))
            have HQ7 : Hid (0 ≤ s'.q ∧ s'.q ≤ (i : Int) + 1) := by
              have h := h7.q
              have := HQ.out
              show 0 ≤ s'.q ∧ s'.q ≤ (i : Int) + 1
              rw [h]
              (try dsimp only)
              split <;> omega
            have b8 := b01 w7 (.cells #[.slice m.a m.ws.length m.c, .int .i64 m.ln, .int .i64 m.st, .int .i64 m.lt, .int .i64 m.sq] 43)
            have HG8 := Lib.hid (h7.gt.below b8)
            have HX8 := Lib.hid (HX7.out.bel b8)
            have HN8 := Lib.hid (HN7.out.bel b8)
            clear h7 b8 HX7 HN7 HO q0 n0 n1
            unfold MV.val
            go_upto_region 24 with fail
            generalize w7.alloc (.cells #[.slice m.a m.ws.length m.c, .int .i64 m.ln, .int .i64 m.st, .int .i64 m.lt, .int .i64 m.sq] 43) = W8 at *
            have n0 := HN8.out.cell
            go_wp2_with fail
            refine (CK.out _).mono ?_
            rintro e w9 ⟨rfl, hb9⟩
            have HG9 := Lib.hid (HG8.out.below hb9)
            have HX9 := Lib.hid (HX8.out.bel hb9)
            clear n0 hb9 HG8 HX8 HN8
            by_cases hk4 : kd > 4
            · have HTk := Lib.hid (A12.take_any HG9.out)
              unfold TbP MV.val at HTk
              go_wp2_with fail
              refine HTk.out.mono ?_
              rintro e w10 ⟨r10, rfl, h10⟩
              have HD : Hid (Dr w w10 g ks a y (i + 1)) := Dr.mk' h10.gt HQ7.out.1 HQ7.out.2 (h10.on.blk HX9.out (HG9.out.off2 HX9.out (by decide) (by decide) (by decide) (by decide)))
              clear h10
              go_wp2_with fail
              go_roundw
              case rel => exact ⟨rn, i + 1, rfl, by go_num, by omega, by omega, HD.out⟩
              case measure => simp [intOf] <;> omega
            · have HD : Hid (Dr w w9 g ks a y (i + 1)) := Dr.mk' HG9.out HQ7.out.1 HQ7.out.2 HX9.out
              go_wp2_with fail
              go_roundw
              case rel => exact ⟨rn, i + 1, rfl, by go_num, by omega, by omega, HD.out⟩
              case measure => simp [intOf] <;> omega
          · skip
            have HO := Lib.hid (offer_one HG6.out (i : Int) 0 ln u.n (rn : Int) (by exact HQ.out.1) (by have := HQ.out; (try dsimp only); omega))
            rw [oc_lane HF.out HY.out ln (i : Int) (by omega) (by omega) hl0 hl1 (rn : Int)] at HO
            dsimp only at HO
            rw [if_neg HC.out, HTA.out, if_neg hT] at HO
            have tT : decide (T1 > 0) = true := decide_eq_true (by have := HT0.out; omega)
            have q0 := HX6.out.cell
            have n0 := HN6.out.cell
            have n1 := HN6.out.lt
            clear hT hC
            go_wp2_with fail
            with_reducible refine HO.out.mono ?_
            rintro e w7 ⟨m, s', rfl, h7⟩
            have HX7 := Lib.hid (h7.on.blk (HX6.out.alloc (.cells #[.int .i64 i] 3)) ((HG6.out.alloc (.cells #[.int .i64 i] 3)).off2 (HX6.out.alloc (.cells #[.int .i64 i] 3)) (by decide) (by decide) (by decide) (by decide)))
            have HN7 := Lib.hid (h7.on.blk (HN6.out.alloc (.cells #[.int .i64 i] 3)) ((HG6.out.alloc (.cells #[.int .i64 i] 3)).off2 (HN6.out.alloc (.cells #[.int .i64 i] 3)) (by decide) (by decide) (by decide) (by decide)))
            have HQ7 : Hid (0 ≤ s'.q ∧ s'.q ≤ (i : Int) + 1) := by
              have h := h7.q
              have := HQ.out
              show 0 ≤ s'.q ∧ s'.q ≤ (i : Int) + 1
              rw [h]
              (try dsimp only)
              split <;> omega
            have b8 := b01 w7 (.cells #[.slice m.a m.ws.length m.c, .int .i64 m.ln, .int .i64 m.st, .int .i64 m.lt, .int .i64 m.sq] 43)
            have HG8 := Lib.hid (h7.gt.below b8)
            have HX8 := Lib.hid (HX7.out.bel b8)
            have HN8 := Lib.hid (HN7.out.bel b8)
            clear h7 b8 HX7 HN7 HO q0 n0 n1
            unfold MV.val
            go_upto_region 24 with fail
            generalize w7.alloc (.cells #[.slice m.a m.ws.length m.c, .int .i64 m.ln, .int .i64 m.st, .int .i64 m.lt, .int .i64 m.sq] 43) = W8 at *
            have n0 := HN8.out.cell
            go_wp2_with fail
            refine (CK.out _).mono ?_
            rintro e w9 ⟨rfl, hb9⟩
            have HG9 := Lib.hid (HG8.out.below hb9)
            have HX9 := Lib.hid (HX8.out.bel hb9)
            clear n0 hb9 HG8 HX8 HN8
            by_cases hk4 : kd > 4
            · have HTk := Lib.hid (A12.take_any HG9.out)
              unfold TbP MV.val at HTk
              go_wp2_with fail
              refine HTk.out.mono ?_
              rintro e w10 ⟨r10, rfl, h10⟩
              have HD : Hid (Dr w w10 g ks a y (i + 1)) := Dr.mk' h10.gt HQ7.out.1 HQ7.out.2 (h10.on.blk HX9.out (HG9.out.off2 HX9.out (by decide) (by decide) (by decide) (by decide)))
              clear h10
              go_wp2_with fail
              go_roundw
              case rel => exact ⟨rn, i + 1, rfl, by go_num, by omega, by omega, HD.out⟩
              case measure => simp [intOf] <;> omega
            · have HD : Hid (Dr w w9 g ks a y (i + 1)) := Dr.mk' HG9.out HQ7.out.1 HQ7.out.2 HX9.out
              go_wp2_with fail
              go_roundw
              case rel => exact ⟨rn, i + 1, rfl, by go_num, by omega, by omega, HD.out⟩
              case measure => simp [intOf] <;> omega
        · skip
          have HC : Hid (room a.L a.P s.d ln = 0) := by
            have := HCnt.out.1
            have h2 := HCnt.out.2
            show room a.L a.P s.d ln = 0
            rw [this]
            omega
          have HG6 := HG5
          have HX6 := HX5
          have HN6 := HN5
          have HO := Lib.hid (offer_one HG6.out (i : Int) 0 ln u.n (rn : Int) (by exact HQ.out.1) (by have := HQ.out; (try dsimp only); omega))
          rw [oc_lane HF.out HY.out ln (i : Int) (by omega) (by omega) hl0 hl1 (rn : Int)] at HO
          rw [if_pos HC.out] at HO
          have q0 := HX6.out.cell
          have n0 := HN6.out.cell
          have n1 := HN6.out.lt
          go_wp2_with fail
          with_reducible refine HO.out.mono ?_
          rintro e w7 ⟨m, s', rfl, h7⟩
          have HX7 := Lib.hid (h7.on.blk (HX6.out.alloc (.cells #[.int .i64 i] 3)) ((HG6.out.alloc (.cells #[.int .i64 i] 3)).off2 (HX6.out.alloc (.cells #[.int .i64 i] 3)) (by decide) (by decide) (by decide) (by decide)))
          have HN7 := Lib.hid (h7.on.blk (HN6.out.alloc (.cells #[.int .i64 i] 3)) ((HG6.out.alloc (.cells #[.int .i64 i] 3)).off2 (HN6.out.alloc (.cells #[.int .i64 i] 3)) (by decide) (by decide) (by decide) (by decide)))
          have HQ7 : Hid (0 ≤ s'.q ∧ s'.q ≤ (i : Int) + 1) := by
            have h := h7.q
            have := HQ.out
            show 0 ≤ s'.q ∧ s'.q ≤ (i : Int) + 1
            rw [h]
            (try dsimp only)
            split <;> omega
          have b8 := b01 w7 (.cells #[.slice m.a m.ws.length m.c, .int .i64 m.ln, .int .i64 m.st, .int .i64 m.lt, .int .i64 m.sq] 43)
          have HG8 := Lib.hid (h7.gt.below b8)
          have HX8 := Lib.hid (HX7.out.bel b8)
          have HN8 := Lib.hid (HN7.out.bel b8)
          clear h7 b8 HX7 HN7 HO q0 n0 n1
          unfold MV.val
          go_upto_region 24 with fail
          generalize w7.alloc (.cells #[.slice m.a m.ws.length m.c, .int .i64 m.ln, .int .i64 m.st, .int .i64 m.lt, .int .i64 m.sq] 43) = W8 at *
          have n0 := HN8.out.cell
          go_wp2_with fail
          refine (CK.out _).mono ?_
          rintro e w9 ⟨rfl, hb9⟩
          have HG9 := Lib.hid (HG8.out.below hb9)
          have HX9 := Lib.hid (HX8.out.bel hb9)
          clear n0 hb9 HG8 HX8 HN8
          by_cases hk4 : kd > 4
          · have HTk := Lib.hid (A12.take_any HG9.out)
            unfold TbP MV.val at HTk
            go_wp2_with fail
            refine HTk.out.mono ?_
            rintro e w10 ⟨r10, rfl, h10⟩
            have HD : Hid (Dr w w10 g ks a y (i + 1)) := Dr.mk' h10.gt HQ7.out.1 HQ7.out.2 (h10.on.blk HX9.out (HG9.out.off2 HX9.out (by decide) (by decide) (by decide) (by decide)))
            clear h10
            go_wp2_with fail
            go_roundw
            case rel => exact ⟨rn, i + 1, rfl, by go_num, by omega, by omega, HD.out⟩
            case measure => simp [intOf] <;> omega
          · have HD : Hid (Dr w w9 g ks a y (i + 1)) := Dr.mk' HG9.out HQ7.out.1 HQ7.out.2 HX9.out
            go_wp2_with fail
            go_roundw
            case rel => exact ⟨rn, i + 1, rfl, by go_num, by omega, by omega, HD.out⟩
            case measure => simp [intOf] <;> omega
    · have HG := Lib.hid hg.bl
      clear hg hbx
      have hltz : ¬ (i : Int) < n := by omega
      go_wp2_with fail
      go_ret
      exact ⟨rfl, HG.out⟩
end Go.Proofs.Ytgmcjkiofcpjbaa.gateDoors
