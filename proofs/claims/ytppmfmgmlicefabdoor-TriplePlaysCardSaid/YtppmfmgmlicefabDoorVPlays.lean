/- The walk of TriplePlays. -/
import Derived.Test.YtppmfmgmlicefabDoorVArm0
import Derived.Test.YtppmfmgmlicefabDoorVArm1
import Derived.Test.YtppmfmgmlicefabDoorVArmw
import Derived.Test.YtppmfmgmlicefabDoorVArmr
import Derived.Test.YtppmfmgmlicefabDoorVArm7
namespace Go.Proofs.YtppmfmgmlicefabDoor.triplePlays
open Go.RowKit Go.Proofs.YtppmfmgmlicefabDoor.G Go.Proofs.YtppmfmgmlicefabDoor.Cell Go.Proofs.YtppmfmgmlicefabDoor.T3
attribute [local go_sem ↓] Go.wp_at_zero Go.wp_at_succ
set_option maxRecDepth 100000
set_option maxHeartbeats 40000000 in
theorem walk {w : World} {n0 : Int} {A : Option Addr} {l : List Sp} {cp : Nat} (hg : Et w) (hn0 : n0 ≤ 9223372036854775807) (hr : Row w A (l.flatMap pcell)) (hs : ∀ (k : Nat) (y : Sp), l[k]? = some y → SpOk w y) (hl : l.length ≤ cp) (hc : cp ≤ 9223372036854775807) :
    Calls Tryd.prog 4 #[.int .i64 n0, .slice A l.length cp] w fun e w' => e = .returned (.bool true) ∧ Below w.heap.size w w' := by
  have HG := Lib.hid hg
  have HR := Lib.hid hr
  have HS := Lib.hid hs
  clear hg hr hs
  go_enter Tryd.func4, Tryd.ntmps4
  go_wp2_with fail
  refine (lives_any HG.out).mono ?_
  rintro e w1 ⟨rfl, hb1⟩
  go_wp2_with fail
  refine (rnew_any n0 hn0).mono ?_
  rintro e w2 ⟨br, rfl, hr2, hb2⟩
  have HR2 := Lib.hid hr2
  clear hr2
  unfold P
  go_wp2_with fail
  refine (xnew n0 w2).mono ?_
  rintro e w3 ⟨p, rfl, hv3, hb3⟩
  go_wp2_with fail
  refine (early7_any l.length cp hl hc (w3.alloc (.cells (p.arr (s0 (fW n0))) 61))).mono ?_
  rintro e w4 ⟨⟨c', rfl⟩, rfl⟩
  have z1 := hb1.size
  have z2 := hb2.size
  have z3 := hb3.size
  have HI : Hid (Two w (w3.alloc (.cells (p.arr (s0 (fW n0))) 61)) w3.heap.size br (s0 (fW n0)) (s0 (fW n0)) 0 (fun b => w1.heap.size ≤ b ∧ b < w2.heap.size) p) := by
    refine ⟨(HR2.out.tight.below hb3).below (b01 _ _), Blk.new _ _ _, (hv3.mono (fun g hg hn => ⟨fun hf => by omega, by omega⟩)).bel (b01 _ _), fun hf => by omega, fun b hf => ?_, fun b hf => by omega, by omega, ba1 (bt (bt hb1 hb2) hb3) _⟩
    rw [World.size_alloc]; omega
  have HI' : Hid (∃ F, Two w (w3.alloc (.cells (p.arr (s0 (fW n0))) 61)) w3.heap.size br (s0 (fW n0)) (s0 (fW n0)) 0 F p) := ⟨_, HI.out⟩
  have HM : Hid (min l.length 150 ≤ l.length ∧ min l.length 150 ≤ 150) := ⟨by omega, by omega⟩
  clear HI
  go_wp2_with fail
  generalize w3.alloc (.cells (p.arr (s0 (fW n0))) 61) = V0 at *
  clear HR2 hb2 hv3 hb3 hb1 z1 z2 z3 hl hc
  generalize w3.heap.size = q at *
  generalize s0 (fW n0) = s1 at *
  generalize min l.length 150 = m at *
  go_loopw [7] (fun i V => InvP w q br m i V) (fun i _ => m - (intOf i).toNat)
  case atStart => exact ⟨0, s1, 0, HI'.out.choose, p, rfl, by omega, HI'.out.choose_spec, by omega⟩
  case round =>
    obtain ⟨k, s, c, F, p, rfl, hk, hT, hck⟩ := hrel
    have HT := Lib.hid hT
    clear HI' hT
    by_cases hlt : k < m
    · have hkl : k < l.length := by have := HM.out.1; omega
      obtain ⟨u, hu⟩ : ∃ u, l[k]? = some u := ⟨_, List.getElem?_eq_getElem hkl⟩
      obtain ⟨b', o, rfl, hbs, hc1, hc2, hc3⟩ := sps_at (HR.out.below HT.out.bel) hu
      obtain ⟨⟨hu1, hu2⟩, hu3, hu4, hu5⟩ := HS.out k u hu
      have HU := Lib.hid hu5
      clear hu hu5
      obtain ⟨kd, un, uA, ul, uc⟩ := u
      simp only at hc1 hc2 hc3 hu1 hu2 hu3 hu4 HU
      have hc9 : c ≤ 1099511627776 := by have := HM.out.2; omega
      have Z0 := Blk.new wr 64 #[.int .i64 kd, .int .i64 un, .slice uA ul.length uc]
      have HT4 := Lib.hid (HT.out.below (b01 wr (.cells #[.int .i64 kd, .int .i64 un, .slice uA ul.length uc] 64)))
      go_upto_block 2 with (go_at_call 30; refine (kind7_any kd un uA ul.length uc _).mono ?_; rintro e w5 ⟨rfl, hb5⟩)
      have hkd : modU kd 8 = 0 ∨ modU kd 8 = 1 ∨ (2 ≤ modU kd 8 ∧ modU kd 8 < 5) ∨ (5 ≤ modU kd 8 ∧ modU kd 8 < 7) ∨ modU kd 8 = 7 := by have := modU_bd kd 8 (by decide); omega
      have HKD := Lib.hid hkd
      clear hkd hc1 hc2 hc3
      have HT5 := Lib.hid (HT4.out.below hb5)
      have Z5 := Z0.bel hb5
      clear HT4 Z0 hb5
      generalize wr.heap.size = pb at *
      have p0 := HT5.out.box.cell
      have p1 := Z5.cell
      go_cut [9, 42] (fun sm _ V => sm = .bool true ∧ CutP w q br k V)
      case first =>
        rcases HKD.out with hkd | hkd | hkd | hkd | hkd
        · refine arm_0 HT5 Z5 hu1 hu2 hu3 hu4 HU hc9 hck hkd (fun y10 y11 y12 y13 y14 y15 y16 y17 y18 y19 y20 y21 y22 y31 y32 y33 y34 y35 y36 y37 y38 y39 y40 y41 y42 y43 y44 y45 y46 y47 y48 y49 y50 y51 y52 y53 y54 y55 y56 y57 y58 y59 y60 y61 y62 y63 y64 y65 y66 y67 y68 y69 y70 y71 y72 y73 y74 y75 y76 y77 y78 y79 y80 y81 y82 y83 y84 y85 y86 y87 y88 y89 y90 y91 y92 y93 y94 y95 y96 y97 y98 y99 y100 y101 y102 y103 y104 y105 y106 y107 y108 y109 y110 y111 y112 y113 y114 y115 y116 y117 y118 y119 y120 y121 y122 y123 y124 y125 y126 y127 y128 y129 y130 y131 y132 y133 y134 y135 y136 y137 y138 y139 y140 y141 y142 y143 y144 y145 y146 y147 y148 y149 y150 y151 y152 y153 y154 y155 y156 y157 y158 y159 y160 y161 y162 y163 y164 y165 y166 y167 V hV => ?_)
          go_wp2_with fail
          go_meet
          exact ⟨rfl, hV⟩
        · refine arm_1 HT5 Z5 hu1 hu2 hu3 hu4 HU hc9 hck hkd (fun y10 y11 y12 y13 y14 y15 y16 y17 y18 y19 y20 y21 y22 y31 y32 y33 y34 y35 y36 y37 y38 y39 y40 y41 y42 y43 y44 y45 y46 y47 y48 y49 y50 y51 y52 y53 y54 y55 y56 y57 y58 y59 y60 y61 y62 y63 y64 y65 y66 y67 y68 y69 y70 y71 y72 y73 y74 y75 y76 y77 y78 y79 y80 y81 y82 y83 y84 y85 y86 y87 y88 y89 y90 y91 y92 y93 y94 y95 y96 y97 y98 y99 y100 y101 y102 y103 y104 y105 y106 y107 y108 y109 y110 y111 y112 y113 y114 y115 y116 y117 y118 y119 y120 y121 y122 y123 y124 y125 y126 y127 y128 y129 y130 y131 y132 y133 y134 y135 y136 y137 y138 y139 y140 y141 y142 y143 y144 y145 y146 y147 y148 y149 y150 y151 y152 y153 y154 y155 y156 y157 y158 y159 y160 y161 y162 y163 y164 y165 y166 y167 V hV => ?_)
          go_wp2_with fail
          go_meet
          exact ⟨rfl, hV⟩
        · refine arm_w HT5 Z5 hu1 hu2 hu3 hu4 HU hc9 hck hkd (fun y10 y11 y12 y13 y14 y15 y16 y17 y18 y19 y20 y21 y22 y31 y32 y33 y34 y35 y36 y37 y38 y39 y40 y41 y42 y43 y44 y45 y46 y47 y48 y49 y50 y51 y52 y53 y54 y55 y56 y57 y58 y59 y60 y61 y62 y63 y64 y65 y66 y67 y68 y69 y70 y71 y72 y73 y74 y75 y76 y77 y78 y79 y80 y81 y82 y83 y84 y85 y86 y87 y88 y89 y90 y91 y92 y93 y94 y95 y96 y97 y98 y99 y100 y101 y102 y103 y104 y105 y106 y107 y108 y109 y110 y111 y112 y113 y114 y115 y116 y117 y118 y119 y120 y121 y122 y123 y124 y125 y126 y127 y128 y129 y130 y131 y132 y133 y134 y135 y136 y137 y138 y139 y140 y141 y142 y143 y144 y145 y146 y147 y148 y149 y150 y151 y152 y153 y154 y155 y156 y157 y158 y159 y160 y161 y162 y163 y164 y165 y166 y167 V hV => ?_)
          go_wp2_with fail
          go_meet
          exact ⟨rfl, hV⟩
        · refine arm_r HT5 Z5 hu1 hu2 hu3 hu4 HU hc9 hck hkd (fun y10 y11 y12 y13 y14 y15 y16 y17 y18 y19 y20 y21 y22 y31 y32 y33 y34 y35 y36 y37 y38 y39 y40 y41 y42 y43 y44 y45 y46 y47 y48 y49 y50 y51 y52 y53 y54 y55 y56 y57 y58 y59 y60 y61 y62 y63 y64 y65 y66 y67 y68 y69 y70 y71 y72 y73 y74 y75 y76 y77 y78 y79 y80 y81 y82 y83 y84 y85 y86 y87 y88 y89 y90 y91 y92 y93 y94 y95 y96 y97 y98 y99 y100 y101 y102 y103 y104 y105 y106 y107 y108 y109 y110 y111 y112 y113 y114 y115 y116 y117 y118 y119 y120 y121 y122 y123 y124 y125 y126 y127 y128 y129 y130 y131 y132 y133 y134 y135 y136 y137 y138 y139 y140 y141 y142 y143 y144 y145 y146 y147 y148 y149 y150 y151 y152 y153 y154 y155 y156 y157 y158 y159 y160 y161 y162 y163 y164 y165 y166 y167 V hV => ?_)
          go_wp2_with fail
          go_meet
          exact ⟨rfl, hV⟩
        · refine arm_7 HT5 Z5 hu1 hu2 hu3 hu4 HU hc9 hck hkd (fun y10 y11 y12 y13 y14 y15 y16 y17 y18 y19 y20 y21 y22 y31 y32 y33 y34 y35 y36 y37 y38 y39 y40 y41 y42 y43 y44 y45 y46 y47 y48 y49 y50 y51 y52 y53 y54 y55 y56 y57 y58 y59 y60 y61 y62 y63 y64 y65 y66 y67 y68 y69 y70 y71 y72 y73 y74 y75 y76 y77 y78 y79 y80 y81 y82 y83 y84 y85 y86 y87 y88 y89 y90 y91 y92 y93 y94 y95 y96 y97 y98 y99 y100 y101 y102 y103 y104 y105 y106 y107 y108 y109 y110 y111 y112 y113 y114 y115 y116 y117 y118 y119 y120 y121 y122 y123 y124 y125 y126 y127 y128 y129 y130 y131 y132 y133 y134 y135 y136 y137 y138 y139 y140 y141 y142 y143 y144 y145 y146 y147 y148 y149 y150 y151 y152 y153 y154 y155 y156 y157 y158 y159 y160 y161 y162 y163 y164 y165 y166 y167 V hV => ?_)
          go_wp2_with fail
          go_meet
          exact ⟨rfl, hV⟩
      case rest =>
          obtain ⟨rfl, s2, c2, F2, p2, hT9, hc2⟩ := hcut
          have HT9 := Lib.hid hT9
          have S0 : Below wc.heap.size wc wc.drew := (Below.refl _ _).drew
          have HK0 : Hid (∀ V, Below wc.heap.size wc V → (Below wc.heap.size wc V ∧ (∀ i, V.cell? ⟨q, i, none⟩ = (p2.arr s2)[i]?))) := fun V h => ⟨h, (hT9.box.bel h).cell⟩
          have HB1 : Hid (∀ V, Below wc.heap.size wc V → Calls Tryd.prog 40 #[.pointer (some ⟨br, 0, none⟩), .bool true] V (BoolPost s2.wr.isSome V)) := fun V h => wbusy_any (hT9.reg.below h)
          have HB2 : Hid (∀ V, Below wc.heap.size wc V → Calls Tryd.prog 40 #[.pointer (some ⟨br, 0, none⟩), .bool false] V (BoolPost s2.rd.isSome V)) := fun V h => rbusy_any (hT9.reg.below h)
          have HO1 : Hid (∀ V, Below wc.heap.size wc V → Calls Tryd.prog 41 #[.pointer (some ⟨br, 0, none⟩), .bool true] V (IntPost s2.b V)) := fun V h => wown_any (hT9.reg.below h)
          have HO2 : Hid (∀ V, Below wc.heap.size wc V → Calls Tryd.prog 41 #[.pointer (some ⟨br, 0, none⟩), .bool false] V (IntPost s2.f V)) := fun V h => rown_any (hT9.reg.below h)
          have HC1 : Hid (∀ V, Below wc.heap.size wc V → Calls Tryd.prog 42 #[.pointer (some ⟨br, 0, none⟩)] V (AllPost V s2.m)) := fun V h => rcells_any (hT9.reg.below h)
          have HC2 : Hid (∀ V, Below wc.heap.size wc V → Calls Tryd.prog 43 #[.agg (p2.arr s2)] V (XC V s2.m)) := fun V h => xcells (hT9.rv.bel h) hT9.reg.ok
          have hm9 : s2.m.length ≤ 9223372036854775807 := by have h1 := hT9.reg.ok.len; have h2 := hT9.reg.ok.w6; omega
          clear p0 p1 HKD HT5 Z5 HT hT9
          go_upto_region 32 with fail
          go_region_held3 (fun V => Below wc.heap.size wc V ∧ (∀ i, V.cell? ⟨q, i, none⟩ = (p2.arr s2)[i]?)) (first | (with_reducible exact HK0.out _ S0) | fail)
            (first
              | (go_at_call 40; first | ((with_reducible refine (HB1.out _ S0).mono ?_); rintro e w10 ⟨rfl, rfl⟩) | ((with_reducible refine (HB2.out _ S0).mono ?_); rintro e w10 ⟨rfl, rfl⟩) | fail)
              | (go_at_call 41; first | ((with_reducible refine (HO1.out _ S0).mono ?_); rintro e w10 ⟨rfl, rfl⟩) | ((with_reducible refine (HO2.out _ S0).mono ?_); rintro e w10 ⟨rfl, rfl⟩) | fail)
              | (go_at_call 42; (with_reducible refine (HC1.out _ S0).mono ?_); rintro e w10 ⟨va, rfl, hva, hb10⟩; have S0 := bt S0 hb10; obtain ⟨A3, c3, rfl, hra⟩ := lst_row hva; have HRA := Lib.hid hra; clear hva hra)
              | (go_at_call 43; (with_reducible refine (HC2.out _ S0).mono ?_); rintro e w11 ⟨vb, rfl, hvb, hb11⟩; have S0 := bt S0 hb11; obtain ⟨A4, c4, rfl, hrb⟩ := lf_row hvb; have HRB := Lib.hid hrb; have HRA := Lib.hid (HRA.out.below hb11); clear hvb hrb)
              | (go_at_call 18; (with_reducible refine (C04.rsame1_any (l := s2.m) (r := s2.m) HRA.out HRB.out hm9 hm9).mono ?_); rintro e w12 ⟨rfl, m12, rfl⟩; rw [eqb_self]; have S0 := bn S0 m12)
              | fail)
          all_goals
            have hm15 : m ≤ 150 := HM.out.2
            go_wp2_with fail
            go_roundw
            case rel => exact ⟨k + 1, s2, c2, F2, p2, by go_num, by omega, HT9.out.below (by assumption), by omega⟩
            case measure => simp [intOf]; omega
    · have hkm : k = m := by omega
      have HKM := Lib.hid hkm
      clear hkm
      have S0 : Below wr.heap.size wr wr.drew := (Below.refl _ _).drew
      have HK0 : Hid (∀ V, Below wr.heap.size wr V → (Below wr.heap.size wr V ∧ (∀ i, V.cell? ⟨q, i, none⟩ = (p.arr s)[i]?))) := fun V h => ⟨h, (HT.out.box.bel h).cell⟩
      have HW : Hid (∀ V, Below wr.heap.size wr V → Calls Tryd.prog 44 #[.pointer (some ⟨br, 0, none⟩)] V (IntPost s.W V)) := fun V h => rwords_any (HT.out.reg.below h)
      go_upto_region 34 with fail
      go_region_held3 (fun V => Below wr.heap.size wr V ∧ (∀ i, V.cell? ⟨q, i, none⟩ = (p.arr s)[i]?)) (first | (with_reducible exact HK0.out _ S0) | fail)
        ((go_at_call 44; (with_reducible refine (HW.out _ S0).mono ?_); rintro e w10 ⟨rfl, rfl⟩))
      all_goals
        go_wp2_with fail
        go_ret
        exact ⟨rfl, (HT.out.below (by assumption)).bel⟩
end Go.Proofs.YtppmfmgmlicefabDoor.triplePlays
