/- WheelOnce: the walk, at most 30 times asked. -/
import Derived.Test.YtoomdjkojddpdaaLHOnceH
namespace Go.Proofs.Ytoomdjkojddpdaa.hOnce
open Go.RowKit Go.Proofs.Ytoomdjkojddpdaa.G Go.Proofs.Ytoomdjkojddpdaa.Sat Go.Proofs.Ytoomdjkojddpdaa.H14
set_option maxRecDepth 100000
set_option maxHeartbeats 16000000 in
theorem walk1 {A B : Option Addr} {c c2 m n : Nat} {us ns : List Int} (w : World) (hA : Row w A (iv us)) (hB : Row w B (iv ns)) (hn : min us.length 30 = n) (hm : ns.length = m) (hm3 : m ≤ 30) :
    Calls Try.prog 4 #[.slice A us.length c, .slice B ns.length c2] w fun e w' => e = .returned (.bool true) ∧ Below w.heap.size w w' := by
  have HA := Lib.hid hA
  have HB := Lib.hid hB
  have HN : Hid (n ≤ us.length ∧ n ≤ 30) := ⟨by omega, by omega⟩
  have HM : Hid (m ≤ ns.length ∧ m ≤ 30) := ⟨by omega, by omega⟩
  have hmin : min (us.length : Int) 30 = (n : Int) := by omega
  obtain ⟨U, hU⟩ : ∃ U : Nat → Int, ∀ j q, us[j]? = some q → U j = modU q 500 := ⟨fun j => modU (us.getD j 0) 500, fun j q h => by simp [List.getD, h]⟩
  have HU := Lib.hid hU
  have HUr : Hid (∀ j, j < n → 0 ≤ U j ∧ U j < 500) := fun j hj => by
    have hjl : j < us.length := by omega
    rw [hU j _ (List.getElem?_eq_getElem hjl)]
    exact modU_bd _ _ (by decide)
  have HE := Lib.hid hm
  clear hm hm3
  clear hA hB hn hU
  go_enter Try.func4, Try.ntmps4
  go_wp2_with fail
  refine (lives_any _).mono ?_
  rintro e w1 ⟨rfl, hb1⟩
  have HB1 := Lib.hid hb1
  clear hb1
  go_wp2_with fail
  refine (new_m _).mono ?_
  rintro e w2 ⟨b, rfl, hM⟩
  have H1 : Hid (S1 w w2 b U 0) := ⟨[], hM.old HB1.out, rfl, fun e => by simp⟩
  clear hM HB1
  go_wp2_with fail
  clear hmin
  go_loopw [7] (fun i V => ∃ k : Nat, i = .int .i64 k ∧ k ≤ n ∧ S1 w V b U k) (fun i _ => n - (intOf i).toNat)
  case atStart => exact ⟨0, rfl, by omega, H1.out⟩
  case round =>
    obtain ⟨k, rfl, hk, h1⟩ := hrel
    have H2 := Lib.hid h1
    clear h1 H1
    by_cases hlt : k < n
    · have hkl : k < us.length := by have := HN.out.1; omega
      have hk30 : k < 100 := by have := HN.out.2; omega
      obtain ⟨q, hq⟩ : ∃ q, us[k]? = some q := ⟨_, List.getElem?_eq_getElem hkl⟩
      obtain ⟨g, o, rfl, hg, c0⟩ := ints_row (HA.out.below H2.out.bw) hq
      have hr := HUr.out k hlt
      have hUk := HU.out k q hq
      have hmod : (IntKind.u64.wrap q).tmod 500 = U k := by rw [hUk]; rfl
      have HS := Lib.hid (set_s1 H2.out rfl hr hk30)
      obtain ⟨r0, r1⟩ := hr
      clear hq hUk
      generalize U k = u at *
      go_wp2_with fail
      refine HS.out.mono ?_
      rintro e w3 ⟨⟨y3, rfl⟩, h3⟩
      have H3 := Lib.hid h3
      clear h3
      go_wp2_with fail
      go_roundw
      case rel => exact ⟨k + 1, by go_num, by omega, H3.out⟩
      case measure => simp [intOf]; omega
    · obtain rfl : k = n := by omega
      have hmk := fun W => makeB k (by have := HN.out.2; omega) W
      have hk0 : (0 : Int) ≤ (k : Int) := by omega
      clear hlt
      go_upto_region 10 with fail
      obtain ⟨l0, h3, h4⟩ := H2.out.out (sn_new wr k) H2.out.bw.size (fun _ => rfl) (b01 _ _)
      have HS : Hid (Lo w (wr.alloc (.cells (madeCells #[Value.bool false] k) 4)) b wr.heap.size k U m 0 0 0) := ⟨l0, _, h3, by rw [h4]; simp, by omega, fun h => absurd h (by omega), by omega, fun _ => by omega, fun h => absurd h (by omega)⟩
      clear h3 h4
      go_upto_region 11 with fail
      clear hmk
      generalize wr.alloc (.cells (madeCells #[Value.bool false] k) 4) = W4 at *
      generalize wr.heap.size = S at *
      clear H2 hk
      have hk9 : k ≤ 30 := HN.out.2
      have hm9 : m ≤ 30 := HM.out.2
      have f0 : (0 : Int) ≤ 0 := by omega
      go_wp2_with fail
      go_loopw [8, 9, 11] (fun now told i V => ∃ (i0 : Nat) (nw td : Int), i = .int .i64 i0 ∧ now = .int .i64 nw ∧ told = .int .i64 td ∧ i0 ≤ m + 1 ∧ Lo w V b S k U m i0 nw td) (fun _ _ i _ => m + 1 - (intOf i).toNat)
      case atStart => exact ⟨0, 0, 0, rfl, rfl, rfl, by omega, HS.out⟩
      case round =>
        obtain ⟨i0, nw, td, rfl, rfl, rfl, hi, h1⟩ := hrel
        have H5 := Lib.hid h1
        clear h1 HS
        by_cases hle : i0 ≤ m
        · obtain ⟨l, sn, h5, htd, hln, hpos, hn0, hn499, _⟩ := H5.out
          have HO := Lib.hid h5
          obtain ⟨s0, hs0⟩ := h5.mw
          have HOK := Lib.hid hs0.ok
          have HT : Hid (td = ((k - l.length : Nat) : Int)) := htd
          have HP := Lib.hid hpos
          have HLN := Lib.hid hln
          have hnw : nw ≤ 499 := hn499 hle
          have td0 : 0 ≤ td := by omega
          have td1 : td ≤ 30 := by omega
          have hi30 : i0 ≤ 30 := by omega
          have a1 : i0 ≤ ns.length := by have := HM.out.1; omega
          have a2 : (i0 : Int) ≤ 30 := by omega
          clear h5 hs0 hn499 hpos htd hln H5
          go_upto_region 16 with fail
          go_cut [58] (fun v V => v = .bool (decide (i0 < m)) ∧ wr = V)
          case first =>
            by_cases hlt : i0 < m
            · have b1 : i0 < ns.length := by have := HM.out.1; omega
              have b2 : (i0 : Int) < 30 := by omega
              go_wp2_with fail
              go_meet
              exact ⟨by rw [decide_eq_true hlt], rfl⟩
            · have b1 : ¬ i0 < ns.length := by have := HE.out; omega
              go_wp2_with fail
              go_meet
              exact ⟨by rw [decide_eq_false hlt], rfl⟩
          case rest =>
            obtain ⟨rfl, rfl⟩ := hcut
            go_upto_if 58 with fail
            go_cut [8] (fun v V => ∃ x : Int, v = .int .i64 x ∧ nw ≤ x ∧ x ≤ 500 ∧ (i0 < m → x ≤ 499) ∧ (¬ i0 < m → x = 500) ∧ wr = V)
            case first =>
              by_cases hlt : i0 < m
              · have b1 : i0 < ns.length := by have := HM.out.1; omega
                obtain ⟨q, hq⟩ : ∃ q, ns[i0]? = some q := ⟨_, List.getElem?_eq_getElem b1⟩
                obtain ⟨g, o, rfl, hg, c0⟩ := ints_row (HB.out.below HO.out.bw) hq
                obtain ⟨r, hr, r0, r1⟩ : ∃ r, (IntKind.u64.wrap q).tmod 60 = r ∧ 0 ≤ r ∧ r < 60 := ⟨_, rfl, (modU_bd q 60 (by decide)).1, (modU_bd q 60 (by decide)).2⟩
                obtain ⟨x, hx, x0, x1⟩ : ∃ x, min (nw + r) 499 = x ∧ nw ≤ x ∧ x ≤ 499 := ⟨_, rfl, by omega, by omega⟩
                have hd : decide (i0 < m) = true := decide_eq_true hlt
                clear hq
                go_wp2_with fail
                go_meet
                exact ⟨x, rfl, x0, by omega, fun _ => x1, fun h => absurd hlt h, rfl⟩
              · have hd : decide (i0 < m) = false := decide_eq_false hlt
                go_wp2_with fail
                go_meet
                exact ⟨500, rfl, by omega, by omega, fun h => absurd h hlt, fun _ => rfl, rfl⟩
            case rest =>
              obtain ⟨x, rfl, x0, x1, x2, x3, rfl⟩ := hcut
              have HX := Lib.hid x2
              have HX3 := Lib.hid x3
              clear x2 x3
              have HD := Lib.hid (due_o HO.out (by have := HLN.out; omega) (now := x) ⟨by omega, x1⟩)
              have HLD := Lib.hid (len_due HOK.out x)
              have HDF := Lib.hid (fun (kk : Nat) (e : En) (h : (H14.due l x)[kk]? = some e) => due_fact HOK.out HO.out.sub HO.out.eq h)
              have HDP := Lib.hid (fun (kk jj ii : Nat) (h1 : (H14.due l x)[kk + 1]? = some (en U jj)) (h2 : (H14.due l x)[kk]? = some (en U ii)) => due_prev HOK.out h1 h2)
              have HNX := Lib.hid (fun (V : World) (D : Option Addr) (h : Is w V b S k D (H14.due l x) (left l x) (snk sn (H14.due l x) (H14.due l x).length)) => os_next HO.out.sub HO.out.eq HOK.out h)
              have hdl : (H14.due l x).length ≤ 30 := by have := HLD.out; have := HLN.out; omega
              have HNE : Hid (∀ e ∈ left l x, x < e.u) := fun e he => by simpa using (List.mem_filter.1 he).2
              have HNS : Hid (∀ e ∈ left l x, ∃ j : Nat, j < k ∧ e = en U j) := fun e he => HO.out.sub e (List.mem_filter.1 he).1
              generalize H14.due l x = d at *
              generalize left l x = lf at *
              go_wp2_with fail
              refine HD.out.mono ?_
              rintro e w6 ⟨D, cd, rfl, h6⟩
              have H6 : Hid (Is w w6 b S k D d lf (snk sn d 0)) := by rw [snk_zero]; exact h6
              clear h6 HD
              generalize hdd : d.length = dn at *
              go_wp2_with fail
              go_loopw [9, 14, 15] (fun told last i V => ∃ (j : Nat) (lt : Int), i = .int .i64 j ∧ told = .int .i64 (td + j) ∧ last = .int .i64 lt ∧ j ≤ dn ∧ Is w V b S k D d lf (snk sn d j) ∧ ((j = 0 ∧ lt = -1) ∨ ∃ j1 i1 : Nat, j = j1 + 1 ∧ d[j1]? = some (en U i1) ∧ lt = U i1)) (fun _ _ i _ => dn - (intOf i).toNat)
              case atStart => exact ⟨0, -1, rfl, by simp, rfl, by omega, H6.out, .inl ⟨rfl, rfl⟩⟩
              case round =>
                obtain ⟨j, lt, rfl, rfl, rfl, hj, h7, hlast⟩ := hrel
                have H7 := Lib.hid h7
                have HLA := Lib.hid hlast
                clear h7 hlast H6
                by_cases hjl : j < dn
                · obtain ⟨e0, he0⟩ : ∃ e0, d[j]? = some e0 := ⟨_, List.getElem?_eq_getElem (by omega)⟩
                  obtain ⟨jj, j1, rfl, j2, j3, j4⟩ := HDF.out j e0 he0
                  have HE0 := Lib.hid he0
                  obtain ⟨g, o, rfl, c0⟩ := H7.out.at he0
                  have hju : jj < us.length := by have := HN.out.1; omega
                  obtain ⟨q, hq⟩ : ∃ q, us[jj]? = some q := ⟨_, List.getElem?_eq_getElem hju⟩
                  obtain ⟨g2, o2, rfl, hg2, c1⟩ := ints_row (HA.out.below H7.out.bw) hq
                  have hmod : (IntKind.u64.wrap q).tmod 500 = U jj := by rw [HU.out jj q hq]; rfl
                  have c2 := H7.out.seen.at j1 j4
                  have fz := H7.out.seen.frozen
                  obtain ⟨u0, u1⟩ := HUr.out jj j1
                  have HST := Lib.hid (fun (nq : Nat) => (H7.out.drewN nq).step he0 j1)
                  have tj : ¬ (jj : Int) < 0 := by omega
                  have HNW : Hid (0 < i0 → nw < U jj) := fun h => HP.out h _ j3
                  have HPV : Hid (∀ jp ip : Nat, j = jp + 1 → d[jp]? = some (en U ip) → U ip ≤ U jj ∧ (U jj = U ip → (ip : Int) ≤ jj)) := fun jp ip e h => HDP.out jp jj ip (by rw [← e]; exact HE0.out) h
                  clear he0 hq j4 j3
                  generalize hu9 : U jj = u9 at *
                  have HU9 := Lib.hid hu9
                  clear hu9
                  go_upto_region 26 with fail
                  go_cut [143] (fun v V => v = .bool false ∧ ∃ nq, V = wr.drewN nq)
                  case first =>
                    clear c1 hmod fz HST HB HA HU HUr HM HN HDP HNX HNE HNS HLD HX HX3 HLN HO HOK HT HP HE HDF HE0
                    have hlast : (j = 0 ∧ lt = -1) ∨ ∃ j1 i1 : Nat, j = j1 + 1 ∧ d[j1]? = some (en U i1) ∧ lt = U i1 := HLA.out
                    clear HLA
                    have d0 : ¬ x < u9 := by omega
                    rcases hlast with ⟨hj9, rfl⟩ | ⟨jp, ip, hje, hp, rfl⟩
                    · clear hj9 HPV H7
                      have d1 : ¬ u9 < -1 := by omega
                      have d2 : (u9 == -1) = false := by rw [beq_eq_false_iff_ne]; omega
                      by_cases hi0 : i0 = 0
                      · have hi9 : ¬ 0 < i0 := by omega
                        clear HNW hi0
                        go_quiet (fail)
                        go_wp2_with fail
                        go_meet
                        exact ⟨rfl, nq, rfl⟩
                      · have hi1 : 0 < i0 := by omega
                        have hnw2 := HNW.out hi1
                        have hnw3 : ¬ u9 ≤ nw := by omega
                        clear HNW hi0
                        go_quiet (fail)
                        go_wp2_with fail
                        go_meet
                        exact ⟨rfl, nq, rfl⟩
                    · obtain ⟨p1, p2⟩ := HPV.out jp ip hje hp
                      obtain ⟨g3, o3, e3, c3⟩ := H7.out.at hp
                      injection e3 with e3
                      injection e3 with e3 e4 _
                      subst e3 e4
                      have d1 : ¬ u9 < U ip := by omega
                      have hjm : (j : Int) - 1 = (jp : Int) := by omega
                      have hjp : jp < dn := by omega
                      have hjw : IntKind.i64.wrap ((j : Int) - 1) = (jp : Int) := by rw [hjm, IntKind.wrap_i64]; omega
                      clear hp HPV H7 hje
                      generalize U ip = u8 at *
                      by_cases heq : u9 = u8
                      · subst heq
                        have p3 := p2 rfl
                        have d3 : ¬ (jj : Int) < (ip : Int) := by omega
                        have d4 : ¬ jj < ip := by omega
                        have d2 : (u9 == u9) = true := by simp
                        clear p2 p3
                        by_cases hi0 : i0 = 0
                        · have hi9 : ¬ 0 < i0 := by omega
                          clear HNW hi0
                          go_quiet (fail)
                          go_wp2_with fail
                          go_meet
                          exact ⟨rfl, nq, rfl⟩
                        · have hi1 : 0 < i0 := by omega
                          have hnw2 := HNW.out hi1
                          have hnw3 : ¬ u9 ≤ nw := by omega
                          clear HNW hi0
                          go_quiet (fail)
                          go_wp2_with fail
                          go_meet
                          exact ⟨rfl, nq, rfl⟩
                      · have d2 : (u9 == u8) = false := by rw [beq_eq_false_iff_ne]; exact heq
                        clear heq p2
                        by_cases hi0 : i0 = 0
                        · have hi9 : ¬ 0 < i0 := by omega
                          clear HNW hi0
                          go_quiet (fail)
                          go_wp2_with fail
                          go_meet
                          exact ⟨rfl, nq, rfl⟩
                        · have hi1 : 0 < i0 := by omega
                          have hnw2 := HNW.out hi1
                          have hnw3 : ¬ u9 ≤ nw := by omega
                          clear HNW hi0
                          go_quiet (fail)
                          go_wp2_with fail
                          go_meet
                          exact ⟨rfl, nq, rfl⟩
                  case rest =>
                    obtain ⟨rfl, nq, rfl⟩ := hcut
                    clear HLA HNW HPV c1 hmod
                    go_wp2_with fail
                    go_roundw
                    case rel => exact ⟨j + 1, u9, by go_num, by go_num, rfl, by omega, HST.out nq, .inr ⟨j, jj, rfl, HE0.out, HU9.out.symm⟩⟩
                    case measure => simp [intOf]; omega
                · obtain rfl : j = dn := by omega
                  have H8 : Hid (Os w wr b S k U lf (snk sn d j)) := HNX.out wr D H7.out
                  clear hjl H7 HLA
                  go_wp2_with fail
                  go_roundw
                  case rel =>
                    refine ⟨i0 + 1, x, td + j, by go_num, rfl, rfl, by omega, lf, _, H8.out, ?_, ?_, fun _ => HNE.out, by omega, fun h => HX.out (by omega), fun h => ?_⟩
                    · have := HLD.out; have := HT.out; have := HLN.out; omega
                    · have := HLD.out; have := HLN.out; omega
                    · have hx := HX3.out (by omega)
                      cases hlf : lf with
                      | nil => rfl
                      | cons y r =>
                        have hy := HNE.out y (by rw [hlf]; simp)
                        obtain ⟨yj, hyj, rfl⟩ := HNS.out y (by rw [hlf]; simp)
                        have := (HUr.out yj hyj).2
                        have hy2 : x < U yj := hy
                        omega
                  case measure => simp [intOf]; omega
        · obtain rfl : i0 = m + 1 := by omega
          obtain ⟨l, sn, h5, h6, h7, h8, h9, h10, h11⟩ := H5.out
          obtain rfl := h11 (by omega)
          obtain ⟨s, h12⟩ := h5.mw
          have H12 := Lib.hid h12
          have hb12 := h5.bw
          have HB12 := Lib.hid hb12
          obtain rfl : td = (k : Int) := by rw [h6]; simp
          clear h5 h6 h7 h8 h9 h10 h11 h12 hb12 H5 hle
          have e1 : ¬ m + 1 ≤ ns.length := by have := HE.out; omega
          have e2 : ¬ ((m + 1 : Nat) : Int) ≤ (ns.length : Int) := by omega
          have tk : ((k : Int) == (k : Int)) = true := by simp
          go_wp2_with fail
          refine (len_m H12.out).mono ?_
          rintro e w12 ⟨rfl, rfl⟩
          go_wp2_with fail
          go_ret
          exact ⟨rfl, HB12.out⟩
end Go.Proofs.Ytoomdjkojddpdaa.hOnce
