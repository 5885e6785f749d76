/- GatePlays, walked. -/
import Derived.Test.YtmfkapbllmfegaaLAPa
import Derived.Deep.RegionHeld3
namespace Go.Proofs.Ytmfkapbllmfegaa.gatePlays
open Go.RowKit Go.Proofs.Ytmfkapbllmfegaa.G Go.Proofs.Ytmfkapbllmfegaa.L10 Go.Proofs.Ytmfkapbllmfegaa.C04 Go.Proofs.Ytmfkapbllmfegaa.A12 Go.Sort
set_option maxRecDepth 100000
set_option linter.unusedSimpArgs false
set_option linter.unusedVariables false
set_option maxHeartbeats 16000000 in
theorem walk (k : Chn) (raw : Bool) {w : World} {A : Option Addr} {l : List A12.Sp} {c : Nat} (hl : l.length ≤ c) (hc : c ≤ 9223372036854775807) (hr : Row w A (A12.sps l)) (ho : ∀ (k : Nat) (y : A12.Sp), l[k]? = some y → A12.SpOk w y) : Calls Try.prog 3 #[k.val, .bool raw, .slice A l.length c] w fun e w' => e = .returned (.bool true) ∧ Below w.heap.size w w' := by
  have HR := Lib.hid (And.intro hr ho)
  have C1 := Lib.hid (fun V => A12.early_any (A := A) l.length c hl hc V)
  obtain ⟨n, hn⟩ : ∃ n, min l.length 80 = n := ⟨_, rfl⟩
  have hnl : n ≤ l.length ∧ n ≤ 80 := by omega
  have HNL := Lib.hid hnl
  unfold A12.EaPost at C1
  simp only [hn] at C1
  clear hr hl hc ho hn
  have b0 := b01 w (.cells #[.int .i64 k.k, .int .i64 k.f, .int .i64 k.t, .int .i64 k.w, .int .i64 k.r, .int .i64 k.la, .int .i64 k.d, .int .i64 k.h, .int .i64 k.li, .int .i64 k.ra, .int .i64 k.c] 23)
  have HN := Lib.hid (Blk.new w 23 #[.int .i64 k.k, .int .i64 k.f, .int .i64 k.t, .int .i64 k.w, .int .i64 k.r, .int .i64 k.la, .int .i64 k.d, .int .i64 k.h, .int .i64 k.li, .int .i64 k.ra, .int .i64 k.c])
  have HB := Lib.hid b0
  have HGd := Lib.hid (fun V => good12_any k V)
  unfold Chn.val at *
  clear b0
  go_enter Try.func3, Try.ntmps3
  go_wp2_with fail
  refine (A12.lives_any _).mono ?_
  rintro e w1 ⟨rfl, hb1⟩
  have HN1 := Lib.hid (HN.out.bel hb1)
  have HB1 := Lib.hid (bt HB.out hb1)
  obtain ⟨ks, hks⟩ : ∃ ks, w.heap.size = ks := ⟨_, rfl⟩
  have HKS : Hid (w.heap.size ≤ ks) := Nat.le_of_eq hks
  rw [hks] at HN1
  rw [hks]
  clear hb1 HN HB hks
  have q0 := HN1.out.cell
  go_upto_if 27 with fail
  go_cut [] from 28 to 29 (fun V => ∃ y : Chn, Blk V ks 23 #[.int .i64 y.k, .int .i64 y.f, .int .i64 y.t, .int .i64 y.w, .int .i64 y.r, .int .i64 y.la, .int .i64 y.d, .int .i64 y.h, .int .i64 y.li, .int .i64 y.ra, .int .i64 y.c] ∧ Below w.heap.size w V)
  case first =>
    cases raw with
    | true =>
      go_wp2_with fail
      go_meet
      exact ⟨k, HN1.out, HB1.out⟩
    | false =>
      go_wp2_with fail
      refine (HGd.out _).mono ?_
      rintro e w2 ⟨y, rfl, hy, hb2⟩
      have HN2 := Lib.hid (HN1.out.bel hb2)
      have HB2 := Lib.hid (bt HB1.out hb2)
      clear q0 hy hb2 HN1 HB1 HGd
      unfold Chn.val
      have q0 := HN2.out.cell
      have f0 := HN2.out.frozen
      have l0 := HN2.out.lt
      go_wp2_with fail
      go_meet
      exact ⟨y, put11 HN2.out (.int .i64 y.k) (.int .i64 y.f) (.int .i64 y.t) (.int .i64 y.w) (.int .i64 y.r) (.int .i64 y.la) (.int .i64 y.d) (.int .i64 y.h) (.int .i64 y.li) (.int .i64 y.ra) (.int .i64 y.c), bel11 HB2.out HKS.out (.int .i64 y.k) (.int .i64 y.f) (.int .i64 y.t) (.int .i64 y.w) (.int .i64 y.r) (.int .i64 y.la) (.int .i64 y.d) (.int .i64 y.h) (.int .i64 y.li) (.int .i64 y.ra) (.int .i64 y.c)⟩
  case rest =>
    obtain ⟨y, hb, hB⟩ := hcut
    have HK := Lib.hid hb
    have HBw := Lib.hid hB
    clear hb hB HN1 HB1 q0 HGd
    obtain ⟨W5, hW5⟩ : ∃ W, wc = W := ⟨_, rfl⟩
    rw [hW5] at HK HBw
    rw [hW5]
    clear hW5
    go_upto_region 5 with fail
    have CN := Lib.hid (fun V => A12.new_any y V)
    have CR := Lib.hid (fun V => A12.rgnew_any y V)
    unfold Chn.val NwPost at CN
    unfold Chn.val RnPost at CR
    go_cut [7, 8] from 7 to 33 (fun v7 v8 V => ∃ g a kr x, v7 = .pointer (some ⟨g, 0, none⟩) ∧ v8 = .pointer (some ⟨kr, 0, none⟩) ∧ Bg w V g a (s0 a) kr x)
    case first =>
      have S1 : Below W5.heap.size W5 W5.drew := (Below.refl _ _).drew
      have hHeld := (HK.out.bel S1).cell
      refine wp_region_held_drew (S := fun V => ∀ i, V.cell? ⟨ks, i, none⟩ = (#[.int .i64 y.k, .int .i64 y.f, .int .i64 y.t, .int .i64 y.w, .int .i64 y.r, .int .i64 y.la, .int .i64 y.d, .int .i64 y.h, .int .i64 y.li, .int .i64 y.ra, .int .i64 y.c] : Array Value)[i]?) (by kernel_rfl) hHeld (fun _ => ?_)
      generalize hWd : W5.drew = Wd at *
      refine' wpAnyH_take (i := 0) (oi := _) (v := _) ?hi1 (by kernel_rfl) (by kernel_rfl) (by kernel_rfl) ?hQ1 (yieldsIf_load_mid ?hw1 _ _ ?ho1 ks 0 ?hx1 [.int .i64 y.k, .int .i64 y.f, .int .i64 y.t, .int .i64 y.w, .int .i64 y.r, .int .i64 y.la, .int .i64 y.d, .int .i64 y.h, .int .i64 y.li, .int .i64 y.ra, .int .i64 y.c] (.struct (Try.prog.fieldsOf 23)) ?hS1 (by kernel_rfl) rfl (by kernel_rfl)) ?hT1 ?hh1
      case hi1 => (simp only [List.getElem?_toArray, List.getElem?_cons_succ, List.getElem?_cons_zero]; rfl)
      case hQ1 => exact fun _ _ _ h => h
      case hw1 => rfl
      case ho1 => rfl
      case hx1 => rfl
      case hS1 => exact fun V hV j v hj => by rw [Nat.zero_add, hV j]; simpa using hj
      case hT1 => assumption
      case' hh1 => skip
      try simp only [Act.put, List.setIfInBounds_toArray, List.set_cons_zero, List.set_cons_succ]
      refine' wpAnyH_take (i := 2) (oi := _) (v := _) ?hi2 (by kernel_rfl) (by kernel_rfl) (by kernel_rfl) ?hQ2 (yieldsIf_load_mid ?hw2 _ _ ?ho2 ks 0 ?hx2 [.int .i64 y.k, .int .i64 y.f, .int .i64 y.t, .int .i64 y.w, .int .i64 y.r, .int .i64 y.la, .int .i64 y.d, .int .i64 y.h, .int .i64 y.li, .int .i64 y.ra, .int .i64 y.c] (.struct (Try.prog.fieldsOf 23)) ?hS2 (by kernel_rfl) rfl (by kernel_rfl)) ?hT2 ?hh2
      case hi2 => (simp only [List.getElem?_toArray, List.getElem?_cons_succ, List.getElem?_cons_zero]; rfl)
      case hQ2 => exact fun _ _ _ h => h
      case hw2 => rfl
      case ho2 => rfl
      case hx2 => rfl
      case hS2 => exact fun V hV j v hj => by rw [Nat.zero_add, hV j]; simpa using hj
      case hT2 => assumption
      case' hh2 => skip
      try simp only [Act.put, List.setIfInBounds_toArray, List.set_cons_zero, List.set_cons_succ]
      refine wpAnyH_ready (rs := [1, 4]) (by kernel_rfl) (by simp) ?_
      refine' AllReadyH.cons (o := _) ?ho3 (fun K hK => ?g3) ?s3
      case ho3 => (simp only [List.getElem?_toArray, List.getElem?_cons_succ, List.getElem?_cons_zero]; rfl)
      case g3 =>
        rw [if_pos (by rfl)]
        go_simp
        go_at_call 6
        with_reducible refine (CN.out _).mono ?_
        rintro e V1 ⟨g, a, rfl, hg, hf⟩
        have HG9 := hg.old (bt HBw.out S1)
        have hb1 := hg.bl
        have S1 := bt S1 hb1
        clear hg hb1
        refine hK.out _ _ (HK.out.bel S1).cell (fun hHeld => ?_)
        clear hK K
        try simp only [Act.put, List.setIfInBounds_toArray, List.set_cons_zero, List.set_cons_succ]
        refine wpAnyH_ready (rs := [3, 4]) (by kernel_rfl) (by simp) ?_
        refine' AllReadyH.cons (o := _) ?ho4 (fun K hK => ?g4) ?s4
        case ho4 => (simp only [List.getElem?_toArray, List.getElem?_cons_succ, List.getElem?_cons_zero]; rfl)
        case g4 =>
          rw [if_pos (by rfl)]
          go_simp
          go_at_call 7
          with_reducible refine (CR.out _).mono ?_
          rintro e V2 ⟨x, rfl, x1, x2, x3, x4, x5, x6, x7, x8, x9, x10, x11, hb1⟩
          have HXX := Lib.hid (And.intro x1 (And.intro x2 (And.intro x3 (And.intro x4 (And.intro x5 (And.intro x6 (And.intro x7 (And.intro x8 (And.intro x9 (And.intro x10 x11))))))))))
          clear x1 x2 x3 x4 x5 x6 x7 x8 x9 x10 x11
          have HG9 := HG9.below hb1
          have S1 := bt S1 hb1
          unfold rgv rgc
          refine hK.out _ _ (HK.out.bel S1).cell (fun hHeld => ?_)
          clear hK K
          try simp only [Act.put, List.setIfInBounds_toArray, List.set_cons_zero, List.set_cons_succ]
          refine wpAnyH_ready (rs := [4]) (by kernel_rfl) (by simp) ?_
          refine' AllReadyH.cons (o := _) ?ho5 (fun K hK => ?g5) ?s5
          case ho5 => (simp only [List.getElem?_toArray, List.getElem?_cons_succ, List.getElem?_cons_zero]; rfl)
          case g5 =>
            rw [if_pos (by rfl)]
            go_simp
            have NB := Blk.new V2 35 zG
            have KN := S1.size
            have HG9 := HG9.below (b01 V2 (.cells zG 35))
            have S1 := ba1 S1 (.cells zG 35)
            unfold zG at NB S1 HG9
            refine hK.out _ _ (HK.out.bel S1).cell (fun hHeld => ?_)
            clear hK K
            try simp only [Act.put, List.setIfInBounds_toArray, List.set_cons_zero, List.set_cons_succ]
            refine' wpAnyH_take (i := 5) (oi := _) (v := _) ?hi6 (by kernel_rfl) (by kernel_rfl) (by kernel_rfl) ?hQ6 (Or.inl ⟨?hw6, ?hy6⟩) ?hT6 ?hh6
            case hi6 => (simp only [List.getElem?_toArray, List.getElem?_cons_succ, List.getElem?_cons_zero]; rfl)
            case hQ6 => exact fun _ _ _ h => h
            case hw6 => rfl
            case hy6 => (intro V hSw; go_simp; (try with_reducible rfl))
            case hT6 => assumption
            case' hh6 => skip
            try simp only [Act.put, List.setIfInBounds_toArray, List.set_cons_zero, List.set_cons_succ]
            refine wpAnyH_ready (rs := [6]) (by kernel_rfl) (by simp) ?_
            refine' AllReadyH.cons (o := _) ?ho7 (fun K hK => ?g7) ?s7
            case ho7 => (simp only [List.getElem?_toArray, List.getElem?_cons_succ, List.getElem?_cons_zero]; rfl)
            case s7 => exact AllReadyH.nil
            case' g7 => skip
            rw [if_pos (by rfl)]
            refine wps_store _ _ _ rfl (cs' := #[.int .i64 x.k.k, .int .i64 x.k.f, .int .i64 x.k.t, .int .i64 x.k.w, .int .i64 x.k.r, .int .i64 x.k.la, .int .i64 x.k.d, .int .i64 x.k.h, .int .i64 x.k.li, .int .i64 x.k.ra, .int .i64 x.k.c, .int .i64 x.L, .int .i64 x.P, .slice x.A x.e.length x.c, .int .i64 x.R, .int .i64 x.C, .int .i64 x.T, .int .i64 x.N, .int .i64 x.q]) rfl rfl NB rfl (by kernel_rfl) (by simp [Value.oneCell']) fun W2 D O => ?_
            refine hK.out _ _ (O.blk (HK.out.bel S1) (fun e => (HK.out.bel S1).ne_ NB (by decide) e)).cell (fun hHeld => ?_)
            clear hK K hHeld
            try simp only [Act.put, List.setIfInBounds_toArray, List.set_cons_zero, List.set_cons_succ]
            refine wpAnyH_done (by kernel_rfl) ?_ _
            go_wp2_with fail
            go_meet
            obtain ⟨x1, x2, x3, x4, x5, x6, x7, x8, x9, x10, x11⟩ := HXX.out
            exact ⟨g, a, _, x, rfl, rfl, nw_fin HBw.out HG9 hf KN NB x1 x2 x3 x4 x5 x6 x7 x8 x9 x10 x11 D O⟩
          exact AllReadyH.nil
        refine' AllReadyH.cons (o := _) ?ho8 (fun K hK => ?g8) ?s8
        case ho8 => (simp only [List.getElem?_toArray, List.getElem?_cons_succ, List.getElem?_cons_zero]; rfl)
        case g8 =>
          rw [if_pos (by rfl)]
          go_simp
          have NB := Blk.new V1 35 zG
          have KN := S1.size
          have HG9 := HG9.below (b01 V1 (.cells zG 35))
          have S1 := ba1 S1 (.cells zG 35)
          unfold zG at NB S1 HG9
          refine hK.out _ _ (HK.out.bel S1).cell (fun hHeld => ?_)
          clear hK K
          try simp only [Act.put, List.setIfInBounds_toArray, List.set_cons_zero, List.set_cons_succ]
          refine wpAnyH_ready (rs := [3]) (by kernel_rfl) (by simp) ?_
          refine' AllReadyH.cons (o := _) ?ho9 (fun K hK => ?g9) ?s9
          case ho9 => (simp only [List.getElem?_toArray, List.getElem?_cons_succ, List.getElem?_cons_zero]; rfl)
          case g9 =>
            rw [if_pos (by rfl)]
            go_simp
            go_at_call 7
            with_reducible refine (CR.out _).mono ?_
            rintro e V2 ⟨x, rfl, x1, x2, x3, x4, x5, x6, x7, x8, x9, x10, x11, hb1⟩
            have HXX := Lib.hid (And.intro x1 (And.intro x2 (And.intro x3 (And.intro x4 (And.intro x5 (And.intro x6 (And.intro x7 (And.intro x8 (And.intro x9 (And.intro x10 x11))))))))))
            clear x1 x2 x3 x4 x5 x6 x7 x8 x9 x10 x11
            have HG9 := HG9.below hb1
            have S1 := bt S1 hb1
            have NB := NB.bel hb1
            unfold rgv rgc
            refine hK.out _ _ (HK.out.bel S1).cell (fun hHeld => ?_)
            clear hK K
            try simp only [Act.put, List.setIfInBounds_toArray, List.set_cons_zero, List.set_cons_succ]
            refine' wpAnyH_take (i := 5) (oi := _) (v := _) ?hi10 (by kernel_rfl) (by kernel_rfl) (by kernel_rfl) ?hQ10 (Or.inl ⟨?hw10, ?hy10⟩) ?hT10 ?hh10
            case hi10 => (simp only [List.getElem?_toArray, List.getElem?_cons_succ, List.getElem?_cons_zero]; rfl)
            case hQ10 => exact fun _ _ _ h => h
            case hw10 => rfl
            case hy10 => (intro V hSw; go_simp; (try with_reducible rfl))
            case hT10 => assumption
            case' hh10 => skip
            try simp only [Act.put, List.setIfInBounds_toArray, List.set_cons_zero, List.set_cons_succ]
            refine wpAnyH_ready (rs := [6]) (by kernel_rfl) (by simp) ?_
            refine' AllReadyH.cons (o := _) ?ho11 (fun K hK => ?g11) ?s11
            case ho11 => (simp only [List.getElem?_toArray, List.getElem?_cons_succ, List.getElem?_cons_zero]; rfl)
            case s11 => exact AllReadyH.nil
            case' g11 => skip
            rw [if_pos (by rfl)]
            refine wps_store _ _ _ rfl (cs' := #[.int .i64 x.k.k, .int .i64 x.k.f, .int .i64 x.k.t, .int .i64 x.k.w, .int .i64 x.k.r, .int .i64 x.k.la, .int .i64 x.k.d, .int .i64 x.k.h, .int .i64 x.k.li, .int .i64 x.k.ra, .int .i64 x.k.c, .int .i64 x.L, .int .i64 x.P, .slice x.A x.e.length x.c, .int .i64 x.R, .int .i64 x.C, .int .i64 x.T, .int .i64 x.N, .int .i64 x.q]) rfl rfl NB rfl (by kernel_rfl) (by simp [Value.oneCell']) fun W2 D O => ?_
            refine hK.out _ _ (O.blk (HK.out.bel S1) (fun e => (HK.out.bel S1).ne_ NB (by decide) e)).cell (fun hHeld => ?_)
            clear hK K hHeld
            try simp only [Act.put, List.setIfInBounds_toArray, List.set_cons_zero, List.set_cons_succ]
            refine wpAnyH_done (by kernel_rfl) ?_ _
            go_wp2_with fail
            go_meet
            obtain ⟨x1, x2, x3, x4, x5, x6, x7, x8, x9, x10, x11⟩ := HXX.out
            exact ⟨g, a, _, x, rfl, rfl, nw_fin HBw.out HG9 hf KN NB x1 x2 x3 x4 x5 x6 x7 x8 x9 x10 x11 D O⟩
          exact AllReadyH.nil
        exact AllReadyH.nil
      refine' AllReadyH.cons (o := _) ?ho12 (fun K hK => ?g12) ?s12
      case ho12 => (simp only [List.getElem?_toArray, List.getElem?_cons_succ, List.getElem?_cons_zero]; rfl)
      case g12 =>
        rw [if_pos (by rfl)]
        go_simp
        have NB := Blk.new Wd 35 zG
        have KN := S1.size
        have S1 := ba1 S1 (.cells zG 35)
        unfold zG at NB S1
        refine hK.out _ _ (HK.out.bel S1).cell (fun hHeld => ?_)
        clear hK K
        try simp only [Act.put, List.setIfInBounds_toArray, List.set_cons_zero, List.set_cons_succ]
        refine wpAnyH_ready (rs := [1]) (by kernel_rfl) (by simp) ?_
        refine' AllReadyH.cons (o := _) ?ho13 (fun K hK => ?g13) ?s13
        case ho13 => (simp only [List.getElem?_toArray, List.getElem?_cons_succ, List.getElem?_cons_zero]; rfl)
        case g13 =>
          rw [if_pos (by rfl)]
          go_simp
          go_at_call 6
          with_reducible refine (CN.out _).mono ?_
          rintro e V1 ⟨g, a, rfl, hg, hf⟩
          have HG9 := hg.old (bt HBw.out S1)
          have hb1 := hg.bl
          have S1 := bt S1 hb1
          have NB := NB.bel hb1
          clear hg hb1
          refine hK.out _ _ (HK.out.bel S1).cell (fun hHeld => ?_)
          clear hK K
          try simp only [Act.put, List.setIfInBounds_toArray, List.set_cons_zero, List.set_cons_succ]
          refine wpAnyH_ready (rs := [3]) (by kernel_rfl) (by simp) ?_
          refine' AllReadyH.cons (o := _) ?ho14 (fun K hK => ?g14) ?s14
          case ho14 => (simp only [List.getElem?_toArray, List.getElem?_cons_succ, List.getElem?_cons_zero]; rfl)
          case g14 =>
            rw [if_pos (by rfl)]
            go_simp
            go_at_call 7
            with_reducible refine (CR.out _).mono ?_
            rintro e V2 ⟨x, rfl, x1, x2, x3, x4, x5, x6, x7, x8, x9, x10, x11, hb1⟩
            have HXX := Lib.hid (And.intro x1 (And.intro x2 (And.intro x3 (And.intro x4 (And.intro x5 (And.intro x6 (And.intro x7 (And.intro x8 (And.intro x9 (And.intro x10 x11))))))))))
            clear x1 x2 x3 x4 x5 x6 x7 x8 x9 x10 x11
            have HG9 := HG9.below hb1
            have S1 := bt S1 hb1
            have NB := NB.bel hb1
            unfold rgv rgc
            refine hK.out _ _ (HK.out.bel S1).cell (fun hHeld => ?_)
            clear hK K
            try simp only [Act.put, List.setIfInBounds_toArray, List.set_cons_zero, List.set_cons_succ]
            refine' wpAnyH_take (i := 5) (oi := _) (v := _) ?hi15 (by kernel_rfl) (by kernel_rfl) (by kernel_rfl) ?hQ15 (Or.inl ⟨?hw15, ?hy15⟩) ?hT15 ?hh15
            case hi15 => (simp only [List.getElem?_toArray, List.getElem?_cons_succ, List.getElem?_cons_zero]; rfl)
            case hQ15 => exact fun _ _ _ h => h
            case hw15 => rfl
            case hy15 => (intro V hSw; go_simp; (try with_reducible rfl))
            case hT15 => assumption
            case' hh15 => skip
            try simp only [Act.put, List.setIfInBounds_toArray, List.set_cons_zero, List.set_cons_succ]
            refine wpAnyH_ready (rs := [6]) (by kernel_rfl) (by simp) ?_
            refine' AllReadyH.cons (o := _) ?ho16 (fun K hK => ?g16) ?s16
            case ho16 => (simp only [List.getElem?_toArray, List.getElem?_cons_succ, List.getElem?_cons_zero]; rfl)
            case s16 => exact AllReadyH.nil
            case' g16 => skip
            rw [if_pos (by rfl)]
            refine wps_store _ _ _ rfl (cs' := #[.int .i64 x.k.k, .int .i64 x.k.f, .int .i64 x.k.t, .int .i64 x.k.w, .int .i64 x.k.r, .int .i64 x.k.la, .int .i64 x.k.d, .int .i64 x.k.h, .int .i64 x.k.li, .int .i64 x.k.ra, .int .i64 x.k.c, .int .i64 x.L, .int .i64 x.P, .slice x.A x.e.length x.c, .int .i64 x.R, .int .i64 x.C, .int .i64 x.T, .int .i64 x.N, .int .i64 x.q]) rfl rfl NB rfl (by kernel_rfl) (by simp [Value.oneCell']) fun W2 D O => ?_
            refine hK.out _ _ (O.blk (HK.out.bel S1) (fun e => (HK.out.bel S1).ne_ NB (by decide) e)).cell (fun hHeld => ?_)
            clear hK K hHeld
            try simp only [Act.put, List.setIfInBounds_toArray, List.set_cons_zero, List.set_cons_succ]
            refine wpAnyH_done (by kernel_rfl) ?_ _
            go_wp2_with fail
            go_meet
            obtain ⟨x1, x2, x3, x4, x5, x6, x7, x8, x9, x10, x11⟩ := HXX.out
            exact ⟨g, a, _, x, rfl, rfl, nw_fin HBw.out HG9 hf KN NB x1 x2 x3 x4 x5 x6 x7 x8 x9 x10 x11 D O⟩
          exact AllReadyH.nil
        exact AllReadyH.nil
      exact AllReadyH.nil
    case rest =>
      obtain ⟨g, a, kr, x, rfl, rfl, hbg⟩ := hcut
      have HI := Lib.hid hbg
      clear hbg CN CR HK HBw
      go_wp2_with fail
      refine (C1.out _).mono ?_
      rintro e w5 ⟨⟨c', rfl⟩, rfl⟩
      go_wp2_with fail
      go_loopw [9] (fun iv V => ∃ i : Nat, iv = .int .i64 i ∧ i ≤ n ∧ InvB w V g a kr i) (fun iv _ => n - (intOf iv).toNat)
      case atStart => exact ⟨0, rfl, Nat.zero_le _, _, _, HI.out, Int.le_refl _, Int.le_refl _⟩
      case round =>
        clear HI
        obtain ⟨i, rfl, hi, s, x, hbg, hq0, hq1⟩ := hrel
        by_cases hlt : i < n
        · have hltz : (i : Int) < n := by omega
          have hi80 : i < 80 := by omega
          obtain ⟨u, hu⟩ : ∃ u, l[i]? = some u := ⟨_, List.getElem?_eq_getElem (by have := HNL.out.1; omega)⟩
          obtain ⟨gs, o, rfl, _, s0, s1, s2, s3, s4, s5⟩ := A12.sps_at (HR.out.1.below hbg.gt.bl) hu
          have hi0 : (0 : Int) ≤ (i : Int) := by omega
          have HU := Lib.hid (HR.out.2 i u hu)
          have CK := Lib.hid (A12.kind_any u)
          obtain ⟨kd, hkd⟩ : ∃ kd, modU u.k 8 = kd := ⟨_, rfl⟩
          have hkb : 0 ≤ kd ∧ kd < 8 := by rw [← hkd]; exact modU_bd u.k 8 (by decide)
          rw [hkd] at CK
          unfold A12.Sp.val at CK
          have b5 := b01 wr (.cells #[.int .i64 u.k, .int .i64 u.md, .int .i64 u.ln, .int .i64 u.n, .int .i64 u.r, .slice u.a u.ws.length u.c] 40)
          have HP := Lib.hid ((hbg.below b5).pg (Blk.new wr 40 #[.int .i64 u.k, .int .i64 u.md, .int .i64 u.ln, .int .i64 u.n, .int .i64 u.r, .slice u.a u.ws.length u.c]))
          have HSg := Lib.hid hbg.sg
          have HQ := Lib.hid (And.intro hq0 hq1)
          clear hbg hu b5 hkd hq0 hq1
          go_upto_region 11 with fail
          obtain ⟨kx, hkx⟩ : ∃ kx, wr.heap.size = kx := ⟨_, rfl⟩
          rw [hkx] at HP
          rw [hkx]
          generalize wr.alloc (.cells #[.int .i64 u.k, .int .i64 u.md, .int .i64 u.ln, .int .i64 u.n, .int .i64 u.r, .slice u.a u.ws.length u.c] 40) = v at *
          clear hkx s0 s1 s2 s3 s4 s5
          have n0 := HP.out.sx.cell
          go_wp2_with fail
          refine (CK.out _).mono ?_
          rintro e w6 ⟨rfl, hb6⟩
          have HP6 := Lib.hid (HP.out.below hb6)
          clear n0 hb6 HP CK
          go_upto_block 2 with fail
          go_cut [11] (fun sm V => sm = .bool true ∧ InvS w V g a kr (i + 1) kx #[.int .i64 u.k, .int .i64 u.md, .int .i64 u.ln, .int .i64 u.n, .int .i64 u.r, .slice u.a u.ws.length u.c])
          case first =>
            go_upto_if 48 with fail
            go_cut [48] (fun v V => v = .bool (decide (kd < 5)) ∧ V = w6)
            case first =>
              obtain ⟨q0, q7⟩ := hkb
              rcases (show kd = 0 ∨ kd = 1 ∨ kd = 2 ∨ kd = 3 ∨ kd = 4 ∨ kd = 5 ∨ kd = 6 ∨ kd = 7 by omega) with rfl | rfl | rfl | rfl | rfl | rfl | rfl | rfl
              all_goals clear q0 q7
              all_goals
                go_wp2_with fail
                go_meet
                exact ⟨rfl, rfl⟩
            case rest =>
              obtain ⟨rfl, hwc⟩ := hcut
              rw [hwc]
              clear hwc
              by_cases hk5 : kd < 5
              · as_aux_lemma =>
                have t5 : decide (kd < 5) = true := decide_eq_true hk5
                rw [t5]
                clear hk5
                have HW8 := HU.out.w8
                have CW := Lib.hid (fun V => A12.words_any u HU.out.le HU.out.top V)
                unfold A12.Sp.val at CW
                have CO : Hid (∀ V, Below w6.heap.size w6 V → Calls Try.prog 10 #[rgv x, .int .i64 u.md, .int .i64 u.ln, .slice u.a u.w8.length u.c, .int .i64 u.n, .int .i64 u.r] V fun e V' => ∃ m' x', e = .returned (.tuple #[rgv x', m'.val, .int .i64 (oc a s u.md u.ln u.w8 u.r)]) ∧ RofW V x (pm a u.w8 u.ln u.n (s.q + 1)) (oc a s u.md u.ln u.w8 u.r) (asks a s u.md u.ln u.w8) (K11.ctok a.R a.C s.T s.N u.r) (K11.crnd s.N u.r) m' x' V' ∧ Ng V' g a s.r x') := fun V hV => roffer_pg (HP6.out.below hV) HSg.out (c := u.c) u.md u.ln u.n u.r (HW8.1.below (bt HP6.out.gt.bl hV)) HW8.2.2 HQ.out.1 (by have := HQ.out.2; omega)
                have CG : Hid (∀ V, Gt w V g a s → Calls Try.prog 12 #[.pointer (some ⟨g, 0, none⟩), .int .i64 u.md, .int .i64 u.ln, .slice u.a u.w8.length u.c, .int .i64 u.n, .int .i64 u.r] V (OfP w V g a s (pm a u.w8 u.ln u.n (s.q + 1)) (oc a s u.md u.ln u.w8 u.r) (asks a s u.md u.ln u.w8) (K11.ctok a.R a.C s.T s.N u.r) (K11.crnd s.N u.r))) := fun V h => A12.offer_any h (c := u.c) u.md u.ln u.n u.r (h.ap_old HW8.1) HW8.2.1 HU.out.top HW8.2.2 HQ.out.1 (by have := HQ.out.2; omega)
                clear HW8 t5
                generalize oc a s u.md u.ln u.w8 u.r = code at *
                generalize asks a s u.md u.ln u.w8 = ask at *
                generalize pm a u.w8 u.ln u.n (s.q + 1) = M at *
                generalize K11.ctok a.R a.C s.T s.N u.r = T1 at *
                generalize K11.crnd s.N u.r = N1 at *
                unfold rgv rgc at CO
                have HS : Hid (∀ V, Below w6.heap.size w6 V → (∀ i, V.cell? ⟨kr, i, none⟩ = (#[.int .i64 x.k.k, .int .i64 x.k.f, .int .i64 x.k.t, .int .i64 x.k.w, .int .i64 x.k.r, .int .i64 x.k.la, .int .i64 x.k.d, .int .i64 x.k.h, .int .i64 x.k.li, .int .i64 x.k.ra, .int .i64 x.k.c, .int .i64 x.L, .int .i64 x.P, .slice x.A x.e.length x.c, .int .i64 x.R, .int .i64 x.C, .int .i64 x.T, .int .i64 x.N, .int .i64 x.q] : Array Value)[i]?) ∧ (∀ i, V.cell? ⟨kx, i, none⟩ = (#[.int .i64 u.k, .int .i64 u.md, .int .i64 u.ln, .int .i64 u.n, .int .i64 u.r, .slice u.a u.ws.length u.c] : Array Value)[i]?)) := fun V hV => ⟨(HP6.out.bx.bel hV).cell, (HP6.out.sx.bel hV).cell⟩
                go_upto_region 18 with fail
                go_cut [12, 13, 14] (fun v12 v13 v14 V => ∃ kn km m9 x9, v12 = .pointer (some ⟨kn, 0, none⟩) ∧ v13 = .pointer (some ⟨km, 0, none⟩) ∧ v14 = .int .i64 code ∧ R18 w6 V g a s x M code ask T1 N1 m9 x9 kn km)
                case first =>
                  have S1 : Below w6.heap.size w6 w6.drew := (Below.refl _ _).drew
                  have hHeld := HS.out _ S1
                  refine wp_region_held_drew (S := fun V => (∀ i, V.cell? ⟨kr, i, none⟩ = (#[.int .i64 x.k.k, .int .i64 x.k.f, .int .i64 x.k.t, .int .i64 x.k.w, .int .i64 x.k.r, .int .i64 x.k.la, .int .i64 x.k.d, .int .i64 x.k.h, .int .i64 x.k.li, .int .i64 x.k.ra, .int .i64 x.k.c, .int .i64 x.L, .int .i64 x.P, .slice x.A x.e.length x.c, .int .i64 x.R, .int .i64 x.C, .int .i64 x.T, .int .i64 x.N, .int .i64 x.q] : Array Value)[i]?) ∧ (∀ i, V.cell? ⟨kx, i, none⟩ = (#[.int .i64 u.k, .int .i64 u.md, .int .i64 u.ln, .int .i64 u.n, .int .i64 u.r, .slice u.a u.ws.length u.c] : Array Value)[i]?)) (by kernel_rfl) hHeld (fun _ => ?_)
                  generalize hWd : w6.drew = Wd at *
                  clear hWd CG
                  refine' wpAnyH_take (i := 0) (oi := _) (v := _) ?hi17 (by kernel_rfl) (by kernel_rfl) (by kernel_rfl) ?hQ17 (yieldsIf_load_mid ?hw17 _ _ ?ho17 kr 0 ?hx17 [.int .i64 x.k.k, .int .i64 x.k.f, .int .i64 x.k.t, .int .i64 x.k.w, .int .i64 x.k.r, .int .i64 x.k.la, .int .i64 x.k.d, .int .i64 x.k.h, .int .i64 x.k.li, .int .i64 x.k.ra, .int .i64 x.k.c, .int .i64 x.L, .int .i64 x.P, .slice x.A x.e.length x.c, .int .i64 x.R, .int .i64 x.C, .int .i64 x.T, .int .i64 x.N, .int .i64 x.q] (.struct (Try.prog.fieldsOf 35)) ?hS17 (by kernel_rfl) rfl (by kernel_rfl)) ?hT17 ?hh17
                  case hi17 => (simp only [List.getElem?_toArray, List.getElem?_cons_succ, List.getElem?_cons_zero]; rfl)
                  case hQ17 => exact fun _ _ _ h => h
                  case hw17 => rfl
                  case ho17 => rfl
                  case hx17 => rfl
                  case hS17 => exact fun V hV j v hj => by rw [Nat.zero_add, hV.1 j]; simpa using hj
                  case hT17 => assumption
                  case' hh17 => skip
                  try simp only [Act.put, List.setIfInBounds_toArray, List.set_cons_zero, List.set_cons_succ]
                  refine' wpAnyH_take (i := 1) (oi := _) (v := _) ?hi18 (by kernel_rfl) (by kernel_rfl) (by kernel_rfl) ?hQ18 (Or.inl ⟨?hw18, ?hy18⟩) ?hT18 ?hh18
                  case hi18 => (simp only [List.getElem?_toArray, List.getElem?_cons_succ, List.getElem?_cons_zero]; rfl)
                  case hQ18 => exact fun _ _ _ h => h
                  case hw18 => rfl
                  case hy18 => (intro V hSw; go_simp; (try with_reducible rfl))
                  case hT18 => assumption
                  case' hh18 => skip
                  try simp only [Act.put, List.setIfInBounds_toArray, List.set_cons_zero, List.set_cons_succ]
                  refine' wpAnyH_take (i := 2) (oi := _) (v := _) ?hi19 (by kernel_rfl) (by kernel_rfl) (by kernel_rfl) ?hQ19 (Or.inl ⟨?hw19, ?hy19⟩) ?hT19 ?hh19
                  case hi19 => (simp only [List.getElem?_toArray, List.getElem?_cons_succ, List.getElem?_cons_zero]; rfl)
                  case hQ19 => exact fun _ _ _ h => h
                  case hw19 => rfl
                  case hy19 => (intro V hSw; go_simp; (try with_reducible rfl))
                  case hT19 => assumption
                  case' hh19 => skip
                  try simp only [Act.put, List.setIfInBounds_toArray, List.set_cons_zero, List.set_cons_succ]
                  refine' wpAnyH_take (i := 3) (oi := _) (v := _) ?hi20 (by kernel_rfl) (by kernel_rfl) (by kernel_rfl) ?hQ20 (Or.inl ⟨?hw20, ?hy20⟩) ?hT20 ?hh20
                  case hi20 => (simp only [List.getElem?_toArray, List.getElem?_cons_succ, List.getElem?_cons_zero]; rfl)
                  case hQ20 => exact fun _ _ _ h => h
                  case hw20 => rfl
                  case hy20 => (intro V hSw; go_simp; (try with_reducible rfl))
                  case hT20 => assumption
                  case' hh20 => skip
                  try simp only [Act.put, List.setIfInBounds_toArray, List.set_cons_zero, List.set_cons_succ]
                  refine' wpAnyH_take (i := 4) (oi := _) (v := _) ?hi21 (by kernel_rfl) (by kernel_rfl) (by kernel_rfl) ?hQ21 (Or.inl ⟨?hw21, ?hy21⟩) ?hT21 ?hh21
                  case hi21 => (simp only [List.getElem?_toArray, List.getElem?_cons_succ, List.getElem?_cons_zero]; rfl)
                  case hQ21 => exact fun _ _ _ h => h
                  case hw21 => rfl
                  case hy21 => (intro V hSw; go_simp; (try with_reducible rfl))
                  case hT21 => assumption
                  case' hh21 => skip
                  try simp only [Act.put, List.setIfInBounds_toArray, List.set_cons_zero, List.set_cons_succ]
                  refine' wpAnyH_take (i := 5) (oi := _) (v := _) ?hi22 (by kernel_rfl) (by kernel_rfl) (by kernel_rfl) ?hQ22 (yieldsIf_load_mid ?hw22 _ _ ?ho22 kx 0 ?hx22 [.int .i64 u.k, .int .i64 u.md, .int .i64 u.ln, .int .i64 u.n, .int .i64 u.r, .slice u.a u.ws.length u.c] (.struct (Try.prog.fieldsOf 40)) ?hS22 (by kernel_rfl) rfl (by kernel_rfl)) ?hT22 ?hh22
                  case hi22 => (simp only [List.getElem?_toArray, List.getElem?_cons_succ, List.getElem?_cons_zero]; rfl)
                  case hQ22 => exact fun _ _ _ h => h
                  case hw22 => rfl
                  case ho22 => rfl
                  case hx22 => rfl
                  case hS22 => exact fun V hV j v hj => by rw [Nat.zero_add, hV.2 j]; simpa using hj
                  case hT22 => assumption
                  case' hh22 => skip
                  try simp only [Act.put, List.setIfInBounds_toArray, List.set_cons_zero, List.set_cons_succ]
                  refine' wpAnyH_take (i := 7) (oi := _) (v := _) ?hi23 (by kernel_rfl) (by kernel_rfl) (by kernel_rfl) ?hQ23 (Or.inl ⟨?hw23, ?hy23⟩) ?hT23 ?hh23
                  case hi23 => (simp only [List.getElem?_toArray, List.getElem?_cons_succ, List.getElem?_cons_zero]; rfl)
                  case hQ23 => exact fun _ _ _ h => h
                  case hw23 => rfl
                  case hy23 => (intro V hSw; go_simp; (try with_reducible rfl))
                  case hT23 => assumption
                  case' hh23 => skip
                  try simp only [Act.put, List.setIfInBounds_toArray, List.set_cons_zero, List.set_cons_succ]
                  refine' wpAnyH_take (i := 8) (oi := _) (v := _) ?hi24 (by kernel_rfl) (by kernel_rfl) (by kernel_rfl) ?hQ24 (Or.inl ⟨?hw24, ?hy24⟩) ?hT24 ?hh24
                  case hi24 => (simp only [List.getElem?_toArray, List.getElem?_cons_succ, List.getElem?_cons_zero]; rfl)
                  case hQ24 => exact fun _ _ _ h => h
                  case hw24 => rfl
                  case hy24 => (intro V hSw; go_simp; (try with_reducible rfl))
                  case hT24 => assumption
                  case' hh24 => skip
                  try simp only [Act.put, List.setIfInBounds_toArray, List.set_cons_zero, List.set_cons_succ]
                  refine' wpAnyH_take (i := 9) (oi := _) (v := _) ?hi25 (by kernel_rfl) (by kernel_rfl) (by kernel_rfl) ?hQ25 (Or.inl ⟨?hw25, ?hy25⟩) ?hT25 ?hh25
                  case hi25 => (simp only [List.getElem?_toArray, List.getElem?_cons_succ, List.getElem?_cons_zero]; rfl)
                  case hQ25 => exact fun _ _ _ h => h
                  case hw25 => rfl
                  case hy25 => (intro V hSw; go_simp; (try with_reducible rfl))
                  case hT25 => assumption
                  case' hh25 => skip
                  try simp only [Act.put, List.setIfInBounds_toArray, List.set_cons_zero, List.set_cons_succ]
                  refine' wpAnyH_take (i := 10) (oi := _) (v := _) ?hi26 (by kernel_rfl) (by kernel_rfl) (by kernel_rfl) ?hQ26 (Or.inl ⟨?hw26, ?hy26⟩) ?hT26 ?hh26
                  case hi26 => (simp only [List.getElem?_toArray, List.getElem?_cons_succ, List.getElem?_cons_zero]; rfl)
                  case hQ26 => exact fun _ _ _ h => h
                  case hw26 => rfl
                  case hy26 => (intro V hSw; go_simp; (try with_reducible rfl))
                  case hT26 => assumption
                  case' hh26 => skip
                  try simp only [Act.put, List.setIfInBounds_toArray, List.set_cons_zero, List.set_cons_succ]
                  refine wpAnyH_ready (rs := [6, 16, 17]) (by kernel_rfl) (by simp) ?_
                  refine' AllReadyH.cons (o := _) ?ho27 (fun K hK => ?g27) ?s27
                  case ho27 => (simp only [List.getElem?_toArray, List.getElem?_cons_succ, List.getElem?_cons_zero]; rfl)
                  case g27 =>
                    rw [if_pos (by rfl)]
                    go_simp
                    go_at_call 11
                    with_reducible refine (CW.out _).mono ?_
                    rintro e V1 ⟨rfl, hb⟩
                    have S1 := bt S1 hb
                    clear hb
                    refine hK.out _ _ (HS.out _ S1) (fun hHeld => ?_)
                    clear hK K
                    try simp only [Act.put, List.setIfInBounds_toArray, List.set_cons_zero, List.set_cons_succ]
                    refine wpAnyH_ready (rs := [11, 16, 17]) (by kernel_rfl) (by simp) ?_
                    refine' AllReadyH.cons (o := _) ?ho28 (fun K hK => ?g28) ?s28
                    case ho28 => (simp only [List.getElem?_toArray, List.getElem?_cons_succ, List.getElem?_cons_zero]; rfl)
                    case g28 =>
                      rw [if_pos (by rfl)]
                      go_simp
                      go_at_call 10
                      with_reducible refine (CO.out _ S1).mono ?_
                      rintro e V2 ⟨m9, x9, rfl, h9, NG⟩
                      have hb := h9.bl
                      have WO := h9.wo.less (Nat.zero_le _)
                      have S1 := bt S1 hb
                      clear hb
                      unfold MV.val
                      refine hK.out _ _ (HS.out _ S1) (fun hHeld => ?_)
                      clear hK K
                      try simp only [Act.put, List.setIfInBounds_toArray, List.set_cons_zero, List.set_cons_succ]
                      refine' wpAnyH_take (i := 12) (oi := _) (v := _) ?hi29 (by kernel_rfl) (by kernel_rfl) (by kernel_rfl) ?hQ29 (Or.inl ⟨?hw29, ?hy29⟩) ?hT29 ?hh29
                      case hi29 => (simp only [List.getElem?_toArray, List.getElem?_cons_succ, List.getElem?_cons_zero]; rfl)
                      case hQ29 => exact fun _ _ _ h => h
                      case hw29 => rfl
                      case hy29 => (intro V hSw; go_simp; (try with_reducible rfl))
                      case hT29 => assumption
                      case' hh29 => skip
                      try simp only [Act.put, List.setIfInBounds_toArray, List.set_cons_zero, List.set_cons_succ]
                      refine' wpAnyH_take (i := 13) (oi := _) (v := _) ?hi30 (by kernel_rfl) (by kernel_rfl) (by kernel_rfl) ?hQ30 (Or.inl ⟨?hw30, ?hy30⟩) ?hT30 ?hh30
                      case hi30 => (simp only [List.getElem?_toArray, List.getElem?_cons_succ, List.getElem?_cons_zero]; rfl)
                      case hQ30 => exact fun _ _ _ h => h
                      case hw30 => rfl
                      case hy30 => (intro V hSw; go_simp; (try with_reducible rfl))
                      case hT30 => assumption
                      case' hh30 => skip
                      try simp only [Act.put, List.setIfInBounds_toArray, List.set_cons_zero, List.set_cons_succ]
                      refine' wpAnyH_take (i := 14) (oi := _) (v := _) ?hi31 (by kernel_rfl) (by kernel_rfl) (by kernel_rfl) ?hQ31 (Or.inl ⟨?hw31, ?hy31⟩) ?hT31 ?hh31
                      case hi31 => (simp only [List.getElem?_toArray, List.getElem?_cons_succ, List.getElem?_cons_zero]; rfl)
                      case hQ31 => exact fun _ _ _ h => h
                      case hw31 => rfl
                      case hy31 => (intro V hSw; go_simp; (try with_reducible rfl))
                      case hT31 => assumption
                      case' hh31 => skip
                      try simp only [Act.put, List.setIfInBounds_toArray, List.set_cons_zero, List.set_cons_succ]
                      refine' wpAnyH_take (i := 15) (oi := _) (v := _) ?hi32 (by kernel_rfl) (by kernel_rfl) (by kernel_rfl) ?hQ32 (Or.inl ⟨?hw32, ?hy32⟩) ?hT32 ?hh32
                      case hi32 => (simp only [List.getElem?_toArray, List.getElem?_cons_succ, List.getElem?_cons_zero]; rfl)
                      case hQ32 => exact fun _ _ _ h => h
                      case hw32 => rfl
                      case hy32 => (intro V hSw; go_simp; (try with_reducible rfl))
                      case hT32 => assumption
                      case' hh32 => skip
                      try simp only [Act.put, List.setIfInBounds_toArray, List.set_cons_zero, List.set_cons_succ]
                      refine wpAnyH_ready (rs := [16, 17]) (by kernel_rfl) (by simp) ?_
                      refine' AllReadyH.cons (o := _) ?ho33 (fun K hK => ?g33) ?s33
                      case ho33 => (simp only [List.getElem?_toArray, List.getElem?_cons_succ, List.getElem?_cons_zero]; rfl)
                      case g33 =>
                        rw [if_pos (by rfl)]
                        go_simp
                        have NB := Blk.new V2 35 #[.int .i64 0, .int .i64 0, .int .i64 0, .int .i64 0, .int .i64 0, .int .i64 0, .int .i64 0, .int .i64 0, .int .i64 0, .int .i64 0, .int .i64 0, .int .i64 0, .int .i64 0, .slice none 0 0, .int .i64 0, .int .i64 0, .int .i64 0, .int .i64 0, .int .i64 0]
                        have KN := S1.size
                        have NG := NG.below (b01 V2 (.cells #[.int .i64 0, .int .i64 0, .int .i64 0, .int .i64 0, .int .i64 0, .int .i64 0, .int .i64 0, .int .i64 0, .int .i64 0, .int .i64 0, .int .i64 0, .int .i64 0, .int .i64 0, .slice none 0 0, .int .i64 0, .int .i64 0, .int .i64 0, .int .i64 0, .int .i64 0] 35))
                        have WO := WO.below (b01 V2 (.cells #[.int .i64 0, .int .i64 0, .int .i64 0, .int .i64 0, .int .i64 0, .int .i64 0, .int .i64 0, .int .i64 0, .int .i64 0, .int .i64 0, .int .i64 0, .int .i64 0, .int .i64 0, .slice none 0 0, .int .i64 0, .int .i64 0, .int .i64 0, .int .i64 0, .int .i64 0] 35))
                        have S1 := ba1 S1 (.cells #[.int .i64 0, .int .i64 0, .int .i64 0, .int .i64 0, .int .i64 0, .int .i64 0, .int .i64 0, .int .i64 0, .int .i64 0, .int .i64 0, .int .i64 0, .int .i64 0, .int .i64 0, .slice none 0 0, .int .i64 0, .int .i64 0, .int .i64 0, .int .i64 0, .int .i64 0] 35)
                        refine hK.out _ _ (HS.out _ S1) (fun hHeld => ?_)
                        clear hK K
                        try simp only [Act.put, List.setIfInBounds_toArray, List.set_cons_zero, List.set_cons_succ]
                        generalize V2.heap.size = kn at *
                        generalize V2.alloc (.cells #[.int .i64 0, .int .i64 0, .int .i64 0, .int .i64 0, .int .i64 0, .int .i64 0, .int .i64 0, .int .i64 0, .int .i64 0, .int .i64 0, .int .i64 0, .int .i64 0, .int .i64 0, .slice none 0 0, .int .i64 0, .int .i64 0, .int .i64 0, .int .i64 0, .int .i64 0] 35) = V3 at *
                        refine wpAnyH_ready (rs := [17]) (by kernel_rfl) (by simp) ?_
                        refine' AllReadyH.cons (o := _) ?ho34 (fun K hK => ?g34) ?s34
                        case ho34 => (simp only [List.getElem?_toArray, List.getElem?_cons_succ, List.getElem?_cons_zero]; rfl)
                        case g34 =>
                          rw [if_pos (by rfl)]
                          go_simp
                          have MB := Blk.new V3 43 #[.slice none 0 0, .int .i64 0, .int .i64 0, .int .i64 0, .int .i64 0]
                          have KM := S1.size
                          have HD := d17_new NG
                          have NG := NG.below (b01 V3 (.cells #[.slice none 0 0, .int .i64 0, .int .i64 0, .int .i64 0, .int .i64 0] 43))
                          have WO := WO.below (b01 V3 (.cells #[.slice none 0 0, .int .i64 0, .int .i64 0, .int .i64 0, .int .i64 0] 43))
                          have NB := NB.alloc (.cells #[.slice none 0 0, .int .i64 0, .int .i64 0, .int .i64 0, .int .i64 0] 43)
                          have S1 := ba1 S1 (.cells #[.slice none 0 0, .int .i64 0, .int .i64 0, .int .i64 0, .int .i64 0] 43)
                          refine hK.out _ _ (HS.out _ S1) (fun hHeld => ?_)
                          clear hK K
                          try simp only [Act.put, List.setIfInBounds_toArray, List.set_cons_zero, List.set_cons_succ]
                          generalize V3.heap.size = km at *
                          generalize V3.alloc (.cells #[.slice none 0 0, .int .i64 0, .int .i64 0, .int .i64 0, .int .i64 0] 43) = V4 at *
                          refine wpAnyH_ready (rs := [18]) (by kernel_rfl) (by simp) ?_
                          refine' AllReadyH.cons (o := _) ?ho35 (fun K hK => ?g35) ?s35
                          case ho35 => (simp only [List.getElem?_toArray, List.getElem?_cons_succ, List.getElem?_cons_zero]; rfl)
                          case s35 => exact AllReadyH.nil
                          case' g35 => skip
                          rw [if_pos (by rfl)]
                          refine wps_store _ _ _ rfl (cs' := rgc x9) rfl rfl NB rfl (by kernel_rfl) (by simp [Value.oneCell', rgc]) fun W2 D O => ?_
                          have bm2 := O.blk MB fun e => MB.ne_ NB (by decide) e
                          have S2 : Below w6.heap.size w6 W2 := below_only ((Only.of S1).trans_ (F := fun q => q = kn) O) (fun q hq => by have e : q = kn := hq; omega)
                          refine hK.out _ _ (HS.out _ S2) (fun hHeld => ?_)
                          clear hK K hHeld
                          try simp only [Act.put, List.setIfInBounds_toArray, List.set_cons_zero, List.set_cons_succ]
                          refine wpAnyH_ready (rs := [19]) (by kernel_rfl) (by simp) ?_
                          refine' AllReadyH.cons (o := _) ?ho36 (fun K hK => ?g36) ?s36
                          case ho36 => (simp only [List.getElem?_toArray, List.getElem?_cons_succ, List.getElem?_cons_zero]; rfl)
                          case s36 => exact AllReadyH.nil
                          case' g36 => skip
                          rw [if_pos (by rfl)]
                          refine wps_store _ _ _ rfl (cs' := mc m9) rfl rfl bm2 rfl (by kernel_rfl) (by simp [Value.oneCell', mc]) fun W3 D2 O2 => ?_
                          have hR := ro_fin S1 KN KM NB MB NG WO HD h9 D O D2 O2
                          refine hK.out _ _ (HS.out _ hR.bl) (fun hHeld => ?_)
                          clear hK K
                          try simp only [Act.put, List.setIfInBounds_toArray, List.set_cons_zero, List.set_cons_succ]
                          refine' wpAnyH_take (i := 20) (oi := _) (v := _) ?hi37 (by kernel_rfl) (by kernel_rfl) (by kernel_rfl) ?hQ37 (Or.inl ⟨?hw37, ?hy37⟩) ?hT37 ?hh37
                          case hi37 => (simp only [List.getElem?_toArray, List.getElem?_cons_succ, List.getElem?_cons_zero]; rfl)
                          case hQ37 => exact fun _ _ _ h => h
                          case hw37 => rfl
                          case hy37 => (intro V hSw; go_simp; (try with_reducible rfl))
                          case hT37 => assumption
                          case' hh37 => skip
                          try simp only [Act.put, List.setIfInBounds_toArray, List.set_cons_zero, List.set_cons_succ]
                          refine wpAnyH_done (by kernel_rfl) ?_ _
                          clear hHeld D O D2 O2 bm2 S2 NB MB NG WO HD h9 KN KM
                          go_wp2_with fail
                          go_meet
                          exact ⟨kn, km, m9, x9, rfl, rfl, rfl, hR⟩
                        exact AllReadyH.nil
                      refine' AllReadyH.cons (o := _) ?ho38 (fun K hK => ?g38) ?s38
                      case ho38 => (simp only [List.getElem?_toArray, List.getElem?_cons_succ, List.getElem?_cons_zero]; rfl)
                      case g38 =>
                        rw [if_pos (by rfl)]
                        go_simp
                        have MB := Blk.new V2 43 #[.slice none 0 0, .int .i64 0, .int .i64 0, .int .i64 0, .int .i64 0]
                        have KM := S1.size
                        have HD := d17_new NG
                        have NG := NG.below (b01 V2 (.cells #[.slice none 0 0, .int .i64 0, .int .i64 0, .int .i64 0, .int .i64 0] 43))
                        have WO := WO.below (b01 V2 (.cells #[.slice none 0 0, .int .i64 0, .int .i64 0, .int .i64 0, .int .i64 0] 43))
                        have S1 := ba1 S1 (.cells #[.slice none 0 0, .int .i64 0, .int .i64 0, .int .i64 0, .int .i64 0] 43)
                        refine hK.out _ _ (HS.out _ S1) (fun hHeld => ?_)
                        clear hK K
                        try simp only [Act.put, List.setIfInBounds_toArray, List.set_cons_zero, List.set_cons_succ]
                        generalize V2.heap.size = km at *
                        generalize V2.alloc (.cells #[.slice none 0 0, .int .i64 0, .int .i64 0, .int .i64 0, .int .i64 0] 43) = V3 at *
                        refine wpAnyH_ready (rs := [16]) (by kernel_rfl) (by simp) ?_
                        refine' AllReadyH.cons (o := _) ?ho39 (fun K hK => ?g39) ?s39
                        case ho39 => (simp only [List.getElem?_toArray, List.getElem?_cons_succ, List.getElem?_cons_zero]; rfl)
                        case g39 =>
                          rw [if_pos (by rfl)]
                          go_simp
                          have NB := Blk.new V3 35 #[.int .i64 0, .int .i64 0, .int .i64 0, .int .i64 0, .int .i64 0, .int .i64 0, .int .i64 0, .int .i64 0, .int .i64 0, .int .i64 0, .int .i64 0, .int .i64 0, .int .i64 0, .slice none 0 0, .int .i64 0, .int .i64 0, .int .i64 0, .int .i64 0, .int .i64 0]
                          have KN := S1.size
                          have NG := NG.below (b01 V3 (.cells #[.int .i64 0, .int .i64 0, .int .i64 0, .int .i64 0, .int .i64 0, .int .i64 0, .int .i64 0, .int .i64 0, .int .i64 0, .int .i64 0, .int .i64 0, .int .i64 0, .int .i64 0, .slice none 0 0, .int .i64 0, .int .i64 0, .int .i64 0, .int .i64 0, .int .i64 0] 35))
                          have WO := WO.below (b01 V3 (.cells #[.int .i64 0, .int .i64 0, .int .i64 0, .int .i64 0, .int .i64 0, .int .i64 0, .int .i64 0, .int .i64 0, .int .i64 0, .int .i64 0, .int .i64 0, .int .i64 0, .int .i64 0, .slice none 0 0, .int .i64 0, .int .i64 0, .int .i64 0, .int .i64 0, .int .i64 0] 35))
                          have MB := MB.alloc (.cells #[.int .i64 0, .int .i64 0, .int .i64 0, .int .i64 0, .int .i64 0, .int .i64 0, .int .i64 0, .int .i64 0, .int .i64 0, .int .i64 0, .int .i64 0, .int .i64 0, .int .i64 0, .slice none 0 0, .int .i64 0, .int .i64 0, .int .i64 0, .int .i64 0, .int .i64 0] 35)
                          have S1 := ba1 S1 (.cells #[.int .i64 0, .int .i64 0, .int .i64 0, .int .i64 0, .int .i64 0, .int .i64 0, .int .i64 0, .int .i64 0, .int .i64 0, .int .i64 0, .int .i64 0, .int .i64 0, .int .i64 0, .slice none 0 0, .int .i64 0, .int .i64 0, .int .i64 0, .int .i64 0, .int .i64 0] 35)
                          refine hK.out _ _ (HS.out _ S1) (fun hHeld => ?_)
                          clear hK K
                          try simp only [Act.put, List.setIfInBounds_toArray, List.set_cons_zero, List.set_cons_succ]
                          generalize V3.heap.size = kn at *
                          generalize V3.alloc (.cells #[.int .i64 0, .int .i64 0, .int .i64 0, .int .i64 0, .int .i64 0, .int .i64 0, .int .i64 0, .int .i64 0, .int .i64 0, .int .i64 0, .int .i64 0, .int .i64 0, .int .i64 0, .slice none 0 0, .int .i64 0, .int .i64 0, .int .i64 0, .int .i64 0, .int .i64 0] 35) = V4 at *
                          refine wpAnyH_ready (rs := [18]) (by kernel_rfl) (by simp) ?_
                          refine' AllReadyH.cons (o := _) ?ho40 (fun K hK => ?g40) ?s40
                          case ho40 => (simp only [List.getElem?_toArray, List.getElem?_cons_succ, List.getElem?_cons_zero]; rfl)
                          case s40 => exact AllReadyH.nil
                          case' g40 => skip
                          rw [if_pos (by rfl)]
                          refine wps_store _ _ _ rfl (cs' := rgc x9) rfl rfl NB rfl (by kernel_rfl) (by simp [Value.oneCell', rgc]) fun W2 D O => ?_
                          have bm2 := O.blk MB fun e => MB.ne_ NB (by decide) e
                          have S2 : Below w6.heap.size w6 W2 := below_only ((Only.of S1).trans_ (F := fun q => q = kn) O) (fun q hq => by have e : q = kn := hq; omega)
                          refine hK.out _ _ (HS.out _ S2) (fun hHeld => ?_)
                          clear hK K hHeld
                          try simp only [Act.put, List.setIfInBounds_toArray, List.set_cons_zero, List.set_cons_succ]
                          refine wpAnyH_ready (rs := [19]) (by kernel_rfl) (by simp) ?_
                          refine' AllReadyH.cons (o := _) ?ho41 (fun K hK => ?g41) ?s41
                          case ho41 => (simp only [List.getElem?_toArray, List.getElem?_cons_succ, List.getElem?_cons_zero]; rfl)
                          case s41 => exact AllReadyH.nil
                          case' g41 => skip
                          rw [if_pos (by rfl)]
                          refine wps_store _ _ _ rfl (cs' := mc m9) rfl rfl bm2 rfl (by kernel_rfl) (by simp [Value.oneCell', mc]) fun W3 D2 O2 => ?_
                          have hR := ro_fin S1 KN KM NB MB NG WO HD h9 D O D2 O2
                          refine hK.out _ _ (HS.out _ hR.bl) (fun hHeld => ?_)
                          clear hK K
                          try simp only [Act.put, List.setIfInBounds_toArray, List.set_cons_zero, List.set_cons_succ]
                          refine' wpAnyH_take (i := 20) (oi := _) (v := _) ?hi42 (by kernel_rfl) (by kernel_rfl) (by kernel_rfl) ?hQ42 (Or.inl ⟨?hw42, ?hy42⟩) ?hT42 ?hh42
                          case hi42 => (simp only [List.getElem?_toArray, List.getElem?_cons_succ, List.getElem?_cons_zero]; rfl)
                          case hQ42 => exact fun _ _ _ h => h
                          case hw42 => rfl
                          case hy42 => (intro V hSw; go_simp; (try with_reducible rfl))
                          case hT42 => assumption
                          case' hh42 => skip
                          try simp only [Act.put, List.setIfInBounds_toArray, List.set_cons_zero, List.set_cons_succ]
                          refine wpAnyH_done (by kernel_rfl) ?_ _
                          clear hHeld D O D2 O2 bm2 S2 NB MB NG WO HD h9 KN KM
                          go_wp2_with fail
                          go_meet
                          exact ⟨kn, km, m9, x9, rfl, rfl, rfl, hR⟩
                        exact AllReadyH.nil
                      exact AllReadyH.nil
                    refine' AllReadyH.cons (o := _) ?ho43 (fun K hK => ?g43) ?s43
                    case ho43 => (simp only [List.getElem?_toArray, List.getElem?_cons_succ, List.getElem?_cons_zero]; rfl)
                    case g43 =>
                      rw [if_pos (by rfl)]
                      go_simp
                      have NB := Blk.new V1 35 #[.int .i64 0, .int .i64 0, .int .i64 0, .int .i64 0, .int .i64 0, .int .i64 0, .int .i64 0, .int .i64 0, .int .i64 0, .int .i64 0, .int .i64 0, .int .i64 0, .int .i64 0, .slice none 0 0, .int .i64 0, .int .i64 0, .int .i64 0, .int .i64 0, .int .i64 0]
                      have KN := S1.size
                      have S1 := ba1 S1 (.cells #[.int .i64 0, .int .i64 0, .int .i64 0, .int .i64 0, .int .i64 0, .int .i64 0, .int .i64 0, .int .i64 0, .int .i64 0, .int .i64 0, .int .i64 0, .int .i64 0, .int .i64 0, .slice none 0 0, .int .i64 0, .int .i64 0, .int .i64 0, .int .i64 0, .int .i64 0] 35)
                      refine hK.out _ _ (HS.out _ S1) (fun hHeld => ?_)
                      clear hK K
                      try simp only [Act.put, List.setIfInBounds_toArray, List.set_cons_zero, List.set_cons_succ]
                      generalize V1.heap.size = kn at *
                      generalize V1.alloc (.cells #[.int .i64 0, .int .i64 0, .int .i64 0, .int .i64 0, .int .i64 0, .int .i64 0, .int .i64 0, .int .i64 0, .int .i64 0, .int .i64 0, .int .i64 0, .int .i64 0, .int .i64 0, .slice none 0 0, .int .i64 0, .int .i64 0, .int .i64 0, .int .i64 0, .int .i64 0] 35) = V2 at *
                      refine wpAnyH_ready (rs := [11, 17]) (by kernel_rfl) (by simp) ?_
                      refine' AllReadyH.cons (o := _) ?ho44 (fun K hK => ?g44) ?s44
                      case ho44 => (simp only [List.getElem?_toArray, List.getElem?_cons_succ, List.getElem?_cons_zero]; rfl)
                      case g44 =>
                        rw [if_pos (by rfl)]
                        go_simp
                        go_at_call 10
                        with_reducible refine (CO.out _ S1).mono ?_
                        rintro e V3 ⟨m9, x9, rfl, h9, NG⟩
                        have hb := h9.bl
                        have WO := h9.wo.less (Nat.zero_le _)
                        have S1 := bt S1 hb
                        have NB := NB.bel hb
                        clear hb
                        unfold MV.val
                        refine hK.out _ _ (HS.out _ S1) (fun hHeld => ?_)
                        clear hK K
                        try simp only [Act.put, List.setIfInBounds_toArray, List.set_cons_zero, List.set_cons_succ]
                        refine' wpAnyH_take (i := 12) (oi := _) (v := _) ?hi45 (by kernel_rfl) (by kernel_rfl) (by kernel_rfl) ?hQ45 (Or.inl ⟨?hw45, ?hy45⟩) ?hT45 ?hh45
                        case hi45 => (simp only [List.getElem?_toArray, List.getElem?_cons_succ, List.getElem?_cons_zero]; rfl)
                        case hQ45 => exact fun _ _ _ h => h
                        case hw45 => rfl
                        case hy45 => (intro V hSw; go_simp; (try with_reducible rfl))
                        case hT45 => assumption
                        case' hh45 => skip
                        try simp only [Act.put, List.setIfInBounds_toArray, List.set_cons_zero, List.set_cons_succ]
                        refine' wpAnyH_take (i := 13) (oi := _) (v := _) ?hi46 (by kernel_rfl) (by kernel_rfl) (by kernel_rfl) ?hQ46 (Or.inl ⟨?hw46, ?hy46⟩) ?hT46 ?hh46
                        case hi46 => (simp only [List.getElem?_toArray, List.getElem?_cons_succ, List.getElem?_cons_zero]; rfl)
                        case hQ46 => exact fun _ _ _ h => h
                        case hw46 => rfl
                        case hy46 => (intro V hSw; go_simp; (try with_reducible rfl))
                        case hT46 => assumption
                        case' hh46 => skip
                        try simp only [Act.put, List.setIfInBounds_toArray, List.set_cons_zero, List.set_cons_succ]
                        refine' wpAnyH_take (i := 14) (oi := _) (v := _) ?hi47 (by kernel_rfl) (by kernel_rfl) (by kernel_rfl) ?hQ47 (Or.inl ⟨?hw47, ?hy47⟩) ?hT47 ?hh47
                        case hi47 => (simp only [List.getElem?_toArray, List.getElem?_cons_succ, List.getElem?_cons_zero]; rfl)
                        case hQ47 => exact fun _ _ _ h => h
                        case hw47 => rfl
                        case hy47 => (intro V hSw; go_simp; (try with_reducible rfl))
                        case hT47 => assumption
                        case' hh47 => skip
                        try simp only [Act.put, List.setIfInBounds_toArray, List.set_cons_zero, List.set_cons_succ]
                        refine' wpAnyH_take (i := 15) (oi := _) (v := _) ?hi48 (by kernel_rfl) (by kernel_rfl) (by kernel_rfl) ?hQ48 (Or.inl ⟨?hw48, ?hy48⟩) ?hT48 ?hh48
                        case hi48 => (simp only [List.getElem?_toArray, List.getElem?_cons_succ, List.getElem?_cons_zero]; rfl)
                        case hQ48 => exact fun _ _ _ h => h
                        case hw48 => rfl
                        case hy48 => (intro V hSw; go_simp; (try with_reducible rfl))
                        case hT48 => assumption
                        case' hh48 => skip
                        try simp only [Act.put, List.setIfInBounds_toArray, List.set_cons_zero, List.set_cons_succ]
                        refine wpAnyH_ready (rs := [17]) (by kernel_rfl) (by simp) ?_
                        refine' AllReadyH.cons (o := _) ?ho49 (fun K hK => ?g49) ?s49
                        case ho49 => (simp only [List.getElem?_toArray, List.getElem?_cons_succ, List.getElem?_cons_zero]; rfl)
                        case g49 =>
                          rw [if_pos (by rfl)]
                          go_simp
                          have MB := Blk.new V3 43 #[.slice none 0 0, .int .i64 0, .int .i64 0, .int .i64 0, .int .i64 0]
                          have KM := S1.size
                          have HD := d17_new NG
                          have NG := NG.below (b01 V3 (.cells #[.slice none 0 0, .int .i64 0, .int .i64 0, .int .i64 0, .int .i64 0] 43))
                          have WO := WO.below (b01 V3 (.cells #[.slice none 0 0, .int .i64 0, .int .i64 0, .int .i64 0, .int .i64 0] 43))
                          have NB := NB.alloc (.cells #[.slice none 0 0, .int .i64 0, .int .i64 0, .int .i64 0, .int .i64 0] 43)
                          have S1 := ba1 S1 (.cells #[.slice none 0 0, .int .i64 0, .int .i64 0, .int .i64 0, .int .i64 0] 43)
                          refine hK.out _ _ (HS.out _ S1) (fun hHeld => ?_)
                          clear hK K
                          try simp only [Act.put, List.setIfInBounds_toArray, List.set_cons_zero, List.set_cons_succ]
                          generalize V3.heap.size = km at *
                          generalize V3.alloc (.cells #[.slice none 0 0, .int .i64 0, .int .i64 0, .int .i64 0, .int .i64 0] 43) = V4 at *
                          refine wpAnyH_ready (rs := [18]) (by kernel_rfl) (by simp) ?_
                          refine' AllReadyH.cons (o := _) ?ho50 (fun K hK => ?g50) ?s50
                          case ho50 => (simp only [List.getElem?_toArray, List.getElem?_cons_succ, List.getElem?_cons_zero]; rfl)
                          case s50 => exact AllReadyH.nil
                          case' g50 => skip
                          rw [if_pos (by rfl)]
                          refine wps_store _ _ _ rfl (cs' := rgc x9) rfl rfl NB rfl (by kernel_rfl) (by simp [Value.oneCell', rgc]) fun W2 D O => ?_
                          have bm2 := O.blk MB fun e => MB.ne_ NB (by decide) e
                          have S2 : Below w6.heap.size w6 W2 := below_only ((Only.of S1).trans_ (F := fun q => q = kn) O) (fun q hq => by have e : q = kn := hq; omega)
                          refine hK.out _ _ (HS.out _ S2) (fun hHeld => ?_)
                          clear hK K hHeld
                          try simp only [Act.put, List.setIfInBounds_toArray, List.set_cons_zero, List.set_cons_succ]
                          refine wpAnyH_ready (rs := [19]) (by kernel_rfl) (by simp) ?_
                          refine' AllReadyH.cons (o := _) ?ho51 (fun K hK => ?g51) ?s51
                          case ho51 => (simp only [List.getElem?_toArray, List.getElem?_cons_succ, List.getElem?_cons_zero]; rfl)
                          case s51 => exact AllReadyH.nil
                          case' g51 => skip
                          rw [if_pos (by rfl)]
                          refine wps_store _ _ _ rfl (cs' := mc m9) rfl rfl bm2 rfl (by kernel_rfl) (by simp [Value.oneCell', mc]) fun W3 D2 O2 => ?_
                          have hR := ro_fin S1 KN KM NB MB NG WO HD h9 D O D2 O2
                          refine hK.out _ _ (HS.out _ hR.bl) (fun hHeld => ?_)
                          clear hK K
                          try simp only [Act.put, List.setIfInBounds_toArray, List.set_cons_zero, List.set_cons_succ]
                          refine' wpAnyH_take (i := 20) (oi := _) (v := _) ?hi52 (by kernel_rfl) (by kernel_rfl) (by kernel_rfl) ?hQ52 (Or.inl ⟨?hw52, ?hy52⟩) ?hT52 ?hh52
                          case hi52 => (simp only [List.getElem?_toArray, List.getElem?_cons_succ, List.getElem?_cons_zero]; rfl)
                          case hQ52 => exact fun _ _ _ h => h
                          case hw52 => rfl
                          case hy52 => (intro V hSw; go_simp; (try with_reducible rfl))
                          case hT52 => assumption
                          case' hh52 => skip
                          try simp only [Act.put, List.setIfInBounds_toArray, List.set_cons_zero, List.set_cons_succ]
                          refine wpAnyH_done (by kernel_rfl) ?_ _
                          clear hHeld D O D2 O2 bm2 S2 NB MB NG WO HD h9 KN KM
                          go_wp2_with fail
                          go_meet
                          exact ⟨kn, km, m9, x9, rfl, rfl, rfl, hR⟩
                        exact AllReadyH.nil
                      refine' AllReadyH.cons (o := _) ?ho53 (fun K hK => ?g53) ?s53
                      case ho53 => (simp only [List.getElem?_toArray, List.getElem?_cons_succ, List.getElem?_cons_zero]; rfl)
                      case g53 =>
                        rw [if_pos (by rfl)]
                        go_simp
                        have MB := Blk.new V2 43 #[.slice none 0 0, .int .i64 0, .int .i64 0, .int .i64 0, .int .i64 0]
                        have KM := S1.size
                        have NB := NB.alloc (.cells #[.slice none 0 0, .int .i64 0, .int .i64 0, .int .i64 0, .int .i64 0] 43)
                        have S1 := ba1 S1 (.cells #[.slice none 0 0, .int .i64 0, .int .i64 0, .int .i64 0, .int .i64 0] 43)
                        refine hK.out _ _ (HS.out _ S1) (fun hHeld => ?_)
                        clear hK K
                        try simp only [Act.put, List.setIfInBounds_toArray, List.set_cons_zero, List.set_cons_succ]
                        generalize V2.heap.size = km at *
                        generalize V2.alloc (.cells #[.slice none 0 0, .int .i64 0, .int .i64 0, .int .i64 0, .int .i64 0] 43) = V3 at *
                        refine wpAnyH_ready (rs := [11]) (by kernel_rfl) (by simp) ?_
                        refine' AllReadyH.cons (o := _) ?ho54 (fun K hK => ?g54) ?s54
                        case ho54 => (simp only [List.getElem?_toArray, List.getElem?_cons_succ, List.getElem?_cons_zero]; rfl)
                        case g54 =>
                          rw [if_pos (by rfl)]
                          go_simp
                          go_at_call 10
                          with_reducible refine (CO.out _ S1).mono ?_
                          rintro e V4 ⟨m9, x9, rfl, h9, NG⟩
                          have HD := d17_old HP6.out h9 KM MB.lt
                          have hb := h9.bl
                          have WO := h9.wo.less (Nat.zero_le _)
                          have S1 := bt S1 hb
                          have NB := NB.bel hb
                          have MB := MB.bel hb
                          clear hb
                          unfold MV.val
                          refine hK.out _ _ (HS.out _ S1) (fun hHeld => ?_)
                          clear hK K
                          try simp only [Act.put, List.setIfInBounds_toArray, List.set_cons_zero, List.set_cons_succ]
                          refine' wpAnyH_take (i := 12) (oi := _) (v := _) ?hi55 (by kernel_rfl) (by kernel_rfl) (by kernel_rfl) ?hQ55 (Or.inl ⟨?hw55, ?hy55⟩) ?hT55 ?hh55
                          case hi55 => (simp only [List.getElem?_toArray, List.getElem?_cons_succ, List.getElem?_cons_zero]; rfl)
                          case hQ55 => exact fun _ _ _ h => h
                          case hw55 => rfl
                          case hy55 => (intro V hSw; go_simp; (try with_reducible rfl))
                          case hT55 => assumption
                          case' hh55 => skip
                          try simp only [Act.put, List.setIfInBounds_toArray, List.set_cons_zero, List.set_cons_succ]
                          refine' wpAnyH_take (i := 13) (oi := _) (v := _) ?hi56 (by kernel_rfl) (by kernel_rfl) (by kernel_rfl) ?hQ56 (Or.inl ⟨?hw56, ?hy56⟩) ?hT56 ?hh56
                          case hi56 => (simp only [List.getElem?_toArray, List.getElem?_cons_succ, List.getElem?_cons_zero]; rfl)
                          case hQ56 => exact fun _ _ _ h => h
                          case hw56 => rfl
                          case hy56 => (intro V hSw; go_simp; (try with_reducible rfl))
                          case hT56 => assumption
                          case' hh56 => skip
                          try simp only [Act.put, List.setIfInBounds_toArray, List.set_cons_zero, List.set_cons_succ]
                          refine' wpAnyH_take (i := 14) (oi := _) (v := _) ?hi57 (by kernel_rfl) (by kernel_rfl) (by kernel_rfl) ?hQ57 (Or.inl ⟨?hw57, ?hy57⟩) ?hT57 ?hh57
                          case hi57 => (simp only [List.getElem?_toArray, List.getElem?_cons_succ, List.getElem?_cons_zero]; rfl)
                          case hQ57 => exact fun _ _ _ h => h
                          case hw57 => rfl
                          case hy57 => (intro V hSw; go_simp; (try with_reducible rfl))
                          case hT57 => assumption
                          case' hh57 => skip
                          try simp only [Act.put, List.setIfInBounds_toArray, List.set_cons_zero, List.set_cons_succ]
                          refine' wpAnyH_take (i := 15) (oi := _) (v := _) ?hi58 (by kernel_rfl) (by kernel_rfl) (by kernel_rfl) ?hQ58 (Or.inl ⟨?hw58, ?hy58⟩) ?hT58 ?hh58
                          case hi58 => (simp only [List.getElem?_toArray, List.getElem?_cons_succ, List.getElem?_cons_zero]; rfl)
                          case hQ58 => exact fun _ _ _ h => h
                          case hw58 => rfl
                          case hy58 => (intro V hSw; go_simp; (try with_reducible rfl))
                          case hT58 => assumption
                          case' hh58 => skip
                          try simp only [Act.put, List.setIfInBounds_toArray, List.set_cons_zero, List.set_cons_succ]
                          refine wpAnyH_ready (rs := [18]) (by kernel_rfl) (by simp) ?_
                          refine' AllReadyH.cons (o := _) ?ho59 (fun K hK => ?g59) ?s59
                          case ho59 => (simp only [List.getElem?_toArray, List.getElem?_cons_succ, List.getElem?_cons_zero]; rfl)
                          case s59 => exact AllReadyH.nil
                          case' g59 => skip
                          rw [if_pos (by rfl)]
                          refine wps_store _ _ _ rfl (cs' := rgc x9) rfl rfl NB rfl (by kernel_rfl) (by simp [Value.oneCell', rgc]) fun W2 D O => ?_
                          have bm2 := O.blk MB fun e => MB.ne_ NB (by decide) e
                          have S2 : Below w6.heap.size w6 W2 := below_only ((Only.of S1).trans_ (F := fun q => q = kn) O) (fun q hq => by have e : q = kn := hq; omega)
                          refine hK.out _ _ (HS.out _ S2) (fun hHeld => ?_)
                          clear hK K hHeld
                          try simp only [Act.put, List.setIfInBounds_toArray, List.set_cons_zero, List.set_cons_succ]
                          refine wpAnyH_ready (rs := [19]) (by kernel_rfl) (by simp) ?_
                          refine' AllReadyH.cons (o := _) ?ho60 (fun K hK => ?g60) ?s60
                          case ho60 => (simp only [List.getElem?_toArray, List.getElem?_cons_succ, List.getElem?_cons_zero]; rfl)
                          case s60 => exact AllReadyH.nil
                          case' g60 => skip
                          rw [if_pos (by rfl)]
                          refine wps_store _ _ _ rfl (cs' := mc m9) rfl rfl bm2 rfl (by kernel_rfl) (by simp [Value.oneCell', mc]) fun W3 D2 O2 => ?_
                          have hR := ro_fin S1 KN KM NB MB NG WO HD h9 D O D2 O2
                          refine hK.out _ _ (HS.out _ hR.bl) (fun hHeld => ?_)
                          clear hK K
                          try simp only [Act.put, List.setIfInBounds_toArray, List.set_cons_zero, List.set_cons_succ]
                          refine' wpAnyH_take (i := 20) (oi := _) (v := _) ?hi61 (by kernel_rfl) (by kernel_rfl) (by kernel_rfl) ?hQ61 (Or.inl ⟨?hw61, ?hy61⟩) ?hT61 ?hh61
                          case hi61 => (simp only [List.getElem?_toArray, List.getElem?_cons_succ, List.getElem?_cons_zero]; rfl)
                          case hQ61 => exact fun _ _ _ h => h
                          case hw61 => rfl
                          case hy61 => (intro V hSw; go_simp; (try with_reducible rfl))
                          case hT61 => assumption
                          case' hh61 => skip
                          try simp only [Act.put, List.setIfInBounds_toArray, List.set_cons_zero, List.set_cons_succ]
                          refine wpAnyH_done (by kernel_rfl) ?_ _
                          clear hHeld D O D2 O2 bm2 S2 NB MB NG WO HD h9 KN KM
                          go_wp2_with fail
                          go_meet
                          exact ⟨kn, km, m9, x9, rfl, rfl, rfl, hR⟩
                        exact AllReadyH.nil
                      exact AllReadyH.nil
                    refine' AllReadyH.cons (o := _) ?ho62 (fun K hK => ?g62) ?s62
                    case ho62 => (simp only [List.getElem?_toArray, List.getElem?_cons_succ, List.getElem?_cons_zero]; rfl)
                    case g62 =>
                      rw [if_pos (by rfl)]
                      go_simp
                      have MB := Blk.new V1 43 #[.slice none 0 0, .int .i64 0, .int .i64 0, .int .i64 0, .int .i64 0]
                      have KM := S1.size
                      have S1 := ba1 S1 (.cells #[.slice none 0 0, .int .i64 0, .int .i64 0, .int .i64 0, .int .i64 0] 43)
                      refine hK.out _ _ (HS.out _ S1) (fun hHeld => ?_)
                      clear hK K
                      try simp only [Act.put, List.setIfInBounds_toArray, List.set_cons_zero, List.set_cons_succ]
                      generalize V1.heap.size = km at *
                      generalize V1.alloc (.cells #[.slice none 0 0, .int .i64 0, .int .i64 0, .int .i64 0, .int .i64 0] 43) = V2 at *
                      refine wpAnyH_ready (rs := [11, 16]) (by kernel_rfl) (by simp) ?_
                      refine' AllReadyH.cons (o := _) ?ho63 (fun K hK => ?g63) ?s63
                      case ho63 => (simp only [List.getElem?_toArray, List.getElem?_cons_succ, List.getElem?_cons_zero]; rfl)
                      case g63 =>
                        rw [if_pos (by rfl)]
                        go_simp
                        go_at_call 10
                        with_reducible refine (CO.out _ S1).mono ?_
                        rintro e V3 ⟨m9, x9, rfl, h9, NG⟩
                        have HD := d17_old HP6.out h9 KM MB.lt
                        have hb := h9.bl
                        have WO := h9.wo.less (Nat.zero_le _)
                        have S1 := bt S1 hb
                        have MB := MB.bel hb
                        clear hb
                        unfold MV.val
                        refine hK.out _ _ (HS.out _ S1) (fun hHeld => ?_)
                        clear hK K
                        try simp only [Act.put, List.setIfInBounds_toArray, List.set_cons_zero, List.set_cons_succ]
                        refine' wpAnyH_take (i := 12) (oi := _) (v := _) ?hi64 (by kernel_rfl) (by kernel_rfl) (by kernel_rfl) ?hQ64 (Or.inl ⟨?hw64, ?hy64⟩) ?hT64 ?hh64
                        case hi64 => (simp only [List.getElem?_toArray, List.getElem?_cons_succ, List.getElem?_cons_zero]; rfl)
                        case hQ64 => exact fun _ _ _ h => h
                        case hw64 => rfl
                        case hy64 => (intro V hSw; go_simp; (try with_reducible rfl))
                        case hT64 => assumption
                        case' hh64 => skip
                        try simp only [Act.put, List.setIfInBounds_toArray, List.set_cons_zero, List.set_cons_succ]
                        refine' wpAnyH_take (i := 13) (oi := _) (v := _) ?hi65 (by kernel_rfl) (by kernel_rfl) (by kernel_rfl) ?hQ65 (Or.inl ⟨?hw65, ?hy65⟩) ?hT65 ?hh65
                        case hi65 => (simp only [List.getElem?_toArray, List.getElem?_cons_succ, List.getElem?_cons_zero]; rfl)
                        case hQ65 => exact fun _ _ _ h => h
                        case hw65 => rfl
                        case hy65 => (intro V hSw; go_simp; (try with_reducible rfl))
                        case hT65 => assumption
                        case' hh65 => skip
                        try simp only [Act.put, List.setIfInBounds_toArray, List.set_cons_zero, List.set_cons_succ]
                        refine' wpAnyH_take (i := 14) (oi := _) (v := _) ?hi66 (by kernel_rfl) (by kernel_rfl) (by kernel_rfl) ?hQ66 (Or.inl ⟨?hw66, ?hy66⟩) ?hT66 ?hh66
                        case hi66 => (simp only [List.getElem?_toArray, List.getElem?_cons_succ, List.getElem?_cons_zero]; rfl)
                        case hQ66 => exact fun _ _ _ h => h
                        case hw66 => rfl
                        case hy66 => (intro V hSw; go_simp; (try with_reducible rfl))
                        case hT66 => assumption
                        case' hh66 => skip
                        try simp only [Act.put, List.setIfInBounds_toArray, List.set_cons_zero, List.set_cons_succ]
                        refine' wpAnyH_take (i := 15) (oi := _) (v := _) ?hi67 (by kernel_rfl) (by kernel_rfl) (by kernel_rfl) ?hQ67 (Or.inl ⟨?hw67, ?hy67⟩) ?hT67 ?hh67
                        case hi67 => (simp only [List.getElem?_toArray, List.getElem?_cons_succ, List.getElem?_cons_zero]; rfl)
                        case hQ67 => exact fun _ _ _ h => h
                        case hw67 => rfl
                        case hy67 => (intro V hSw; go_simp; (try with_reducible rfl))
                        case hT67 => assumption
                        case' hh67 => skip
                        try simp only [Act.put, List.setIfInBounds_toArray, List.set_cons_zero, List.set_cons_succ]
                        refine wpAnyH_ready (rs := [16]) (by kernel_rfl) (by simp) ?_
                        refine' AllReadyH.cons (o := _) ?ho68 (fun K hK => ?g68) ?s68
                        case ho68 => (simp only [List.getElem?_toArray, List.getElem?_cons_succ, List.getElem?_cons_zero]; rfl)
                        case g68 =>
                          rw [if_pos (by rfl)]
                          go_simp
                          have NB := Blk.new V3 35 #[.int .i64 0, .int .i64 0, .int .i64 0, .int .i64 0, .int .i64 0, .int .i64 0, .int .i64 0, .int .i64 0, .int .i64 0, .int .i64 0, .int .i64 0, .int .i64 0, .int .i64 0, .slice none 0 0, .int .i64 0, .int .i64 0, .int .i64 0, .int .i64 0, .int .i64 0]
                          have KN := S1.size
                          have NG := NG.below (b01 V3 (.cells #[.int .i64 0, .int .i64 0, .int .i64 0, .int .i64 0, .int .i64 0, .int .i64 0, .int .i64 0, .int .i64 0, .int .i64 0, .int .i64 0, .int .i64 0, .int .i64 0, .int .i64 0, .slice none 0 0, .int .i64 0, .int .i64 0, .int .i64 0, .int .i64 0, .int .i64 0] 35))
                          have WO := WO.below (b01 V3 (.cells #[.int .i64 0, .int .i64 0, .int .i64 0, .int .i64 0, .int .i64 0, .int .i64 0, .int .i64 0, .int .i64 0, .int .i64 0, .int .i64 0, .int .i64 0, .int .i64 0, .int .i64 0, .slice none 0 0, .int .i64 0, .int .i64 0, .int .i64 0, .int .i64 0, .int .i64 0] 35))
                          have MB := MB.alloc (.cells #[.int .i64 0, .int .i64 0, .int .i64 0, .int .i64 0, .int .i64 0, .int .i64 0, .int .i64 0, .int .i64 0, .int .i64 0, .int .i64 0, .int .i64 0, .int .i64 0, .int .i64 0, .slice none 0 0, .int .i64 0, .int .i64 0, .int .i64 0, .int .i64 0, .int .i64 0] 35)
                          have S1 := ba1 S1 (.cells #[.int .i64 0, .int .i64 0, .int .i64 0, .int .i64 0, .int .i64 0, .int .i64 0, .int .i64 0, .int .i64 0, .int .i64 0, .int .i64 0, .int .i64 0, .int .i64 0, .int .i64 0, .slice none 0 0, .int .i64 0, .int .i64 0, .int .i64 0, .int .i64 0, .int .i64 0] 35)
                          refine hK.out _ _ (HS.out _ S1) (fun hHeld => ?_)
                          clear hK K
                          try simp only [Act.put, List.setIfInBounds_toArray, List.set_cons_zero, List.set_cons_succ]
                          generalize V3.heap.size = kn at *
                          generalize V3.alloc (.cells #[.int .i64 0, .int .i64 0, .int .i64 0, .int .i64 0, .int .i64 0, .int .i64 0, .int .i64 0, .int .i64 0, .int .i64 0, .int .i64 0, .int .i64 0, .int .i64 0, .int .i64 0, .slice none 0 0, .int .i64 0, .int .i64 0, .int .i64 0, .int .i64 0, .int .i64 0] 35) = V4 at *
                          refine wpAnyH_ready (rs := [18]) (by kernel_rfl) (by simp) ?_
                          refine' AllReadyH.cons (o := _) ?ho69 (fun K hK => ?g69) ?s69
                          case ho69 => (simp only [List.getElem?_toArray, List.getElem?_cons_succ, List.getElem?_cons_zero]; rfl)
                          case s69 => exact AllReadyH.nil
                          case' g69 => skip
                          rw [if_pos (by rfl)]
                          refine wps_store _ _ _ rfl (cs' := rgc x9) rfl rfl NB rfl (by kernel_rfl) (by simp [Value.oneCell', rgc]) fun W2 D O => ?_
                          have bm2 := O.blk MB fun e => MB.ne_ NB (by decide) e
                          have S2 : Below w6.heap.size w6 W2 := below_only ((Only.of S1).trans_ (F := fun q => q = kn) O) (fun q hq => by have e : q = kn := hq; omega)
                          refine hK.out _ _ (HS.out _ S2) (fun hHeld => ?_)
                          clear hK K hHeld
                          try simp only [Act.put, List.setIfInBounds_toArray, List.set_cons_zero, List.set_cons_succ]
                          refine wpAnyH_ready (rs := [19]) (by kernel_rfl) (by simp) ?_
                          refine' AllReadyH.cons (o := _) ?ho70 (fun K hK => ?g70) ?s70
                          case ho70 => (simp only [List.getElem?_toArray, List.getElem?_cons_succ, List.getElem?_cons_zero]; rfl)
                          case s70 => exact AllReadyH.nil
                          case' g70 => skip
                          rw [if_pos (by rfl)]
                          refine wps_store _ _ _ rfl (cs' := mc m9) rfl rfl bm2 rfl (by kernel_rfl) (by simp [Value.oneCell', mc]) fun W3 D2 O2 => ?_
                          have hR := ro_fin S1 KN KM NB MB NG WO HD h9 D O D2 O2
                          refine hK.out _ _ (HS.out _ hR.bl) (fun hHeld => ?_)
                          clear hK K
                          try simp only [Act.put, List.setIfInBounds_toArray, List.set_cons_zero, List.set_cons_succ]
                          refine' wpAnyH_take (i := 20) (oi := _) (v := _) ?hi71 (by kernel_rfl) (by kernel_rfl) (by kernel_rfl) ?hQ71 (Or.inl ⟨?hw71, ?hy71⟩) ?hT71 ?hh71
                          case hi71 => (simp only [List.getElem?_toArray, List.getElem?_cons_succ, List.getElem?_cons_zero]; rfl)
                          case hQ71 => exact fun _ _ _ h => h
                          case hw71 => rfl
                          case hy71 => (intro V hSw; go_simp; (try with_reducible rfl))
                          case hT71 => assumption
                          case' hh71 => skip
                          try simp only [Act.put, List.setIfInBounds_toArray, List.set_cons_zero, List.set_cons_succ]
                          refine wpAnyH_done (by kernel_rfl) ?_ _
                          clear hHeld D O D2 O2 bm2 S2 NB MB NG WO HD h9 KN KM
                          go_wp2_with fail
                          go_meet
                          exact ⟨kn, km, m9, x9, rfl, rfl, rfl, hR⟩
                        exact AllReadyH.nil
                      refine' AllReadyH.cons (o := _) ?ho72 (fun K hK => ?g72) ?s72
                      case ho72 => (simp only [List.getElem?_toArray, List.getElem?_cons_succ, List.getElem?_cons_zero]; rfl)
                      case g72 =>
                        rw [if_pos (by rfl)]
                        go_simp
                        have NB := Blk.new V2 35 #[.int .i64 0, .int .i64 0, .int .i64 0, .int .i64 0, .int .i64 0, .int .i64 0, .int .i64 0, .int .i64 0, .int .i64 0, .int .i64 0, .int .i64 0, .int .i64 0, .int .i64 0, .slice none 0 0, .int .i64 0, .int .i64 0, .int .i64 0, .int .i64 0, .int .i64 0]
                        have KN := S1.size
                        have MB := MB.alloc (.cells #[.int .i64 0, .int .i64 0, .int .i64 0, .int .i64 0, .int .i64 0, .int .i64 0, .int .i64 0, .int .i64 0, .int .i64 0, .int .i64 0, .int .i64 0, .int .i64 0, .int .i64 0, .slice none 0 0, .int .i64 0, .int .i64 0, .int .i64 0, .int .i64 0, .int .i64 0] 35)
                        have S1 := ba1 S1 (.cells #[.int .i64 0, .int .i64 0, .int .i64 0, .int .i64 0, .int .i64 0, .int .i64 0, .int .i64 0, .int .i64 0, .int .i64 0, .int .i64 0, .int .i64 0, .int .i64 0, .int .i64 0, .slice none 0 0, .int .i64 0, .int .i64 0, .int .i64 0, .int .i64 0, .int .i64 0] 35)
                        refine hK.out _ _ (HS.out _ S1) (fun hHeld => ?_)
                        clear hK K
                        try simp only [Act.put, List.setIfInBounds_toArray, List.set_cons_zero, List.set_cons_succ]
                        generalize V2.heap.size = kn at *
                        generalize V2.alloc (.cells #[.int .i64 0, .int .i64 0, .int .i64 0, .int .i64 0, .int .i64 0, .int .i64 0, .int .i64 0, .int .i64 0, .int .i64 0, .int .i64 0, .int .i64 0, .int .i64 0, .int .i64 0, .slice none 0 0, .int .i64 0, .int .i64 0, .int .i64 0, .int .i64 0, .int .i64 0] 35) = V3 at *
                        refine wpAnyH_ready (rs := [11]) (by kernel_rfl) (by simp) ?_
                        refine' AllReadyH.cons (o := _) ?ho73 (fun K hK => ?g73) ?s73
                        case ho73 => (simp only [List.getElem?_toArray, List.getElem?_cons_succ, List.getElem?_cons_zero]; rfl)
                        case g73 =>
                          rw [if_pos (by rfl)]
                          go_simp
                          go_at_call 10
                          with_reducible refine (CO.out _ S1).mono ?_
                          rintro e V4 ⟨m9, x9, rfl, h9, NG⟩
                          have HD := d17_old HP6.out h9 KM MB.lt
                          have hb := h9.bl
                          have WO := h9.wo.less (Nat.zero_le _)
                          have S1 := bt S1 hb
                          have NB := NB.bel hb
                          have MB := MB.bel hb
                          clear hb
                          unfold MV.val
                          refine hK.out _ _ (HS.out _ S1) (fun hHeld => ?_)
                          clear hK K
                          try simp only [Act.put, List.setIfInBounds_toArray, List.set_cons_zero, List.set_cons_succ]
                          refine' wpAnyH_take (i := 12) (oi := _) (v := _) ?hi74 (by kernel_rfl) (by kernel_rfl) (by kernel_rfl) ?hQ74 (Or.inl ⟨?hw74, ?hy74⟩) ?hT74 ?hh74
                          case hi74 => (simp only [List.getElem?_toArray, List.getElem?_cons_succ, List.getElem?_cons_zero]; rfl)
                          case hQ74 => exact fun _ _ _ h => h
                          case hw74 => rfl
                          case hy74 => (intro V hSw; go_simp; (try with_reducible rfl))
                          case hT74 => assumption
                          case' hh74 => skip
                          try simp only [Act.put, List.setIfInBounds_toArray, List.set_cons_zero, List.set_cons_succ]
                          refine' wpAnyH_take (i := 13) (oi := _) (v := _) ?hi75 (by kernel_rfl) (by kernel_rfl) (by kernel_rfl) ?hQ75 (Or.inl ⟨?hw75, ?hy75⟩) ?hT75 ?hh75
                          case hi75 => (simp only [List.getElem?_toArray, List.getElem?_cons_succ, List.getElem?_cons_zero]; rfl)
                          case hQ75 => exact fun _ _ _ h => h
                          case hw75 => rfl
                          case hy75 => (intro V hSw; go_simp; (try with_reducible rfl))
                          case hT75 => assumption
                          case' hh75 => skip
                          try simp only [Act.put, List.setIfInBounds_toArray, List.set_cons_zero, List.set_cons_succ]
                          refine' wpAnyH_take (i := 14) (oi := _) (v := _) ?hi76 (by kernel_rfl) (by kernel_rfl) (by kernel_rfl) ?hQ76 (Or.inl ⟨?hw76, ?hy76⟩) ?hT76 ?hh76
                          case hi76 => (simp only [List.getElem?_toArray, List.getElem?_cons_succ, List.getElem?_cons_zero]; rfl)
                          case hQ76 => exact fun _ _ _ h => h
                          case hw76 => rfl
                          case hy76 => (intro V hSw; go_simp; (try with_reducible rfl))
                          case hT76 => assumption
                          case' hh76 => skip
                          try simp only [Act.put, List.setIfInBounds_toArray, List.set_cons_zero, List.set_cons_succ]
                          refine' wpAnyH_take (i := 15) (oi := _) (v := _) ?hi77 (by kernel_rfl) (by kernel_rfl) (by kernel_rfl) ?hQ77 (Or.inl ⟨?hw77, ?hy77⟩) ?hT77 ?hh77
                          case hi77 => (simp only [List.getElem?_toArray, List.getElem?_cons_succ, List.getElem?_cons_zero]; rfl)
                          case hQ77 => exact fun _ _ _ h => h
                          case hw77 => rfl
                          case hy77 => (intro V hSw; go_simp; (try with_reducible rfl))
                          case hT77 => assumption
                          case' hh77 => skip
                          try simp only [Act.put, List.setIfInBounds_toArray, List.set_cons_zero, List.set_cons_succ]
                          refine wpAnyH_ready (rs := [18]) (by kernel_rfl) (by simp) ?_
                          refine' AllReadyH.cons (o := _) ?ho78 (fun K hK => ?g78) ?s78
                          case ho78 => (simp only [List.getElem?_toArray, List.getElem?_cons_succ, List.getElem?_cons_zero]; rfl)
                          case s78 => exact AllReadyH.nil
                          case' g78 => skip
                          rw [if_pos (by rfl)]
                          refine wps_store _ _ _ rfl (cs' := rgc x9) rfl rfl NB rfl (by kernel_rfl) (by simp [Value.oneCell', rgc]) fun W2 D O => ?_
                          have bm2 := O.blk MB fun e => MB.ne_ NB (by decide) e
                          have S2 : Below w6.heap.size w6 W2 := below_only ((Only.of S1).trans_ (F := fun q => q = kn) O) (fun q hq => by have e : q = kn := hq; omega)
                          refine hK.out _ _ (HS.out _ S2) (fun hHeld => ?_)
                          clear hK K hHeld
                          try simp only [Act.put, List.setIfInBounds_toArray, List.set_cons_zero, List.set_cons_succ]
                          refine wpAnyH_ready (rs := [19]) (by kernel_rfl) (by simp) ?_
                          refine' AllReadyH.cons (o := _) ?ho79 (fun K hK => ?g79) ?s79
                          case ho79 => (simp only [List.getElem?_toArray, List.getElem?_cons_succ, List.getElem?_cons_zero]; rfl)
                          case s79 => exact AllReadyH.nil
                          case' g79 => skip
                          rw [if_pos (by rfl)]
                          refine wps_store _ _ _ rfl (cs' := mc m9) rfl rfl bm2 rfl (by kernel_rfl) (by simp [Value.oneCell', mc]) fun W3 D2 O2 => ?_
                          have hR := ro_fin S1 KN KM NB MB NG WO HD h9 D O D2 O2
                          refine hK.out _ _ (HS.out _ hR.bl) (fun hHeld => ?_)
                          clear hK K
                          try simp only [Act.put, List.setIfInBounds_toArray, List.set_cons_zero, List.set_cons_succ]
                          refine' wpAnyH_take (i := 20) (oi := _) (v := _) ?hi80 (by kernel_rfl) (by kernel_rfl) (by kernel_rfl) ?hQ80 (Or.inl ⟨?hw80, ?hy80⟩) ?hT80 ?hh80
                          case hi80 => (simp only [List.getElem?_toArray, List.getElem?_cons_succ, List.getElem?_cons_zero]; rfl)
                          case hQ80 => exact fun _ _ _ h => h
                          case hw80 => rfl
                          case hy80 => (intro V hSw; go_simp; (try with_reducible rfl))
                          case hT80 => assumption
                          case' hh80 => skip
                          try simp only [Act.put, List.setIfInBounds_toArray, List.set_cons_zero, List.set_cons_succ]
                          refine wpAnyH_done (by kernel_rfl) ?_ _
                          clear hHeld D O D2 O2 bm2 S2 NB MB NG WO HD h9 KN KM
                          go_wp2_with fail
                          go_meet
                          exact ⟨kn, km, m9, x9, rfl, rfl, rfl, hR⟩
                        exact AllReadyH.nil
                      exact AllReadyH.nil
                    exact AllReadyH.nil
                  refine' AllReadyH.cons (o := _) ?ho81 (fun K hK => ?g81) ?s81
                  case ho81 => (simp only [List.getElem?_toArray, List.getElem?_cons_succ, List.getElem?_cons_zero]; rfl)
                  case g81 =>
                    rw [if_pos (by rfl)]
                    go_simp
                    have NB := Blk.new Wd 35 #[.int .i64 0, .int .i64 0, .int .i64 0, .int .i64 0, .int .i64 0, .int .i64 0, .int .i64 0, .int .i64 0, .int .i64 0, .int .i64 0, .int .i64 0, .int .i64 0, .int .i64 0, .slice none 0 0, .int .i64 0, .int .i64 0, .int .i64 0, .int .i64 0, .int .i64 0]
                    have KN := S1.size
                    have S1 := ba1 S1 (.cells #[.int .i64 0, .int .i64 0, .int .i64 0, .int .i64 0, .int .i64 0, .int .i64 0, .int .i64 0, .int .i64 0, .int .i64 0, .int .i64 0, .int .i64 0, .int .i64 0, .int .i64 0, .slice none 0 0, .int .i64 0, .int .i64 0, .int .i64 0, .int .i64 0, .int .i64 0] 35)
                    refine hK.out _ _ (HS.out _ S1) (fun hHeld => ?_)
                    clear hK K
                    try simp only [Act.put, List.setIfInBounds_toArray, List.set_cons_zero, List.set_cons_succ]
                    generalize Wd.heap.size = kn at *
                    generalize Wd.alloc (.cells #[.int .i64 0, .int .i64 0, .int .i64 0, .int .i64 0, .int .i64 0, .int .i64 0, .int .i64 0, .int .i64 0, .int .i64 0, .int .i64 0, .int .i64 0, .int .i64 0, .int .i64 0, .slice none 0 0, .int .i64 0, .int .i64 0, .int .i64 0, .int .i64 0, .int .i64 0] 35) = V1 at *
                    refine wpAnyH_ready (rs := [6, 17]) (by kernel_rfl) (by simp) ?_
                    refine' AllReadyH.cons (o := _) ?ho82 (fun K hK => ?g82) ?s82
                    case ho82 => (simp only [List.getElem?_toArray, List.getElem?_cons_succ, List.getElem?_cons_zero]; rfl)
                    case g82 =>
                      rw [if_pos (by rfl)]
                      go_simp
                      go_at_call 11
                      with_reducible refine (CW.out _).mono ?_
                      rintro e V2 ⟨rfl, hb⟩
                      have S1 := bt S1 hb
                      have NB := NB.bel hb
                      clear hb
                      refine hK.out _ _ (HS.out _ S1) (fun hHeld => ?_)
                      clear hK K
                      try simp only [Act.put, List.setIfInBounds_toArray, List.set_cons_zero, List.set_cons_succ]
                      refine wpAnyH_ready (rs := [11, 17]) (by kernel_rfl) (by simp) ?_
                      refine' AllReadyH.cons (o := _) ?ho83 (fun K hK => ?g83) ?s83
                      case ho83 => (simp only [List.getElem?_toArray, List.getElem?_cons_succ, List.getElem?_cons_zero]; rfl)
                      case g83 =>
                        rw [if_pos (by rfl)]
                        go_simp
                        go_at_call 10
                        with_reducible refine (CO.out _ S1).mono ?_
                        rintro e V3 ⟨m9, x9, rfl, h9, NG⟩
                        have hb := h9.bl
                        have WO := h9.wo.less (Nat.zero_le _)
                        have S1 := bt S1 hb
                        have NB := NB.bel hb
                        clear hb
                        unfold MV.val
                        refine hK.out _ _ (HS.out _ S1) (fun hHeld => ?_)
                        clear hK K
                        try simp only [Act.put, List.setIfInBounds_toArray, List.set_cons_zero, List.set_cons_succ]
                        refine' wpAnyH_take (i := 12) (oi := _) (v := _) ?hi84 (by kernel_rfl) (by kernel_rfl) (by kernel_rfl) ?hQ84 (Or.inl ⟨?hw84, ?hy84⟩) ?hT84 ?hh84
                        case hi84 => (simp only [List.getElem?_toArray, List.getElem?_cons_succ, List.getElem?_cons_zero]; rfl)
                        case hQ84 => exact fun _ _ _ h => h
                        case hw84 => rfl
                        case hy84 => (intro V hSw; go_simp; (try with_reducible rfl))
                        case hT84 => assumption
                        case' hh84 => skip
                        try simp only [Act.put, List.setIfInBounds_toArray, List.set_cons_zero, List.set_cons_succ]
                        refine' wpAnyH_take (i := 13) (oi := _) (v := _) ?hi85 (by kernel_rfl) (by kernel_rfl) (by kernel_rfl) ?hQ85 (Or.inl ⟨?hw85, ?hy85⟩) ?hT85 ?hh85
                        case hi85 => (simp only [List.getElem?_toArray, List.getElem?_cons_succ, List.getElem?_cons_zero]; rfl)
                        case hQ85 => exact fun _ _ _ h => h
                        case hw85 => rfl
                        case hy85 => (intro V hSw; go_simp; (try with_reducible rfl))
                        case hT85 => assumption
                        case' hh85 => skip
                        try simp only [Act.put, List.setIfInBounds_toArray, List.set_cons_zero, List.set_cons_succ]
                        refine' wpAnyH_take (i := 14) (oi := _) (v := _) ?hi86 (by kernel_rfl) (by kernel_rfl) (by kernel_rfl) ?hQ86 (Or.inl ⟨?hw86, ?hy86⟩) ?hT86 ?hh86
                        case hi86 => (simp only [List.getElem?_toArray, List.getElem?_cons_succ, List.getElem?_cons_zero]; rfl)
                        case hQ86 => exact fun _ _ _ h => h
                        case hw86 => rfl
                        case hy86 => (intro V hSw; go_simp; (try with_reducible rfl))
                        case hT86 => assumption
                        case' hh86 => skip
                        try simp only [Act.put, List.setIfInBounds_toArray, List.set_cons_zero, List.set_cons_succ]
                        refine' wpAnyH_take (i := 15) (oi := _) (v := _) ?hi87 (by kernel_rfl) (by kernel_rfl) (by kernel_rfl) ?hQ87 (Or.inl ⟨?hw87, ?hy87⟩) ?hT87 ?hh87
                        case hi87 => (simp only [List.getElem?_toArray, List.getElem?_cons_succ, List.getElem?_cons_zero]; rfl)
                        case hQ87 => exact fun _ _ _ h => h
                        case hw87 => rfl
                        case hy87 => (intro V hSw; go_simp; (try with_reducible rfl))
                        case hT87 => assumption
                        case' hh87 => skip
                        try simp only [Act.put, List.setIfInBounds_toArray, List.set_cons_zero, List.set_cons_succ]
                        refine wpAnyH_ready (rs := [17]) (by kernel_rfl) (by simp) ?_
                        refine' AllReadyH.cons (o := _) ?ho88 (fun K hK => ?g88) ?s88
                        case ho88 => (simp only [List.getElem?_toArray, List.getElem?_cons_succ, List.getElem?_cons_zero]; rfl)
                        case g88 =>
                          rw [if_pos (by rfl)]
                          go_simp
                          have MB := Blk.new V3 43 #[.slice none 0 0, .int .i64 0, .int .i64 0, .int .i64 0, .int .i64 0]
                          have KM := S1.size
                          have HD := d17_new NG
                          have NG := NG.below (b01 V3 (.cells #[.slice none 0 0, .int .i64 0, .int .i64 0, .int .i64 0, .int .i64 0] 43))
                          have WO := WO.below (b01 V3 (.cells #[.slice none 0 0, .int .i64 0, .int .i64 0, .int .i64 0, .int .i64 0] 43))
                          have NB := NB.alloc (.cells #[.slice none 0 0, .int .i64 0, .int .i64 0, .int .i64 0, .int .i64 0] 43)
                          have S1 := ba1 S1 (.cells #[.slice none 0 0, .int .i64 0, .int .i64 0, .int .i64 0, .int .i64 0] 43)
                          refine hK.out _ _ (HS.out _ S1) (fun hHeld => ?_)
                          clear hK K
                          try simp only [Act.put, List.setIfInBounds_toArray, List.set_cons_zero, List.set_cons_succ]
                          generalize V3.heap.size = km at *
                          generalize V3.alloc (.cells #[.slice none 0 0, .int .i64 0, .int .i64 0, .int .i64 0, .int .i64 0] 43) = V4 at *
                          refine wpAnyH_ready (rs := [18]) (by kernel_rfl) (by simp) ?_
                          refine' AllReadyH.cons (o := _) ?ho89 (fun K hK => ?g89) ?s89
                          case ho89 => (simp only [List.getElem?_toArray, List.getElem?_cons_succ, List.getElem?_cons_zero]; rfl)
                          case s89 => exact AllReadyH.nil
                          case' g89 => skip
                          rw [if_pos (by rfl)]
                          refine wps_store _ _ _ rfl (cs' := rgc x9) rfl rfl NB rfl (by kernel_rfl) (by simp [Value.oneCell', rgc]) fun W2 D O => ?_
                          have bm2 := O.blk MB fun e => MB.ne_ NB (by decide) e
                          have S2 : Below w6.heap.size w6 W2 := below_only ((Only.of S1).trans_ (F := fun q => q = kn) O) (fun q hq => by have e : q = kn := hq; omega)
                          refine hK.out _ _ (HS.out _ S2) (fun hHeld => ?_)
                          clear hK K hHeld
                          try simp only [Act.put, List.setIfInBounds_toArray, List.set_cons_zero, List.set_cons_succ]
                          refine wpAnyH_ready (rs := [19]) (by kernel_rfl) (by simp) ?_
                          refine' AllReadyH.cons (o := _) ?ho90 (fun K hK => ?g90) ?s90
                          case ho90 => (simp only [List.getElem?_toArray, List.getElem?_cons_succ, List.getElem?_cons_zero]; rfl)
                          case s90 => exact AllReadyH.nil
                          case' g90 => skip
                          rw [if_pos (by rfl)]
                          refine wps_store _ _ _ rfl (cs' := mc m9) rfl rfl bm2 rfl (by kernel_rfl) (by simp [Value.oneCell', mc]) fun W3 D2 O2 => ?_
                          have hR := ro_fin S1 KN KM NB MB NG WO HD h9 D O D2 O2
                          refine hK.out _ _ (HS.out _ hR.bl) (fun hHeld => ?_)
                          clear hK K
                          try simp only [Act.put, List.setIfInBounds_toArray, List.set_cons_zero, List.set_cons_succ]
                          refine' wpAnyH_take (i := 20) (oi := _) (v := _) ?hi91 (by kernel_rfl) (by kernel_rfl) (by kernel_rfl) ?hQ91 (Or.inl ⟨?hw91, ?hy91⟩) ?hT91 ?hh91
                          case hi91 => (simp only [List.getElem?_toArray, List.getElem?_cons_succ, List.getElem?_cons_zero]; rfl)
                          case hQ91 => exact fun _ _ _ h => h
                          case hw91 => rfl
                          case hy91 => (intro V hSw; go_simp; (try with_reducible rfl))
                          case hT91 => assumption
                          case' hh91 => skip
                          try simp only [Act.put, List.setIfInBounds_toArray, List.set_cons_zero, List.set_cons_succ]
                          refine wpAnyH_done (by kernel_rfl) ?_ _
                          clear hHeld D O D2 O2 bm2 S2 NB MB NG WO HD h9 KN KM
                          go_wp2_with fail
                          go_meet
                          exact ⟨kn, km, m9, x9, rfl, rfl, rfl, hR⟩
                        exact AllReadyH.nil
                      refine' AllReadyH.cons (o := _) ?ho92 (fun K hK => ?g92) ?s92
                      case ho92 => (simp only [List.getElem?_toArray, List.getElem?_cons_succ, List.getElem?_cons_zero]; rfl)
                      case g92 =>
                        rw [if_pos (by rfl)]
                        go_simp
                        have MB := Blk.new V2 43 #[.slice none 0 0, .int .i64 0, .int .i64 0, .int .i64 0, .int .i64 0]
                        have KM := S1.size
                        have NB := NB.alloc (.cells #[.slice none 0 0, .int .i64 0, .int .i64 0, .int .i64 0, .int .i64 0] 43)
                        have S1 := ba1 S1 (.cells #[.slice none 0 0, .int .i64 0, .int .i64 0, .int .i64 0, .int .i64 0] 43)
                        refine hK.out _ _ (HS.out _ S1) (fun hHeld => ?_)
                        clear hK K
                        try simp only [Act.put, List.setIfInBounds_toArray, List.set_cons_zero, List.set_cons_succ]
                        generalize V2.heap.size = km at *
                        generalize V2.alloc (.cells #[.slice none 0 0, .int .i64 0, .int .i64 0, .int .i64 0, .int .i64 0] 43) = V3 at *
                        refine wpAnyH_ready (rs := [11]) (by kernel_rfl) (by simp) ?_
                        refine' AllReadyH.cons (o := _) ?ho93 (fun K hK => ?g93) ?s93
                        case ho93 => (simp only [List.getElem?_toArray, List.getElem?_cons_succ, List.getElem?_cons_zero]; rfl)
                        case g93 =>
                          rw [if_pos (by rfl)]
                          go_simp
                          go_at_call 10
                          with_reducible refine (CO.out _ S1).mono ?_
                          rintro e V4 ⟨m9, x9, rfl, h9, NG⟩
                          have HD := d17_old HP6.out h9 KM MB.lt
                          have hb := h9.bl
                          have WO := h9.wo.less (Nat.zero_le _)
                          have S1 := bt S1 hb
                          have NB := NB.bel hb
                          have MB := MB.bel hb
                          clear hb
                          unfold MV.val
                          refine hK.out _ _ (HS.out _ S1) (fun hHeld => ?_)
                          clear hK K
                          try simp only [Act.put, List.setIfInBounds_toArray, List.set_cons_zero, List.set_cons_succ]
                          refine' wpAnyH_take (i := 12) (oi := _) (v := _) ?hi94 (by kernel_rfl) (by kernel_rfl) (by kernel_rfl) ?hQ94 (Or.inl ⟨?hw94, ?hy94⟩) ?hT94 ?hh94
                          case hi94 => (simp only [List.getElem?_toArray, List.getElem?_cons_succ, List.getElem?_cons_zero]; rfl)
                          case hQ94 => exact fun _ _ _ h => h
                          case hw94 => rfl
                          case hy94 => (intro V hSw; go_simp; (try with_reducible rfl))
                          case hT94 => assumption
                          case' hh94 => skip
                          try simp only [Act.put, List.setIfInBounds_toArray, List.set_cons_zero, List.set_cons_succ]
                          refine' wpAnyH_take (i := 13) (oi := _) (v := _) ?hi95 (by kernel_rfl) (by kernel_rfl) (by kernel_rfl) ?hQ95 (Or.inl ⟨?hw95, ?hy95⟩) ?hT95 ?hh95
                          case hi95 => (simp only [List.getElem?_toArray, List.getElem?_cons_succ, List.getElem?_cons_zero]; rfl)
                          case hQ95 => exact fun _ _ _ h => h
                          case hw95 => rfl
                          case hy95 => (intro V hSw; go_simp; (try with_reducible rfl))
                          case hT95 => assumption
                          case' hh95 => skip
                          try simp only [Act.put, List.setIfInBounds_toArray, List.set_cons_zero, List.set_cons_succ]
                          refine' wpAnyH_take (i := 14) (oi := _) (v := _) ?hi96 (by kernel_rfl) (by kernel_rfl) (by kernel_rfl) ?hQ96 (Or.inl ⟨?hw96, ?hy96⟩) ?hT96 ?hh96
                          case hi96 => (simp only [List.getElem?_toArray, List.getElem?_cons_succ, List.getElem?_cons_zero]; rfl)
                          case hQ96 => exact fun _ _ _ h => h
                          case hw96 => rfl
                          case hy96 => (intro V hSw; go_simp; (try with_reducible rfl))
                          case hT96 => assumption
                          case' hh96 => skip
                          try simp only [Act.put, List.setIfInBounds_toArray, List.set_cons_zero, List.set_cons_succ]
                          refine' wpAnyH_take (i := 15) (oi := _) (v := _) ?hi97 (by kernel_rfl) (by kernel_rfl) (by kernel_rfl) ?hQ97 (Or.inl ⟨?hw97, ?hy97⟩) ?hT97 ?hh97
                          case hi97 => (simp only [List.getElem?_toArray, List.getElem?_cons_succ, List.getElem?_cons_zero]; rfl)
                          case hQ97 => exact fun _ _ _ h => h
                          case hw97 => rfl
                          case hy97 => (intro V hSw; go_simp; (try with_reducible rfl))
                          case hT97 => assumption
                          case' hh97 => skip
                          try simp only [Act.put, List.setIfInBounds_toArray, List.set_cons_zero, List.set_cons_succ]
                          refine wpAnyH_ready (rs := [18]) (by kernel_rfl) (by simp) ?_
                          refine' AllReadyH.cons (o := _) ?ho98 (fun K hK => ?g98) ?s98
                          case ho98 => (simp only [List.getElem?_toArray, List.getElem?_cons_succ, List.getElem?_cons_zero]; rfl)
                          case s98 => exact AllReadyH.nil
                          case' g98 => skip
                          rw [if_pos (by rfl)]
                          refine wps_store _ _ _ rfl (cs' := rgc x9) rfl rfl NB rfl (by kernel_rfl) (by simp [Value.oneCell', rgc]) fun W2 D O => ?_
                          have bm2 := O.blk MB fun e => MB.ne_ NB (by decide) e
                          have S2 : Below w6.heap.size w6 W2 := below_only ((Only.of S1).trans_ (F := fun q => q = kn) O) (fun q hq => by have e : q = kn := hq; omega)
                          refine hK.out _ _ (HS.out _ S2) (fun hHeld => ?_)
                          clear hK K hHeld
                          try simp only [Act.put, List.setIfInBounds_toArray, List.set_cons_zero, List.set_cons_succ]
                          refine wpAnyH_ready (rs := [19]) (by kernel_rfl) (by simp) ?_
                          refine' AllReadyH.cons (o := _) ?ho99 (fun K hK => ?g99) ?s99
                          case ho99 => (simp only [List.getElem?_toArray, List.getElem?_cons_succ, List.getElem?_cons_zero]; rfl)
                          case s99 => exact AllReadyH.nil
                          case' g99 => skip
                          rw [if_pos (by rfl)]
                          refine wps_store _ _ _ rfl (cs' := mc m9) rfl rfl bm2 rfl (by kernel_rfl) (by simp [Value.oneCell', mc]) fun W3 D2 O2 => ?_
                          have hR := ro_fin S1 KN KM NB MB NG WO HD h9 D O D2 O2
                          refine hK.out _ _ (HS.out _ hR.bl) (fun hHeld => ?_)
                          clear hK K
                          try simp only [Act.put, List.setIfInBounds_toArray, List.set_cons_zero, List.set_cons_succ]
                          refine' wpAnyH_take (i := 20) (oi := _) (v := _) ?hi100 (by kernel_rfl) (by kernel_rfl) (by kernel_rfl) ?hQ100 (Or.inl ⟨?hw100, ?hy100⟩) ?hT100 ?hh100
                          case hi100 => (simp only [List.getElem?_toArray, List.getElem?_cons_succ, List.getElem?_cons_zero]; rfl)
                          case hQ100 => exact fun _ _ _ h => h
                          case hw100 => rfl
                          case hy100 => (intro V hSw; go_simp; (try with_reducible rfl))
                          case hT100 => assumption
                          case' hh100 => skip
                          try simp only [Act.put, List.setIfInBounds_toArray, List.set_cons_zero, List.set_cons_succ]
                          refine wpAnyH_done (by kernel_rfl) ?_ _
                          clear hHeld D O D2 O2 bm2 S2 NB MB NG WO HD h9 KN KM
                          go_wp2_with fail
                          go_meet
                          exact ⟨kn, km, m9, x9, rfl, rfl, rfl, hR⟩
                        exact AllReadyH.nil
                      exact AllReadyH.nil
                    refine' AllReadyH.cons (o := _) ?ho101 (fun K hK => ?g101) ?s101
                    case ho101 => (simp only [List.getElem?_toArray, List.getElem?_cons_succ, List.getElem?_cons_zero]; rfl)
                    case g101 =>
                      rw [if_pos (by rfl)]
                      go_simp
                      have MB := Blk.new V1 43 #[.slice none 0 0, .int .i64 0, .int .i64 0, .int .i64 0, .int .i64 0]
                      have KM := S1.size
                      have NB := NB.alloc (.cells #[.slice none 0 0, .int .i64 0, .int .i64 0, .int .i64 0, .int .i64 0] 43)
                      have S1 := ba1 S1 (.cells #[.slice none 0 0, .int .i64 0, .int .i64 0, .int .i64 0, .int .i64 0] 43)
                      refine hK.out _ _ (HS.out _ S1) (fun hHeld => ?_)
                      clear hK K
                      try simp only [Act.put, List.setIfInBounds_toArray, List.set_cons_zero, List.set_cons_succ]
                      generalize V1.heap.size = km at *
                      generalize V1.alloc (.cells #[.slice none 0 0, .int .i64 0, .int .i64 0, .int .i64 0, .int .i64 0] 43) = V2 at *
                      refine wpAnyH_ready (rs := [6]) (by kernel_rfl) (by simp) ?_
                      refine' AllReadyH.cons (o := _) ?ho102 (fun K hK => ?g102) ?s102
                      case ho102 => (simp only [List.getElem?_toArray, List.getElem?_cons_succ, List.getElem?_cons_zero]; rfl)
                      case g102 =>
                        rw [if_pos (by rfl)]
                        go_simp
                        go_at_call 11
                        with_reducible refine (CW.out _).mono ?_
                        rintro e V3 ⟨rfl, hb⟩
                        have S1 := bt S1 hb
                        have NB := NB.bel hb
                        have MB := MB.bel hb
                        clear hb
                        refine hK.out _ _ (HS.out _ S1) (fun hHeld => ?_)
                        clear hK K
                        try simp only [Act.put, List.setIfInBounds_toArray, List.set_cons_zero, List.set_cons_succ]
                        refine wpAnyH_ready (rs := [11]) (by kernel_rfl) (by simp) ?_
                        refine' AllReadyH.cons (o := _) ?ho103 (fun K hK => ?g103) ?s103
                        case ho103 => (simp only [List.getElem?_toArray, List.getElem?_cons_succ, List.getElem?_cons_zero]; rfl)
                        case g103 =>
                          rw [if_pos (by rfl)]
                          go_simp
                          go_at_call 10
                          with_reducible refine (CO.out _ S1).mono ?_
                          rintro e V4 ⟨m9, x9, rfl, h9, NG⟩
                          have HD := d17_old HP6.out h9 KM MB.lt
                          have hb := h9.bl
                          have WO := h9.wo.less (Nat.zero_le _)
                          have S1 := bt S1 hb
                          have NB := NB.bel hb
                          have MB := MB.bel hb
                          clear hb
                          unfold MV.val
                          refine hK.out _ _ (HS.out _ S1) (fun hHeld => ?_)
                          clear hK K
                          try simp only [Act.put, List.setIfInBounds_toArray, List.set_cons_zero, List.set_cons_succ]
                          refine' wpAnyH_take (i := 12) (oi := _) (v := _) ?hi104 (by kernel_rfl) (by kernel_rfl) (by kernel_rfl) ?hQ104 (Or.inl ⟨?hw104, ?hy104⟩) ?hT104 ?hh104
                          case hi104 => (simp only [List.getElem?_toArray, List.getElem?_cons_succ, List.getElem?_cons_zero]; rfl)
                          case hQ104 => exact fun _ _ _ h => h
                          case hw104 => rfl
                          case hy104 => (intro V hSw; go_simp; (try with_reducible rfl))
                          case hT104 => assumption
                          case' hh104 => skip
                          try simp only [Act.put, List.setIfInBounds_toArray, List.set_cons_zero, List.set_cons_succ]
                          refine' wpAnyH_take (i := 13) (oi := _) (v := _) ?hi105 (by kernel_rfl) (by kernel_rfl) (by kernel_rfl) ?hQ105 (Or.inl ⟨?hw105, ?hy105⟩) ?hT105 ?hh105
                          case hi105 => (simp only [List.getElem?_toArray, List.getElem?_cons_succ, List.getElem?_cons_zero]; rfl)
                          case hQ105 => exact fun _ _ _ h => h
                          case hw105 => rfl
                          case hy105 => (intro V hSw; go_simp; (try with_reducible rfl))
                          case hT105 => assumption
                          case' hh105 => skip
                          try simp only [Act.put, List.setIfInBounds_toArray, List.set_cons_zero, List.set_cons_succ]
                          refine' wpAnyH_take (i := 14) (oi := _) (v := _) ?hi106 (by kernel_rfl) (by kernel_rfl) (by kernel_rfl) ?hQ106 (Or.inl ⟨?hw106, ?hy106⟩) ?hT106 ?hh106
                          case hi106 => (simp only [List.getElem?_toArray, List.getElem?_cons_succ, List.getElem?_cons_zero]; rfl)
                          case hQ106 => exact fun _ _ _ h => h
                          case hw106 => rfl
                          case hy106 => (intro V hSw; go_simp; (try with_reducible rfl))
                          case hT106 => assumption
                          case' hh106 => skip
                          try simp only [Act.put, List.setIfInBounds_toArray, List.set_cons_zero, List.set_cons_succ]
                          refine' wpAnyH_take (i := 15) (oi := _) (v := _) ?hi107 (by kernel_rfl) (by kernel_rfl) (by kernel_rfl) ?hQ107 (Or.inl ⟨?hw107, ?hy107⟩) ?hT107 ?hh107
                          case hi107 => (simp only [List.getElem?_toArray, List.getElem?_cons_succ, List.getElem?_cons_zero]; rfl)
                          case hQ107 => exact fun _ _ _ h => h
                          case hw107 => rfl
                          case hy107 => (intro V hSw; go_simp; (try with_reducible rfl))
                          case hT107 => assumption
                          case' hh107 => skip
                          try simp only [Act.put, List.setIfInBounds_toArray, List.set_cons_zero, List.set_cons_succ]
                          refine wpAnyH_ready (rs := [18]) (by kernel_rfl) (by simp) ?_
                          refine' AllReadyH.cons (o := _) ?ho108 (fun K hK => ?g108) ?s108
                          case ho108 => (simp only [List.getElem?_toArray, List.getElem?_cons_succ, List.getElem?_cons_zero]; rfl)
                          case s108 => exact AllReadyH.nil
                          case' g108 => skip
                          rw [if_pos (by rfl)]
                          refine wps_store _ _ _ rfl (cs' := rgc x9) rfl rfl NB rfl (by kernel_rfl) (by simp [Value.oneCell', rgc]) fun W2 D O => ?_
                          have bm2 := O.blk MB fun e => MB.ne_ NB (by decide) e
                          have S2 : Below w6.heap.size w6 W2 := below_only ((Only.of S1).trans_ (F := fun q => q = kn) O) (fun q hq => by have e : q = kn := hq; omega)
                          refine hK.out _ _ (HS.out _ S2) (fun hHeld => ?_)
                          clear hK K hHeld
                          try simp only [Act.put, List.setIfInBounds_toArray, List.set_cons_zero, List.set_cons_succ]
                          refine wpAnyH_ready (rs := [19]) (by kernel_rfl) (by simp) ?_
                          refine' AllReadyH.cons (o := _) ?ho109 (fun K hK => ?g109) ?s109
                          case ho109 => (simp only [List.getElem?_toArray, List.getElem?_cons_succ, List.getElem?_cons_zero]; rfl)
                          case s109 => exact AllReadyH.nil
                          case' g109 => skip
                          rw [if_pos (by rfl)]
                          refine wps_store _ _ _ rfl (cs' := mc m9) rfl rfl bm2 rfl (by kernel_rfl) (by simp [Value.oneCell', mc]) fun W3 D2 O2 => ?_
                          have hR := ro_fin S1 KN KM NB MB NG WO HD h9 D O D2 O2
                          refine hK.out _ _ (HS.out _ hR.bl) (fun hHeld => ?_)
                          clear hK K
                          try simp only [Act.put, List.setIfInBounds_toArray, List.set_cons_zero, List.set_cons_succ]
                          refine' wpAnyH_take (i := 20) (oi := _) (v := _) ?hi110 (by kernel_rfl) (by kernel_rfl) (by kernel_rfl) ?hQ110 (Or.inl ⟨?hw110, ?hy110⟩) ?hT110 ?hh110
                          case hi110 => (simp only [List.getElem?_toArray, List.getElem?_cons_succ, List.getElem?_cons_zero]; rfl)
                          case hQ110 => exact fun _ _ _ h => h
                          case hw110 => rfl
                          case hy110 => (intro V hSw; go_simp; (try with_reducible rfl))
                          case hT110 => assumption
                          case' hh110 => skip
                          try simp only [Act.put, List.setIfInBounds_toArray, List.set_cons_zero, List.set_cons_succ]
                          refine wpAnyH_done (by kernel_rfl) ?_ _
                          clear hHeld D O D2 O2 bm2 S2 NB MB NG WO HD h9 KN KM
                          go_wp2_with fail
                          go_meet
                          exact ⟨kn, km, m9, x9, rfl, rfl, rfl, hR⟩
                        exact AllReadyH.nil
                      exact AllReadyH.nil
                    exact AllReadyH.nil
                  refine' AllReadyH.cons (o := _) ?ho111 (fun K hK => ?g111) ?s111
                  case ho111 => (simp only [List.getElem?_toArray, List.getElem?_cons_succ, List.getElem?_cons_zero]; rfl)
                  case g111 =>
                    rw [if_pos (by rfl)]
                    go_simp
                    have MB := Blk.new Wd 43 #[.slice none 0 0, .int .i64 0, .int .i64 0, .int .i64 0, .int .i64 0]
                    have KM := S1.size
                    have S1 := ba1 S1 (.cells #[.slice none 0 0, .int .i64 0, .int .i64 0, .int .i64 0, .int .i64 0] 43)
                    refine hK.out _ _ (HS.out _ S1) (fun hHeld => ?_)
                    clear hK K
                    try simp only [Act.put, List.setIfInBounds_toArray, List.set_cons_zero, List.set_cons_succ]
                    generalize Wd.heap.size = km at *
                    generalize Wd.alloc (.cells #[.slice none 0 0, .int .i64 0, .int .i64 0, .int .i64 0, .int .i64 0] 43) = V1 at *
                    refine wpAnyH_ready (rs := [6, 16]) (by kernel_rfl) (by simp) ?_
                    refine' AllReadyH.cons (o := _) ?ho112 (fun K hK => ?g112) ?s112
                    case ho112 => (simp only [List.getElem?_toArray, List.getElem?_cons_succ, List.getElem?_cons_zero]; rfl)
                    case g112 =>
                      rw [if_pos (by rfl)]
                      go_simp
                      go_at_call 11
                      with_reducible refine (CW.out _).mono ?_
                      rintro e V2 ⟨rfl, hb⟩
                      have S1 := bt S1 hb
                      have MB := MB.bel hb
                      clear hb
                      refine hK.out _ _ (HS.out _ S1) (fun hHeld => ?_)
                      clear hK K
                      try simp only [Act.put, List.setIfInBounds_toArray, List.set_cons_zero, List.set_cons_succ]
                      refine wpAnyH_ready (rs := [11, 16]) (by kernel_rfl) (by simp) ?_
                      refine' AllReadyH.cons (o := _) ?ho113 (fun K hK => ?g113) ?s113
                      case ho113 => (simp only [List.getElem?_toArray, List.getElem?_cons_succ, List.getElem?_cons_zero]; rfl)
                      case g113 =>
                        rw [if_pos (by rfl)]
                        go_simp
                        go_at_call 10
                        with_reducible refine (CO.out _ S1).mono ?_
                        rintro e V3 ⟨m9, x9, rfl, h9, NG⟩
                        have HD := d17_old HP6.out h9 KM MB.lt
                        have hb := h9.bl
                        have WO := h9.wo.less (Nat.zero_le _)
                        have S1 := bt S1 hb
                        have MB := MB.bel hb
                        clear hb
                        unfold MV.val
                        refine hK.out _ _ (HS.out _ S1) (fun hHeld => ?_)
                        clear hK K
                        try simp only [Act.put, List.setIfInBounds_toArray, List.set_cons_zero, List.set_cons_succ]
                        refine' wpAnyH_take (i := 12) (oi := _) (v := _) ?hi114 (by kernel_rfl) (by kernel_rfl) (by kernel_rfl) ?hQ114 (Or.inl ⟨?hw114, ?hy114⟩) ?hT114 ?hh114
                        case hi114 => (simp only [List.getElem?_toArray, List.getElem?_cons_succ, List.getElem?_cons_zero]; rfl)
                        case hQ114 => exact fun _ _ _ h => h
                        case hw114 => rfl
                        case hy114 => (intro V hSw; go_simp; (try with_reducible rfl))
                        case hT114 => assumption
                        case' hh114 => skip
                        try simp only [Act.put, List.setIfInBounds_toArray, List.set_cons_zero, List.set_cons_succ]
                        refine' wpAnyH_take (i := 13) (oi := _) (v := _) ?hi115 (by kernel_rfl) (by kernel_rfl) (by kernel_rfl) ?hQ115 (Or.inl ⟨?hw115, ?hy115⟩) ?hT115 ?hh115
                        case hi115 => (simp only [List.getElem?_toArray, List.getElem?_cons_succ, List.getElem?_cons_zero]; rfl)
                        case hQ115 => exact fun _ _ _ h => h
                        case hw115 => rfl
                        case hy115 => (intro V hSw; go_simp; (try with_reducible rfl))
                        case hT115 => assumption
                        case' hh115 => skip
                        try simp only [Act.put, List.setIfInBounds_toArray, List.set_cons_zero, List.set_cons_succ]
                        refine' wpAnyH_take (i := 14) (oi := _) (v := _) ?hi116 (by kernel_rfl) (by kernel_rfl) (by kernel_rfl) ?hQ116 (Or.inl ⟨?hw116, ?hy116⟩) ?hT116 ?hh116
                        case hi116 => (simp only [List.getElem?_toArray, List.getElem?_cons_succ, List.getElem?_cons_zero]; rfl)
                        case hQ116 => exact fun _ _ _ h => h
                        case hw116 => rfl
                        case hy116 => (intro V hSw; go_simp; (try with_reducible rfl))
                        case hT116 => assumption
                        case' hh116 => skip
                        try simp only [Act.put, List.setIfInBounds_toArray, List.set_cons_zero, List.set_cons_succ]
                        refine' wpAnyH_take (i := 15) (oi := _) (v := _) ?hi117 (by kernel_rfl) (by kernel_rfl) (by kernel_rfl) ?hQ117 (Or.inl ⟨?hw117, ?hy117⟩) ?hT117 ?hh117
                        case hi117 => (simp only [List.getElem?_toArray, List.getElem?_cons_succ, List.getElem?_cons_zero]; rfl)
                        case hQ117 => exact fun _ _ _ h => h
                        case hw117 => rfl
                        case hy117 => (intro V hSw; go_simp; (try with_reducible rfl))
                        case hT117 => assumption
                        case' hh117 => skip
                        try simp only [Act.put, List.setIfInBounds_toArray, List.set_cons_zero, List.set_cons_succ]
                        refine wpAnyH_ready (rs := [16]) (by kernel_rfl) (by simp) ?_
                        refine' AllReadyH.cons (o := _) ?ho118 (fun K hK => ?g118) ?s118
                        case ho118 => (simp only [List.getElem?_toArray, List.getElem?_cons_succ, List.getElem?_cons_zero]; rfl)
                        case g118 =>
                          rw [if_pos (by rfl)]
                          go_simp
                          have NB := Blk.new V3 35 #[.int .i64 0, .int .i64 0, .int .i64 0, .int .i64 0, .int .i64 0, .int .i64 0, .int .i64 0, .int .i64 0, .int .i64 0, .int .i64 0, .int .i64 0, .int .i64 0, .int .i64 0, .slice none 0 0, .int .i64 0, .int .i64 0, .int .i64 0, .int .i64 0, .int .i64 0]
                          have KN := S1.size
                          have NG := NG.below (b01 V3 (.cells #[.int .i64 0, .int .i64 0, .int .i64 0, .int .i64 0, .int .i64 0, .int .i64 0, .int .i64 0, .int .i64 0, .int .i64 0, .int .i64 0, .int .i64 0, .int .i64 0, .int .i64 0, .slice none 0 0, .int .i64 0, .int .i64 0, .int .i64 0, .int .i64 0, .int .i64 0] 35))
                          have WO := WO.below (b01 V3 (.cells #[.int .i64 0, .int .i64 0, .int .i64 0, .int .i64 0, .int .i64 0, .int .i64 0, .int .i64 0, .int .i64 0, .int .i64 0, .int .i64 0, .int .i64 0, .int .i64 0, .int .i64 0, .slice none 0 0, .int .i64 0, .int .i64 0, .int .i64 0, .int .i64 0, .int .i64 0] 35))
                          have MB := MB.alloc (.cells #[.int .i64 0, .int .i64 0, .int .i64 0, .int .i64 0, .int .i64 0, .int .i64 0, .int .i64 0, .int .i64 0, .int .i64 0, .int .i64 0, .int .i64 0, .int .i64 0, .int .i64 0, .slice none 0 0, .int .i64 0, .int .i64 0, .int .i64 0, .int .i64 0, .int .i64 0] 35)
                          have S1 := ba1 S1 (.cells #[.int .i64 0, .int .i64 0, .int .i64 0, .int .i64 0, .int .i64 0, .int .i64 0, .int .i64 0, .int .i64 0, .int .i64 0, .int .i64 0, .int .i64 0, .int .i64 0, .int .i64 0, .slice none 0 0, .int .i64 0, .int .i64 0, .int .i64 0, .int .i64 0, .int .i64 0] 35)
                          refine hK.out _ _ (HS.out _ S1) (fun hHeld => ?_)
                          clear hK K
                          try simp only [Act.put, List.setIfInBounds_toArray, List.set_cons_zero, List.set_cons_succ]
                          generalize V3.heap.size = kn at *
                          generalize V3.alloc (.cells #[.int .i64 0, .int .i64 0, .int .i64 0, .int .i64 0, .int .i64 0, .int .i64 0, .int .i64 0, .int .i64 0, .int .i64 0, .int .i64 0, .int .i64 0, .int .i64 0, .int .i64 0, .slice none 0 0, .int .i64 0, .int .i64 0, .int .i64 0, .int .i64 0, .int .i64 0] 35) = V4 at *
                          refine wpAnyH_ready (rs := [18]) (by kernel_rfl) (by simp) ?_
                          refine' AllReadyH.cons (o := _) ?ho119 (fun K hK => ?g119) ?s119
                          case ho119 => (simp only [List.getElem?_toArray, List.getElem?_cons_succ, List.getElem?_cons_zero]; rfl)
                          case s119 => exact AllReadyH.nil
                          case' g119 => skip
                          rw [if_pos (by rfl)]
                          refine wps_store _ _ _ rfl (cs' := rgc x9) rfl rfl NB rfl (by kernel_rfl) (by simp [Value.oneCell', rgc]) fun W2 D O => ?_
                          have bm2 := O.blk MB fun e => MB.ne_ NB (by decide) e
                          have S2 : Below w6.heap.size w6 W2 := below_only ((Only.of S1).trans_ (F := fun q => q = kn) O) (fun q hq => by have e : q = kn := hq; omega)
                          refine hK.out _ _ (HS.out _ S2) (fun hHeld => ?_)
                          clear hK K hHeld
                          try simp only [Act.put, List.setIfInBounds_toArray, List.set_cons_zero, List.set_cons_succ]
                          refine wpAnyH_ready (rs := [19]) (by kernel_rfl) (by simp) ?_
                          refine' AllReadyH.cons (o := _) ?ho120 (fun K hK => ?g120) ?s120
                          case ho120 => (simp only [List.getElem?_toArray, List.getElem?_cons_succ, List.getElem?_cons_zero]; rfl)
                          case s120 => exact AllReadyH.nil
                          case' g120 => skip
                          rw [if_pos (by rfl)]
                          refine wps_store _ _ _ rfl (cs' := mc m9) rfl rfl bm2 rfl (by kernel_rfl) (by simp [Value.oneCell', mc]) fun W3 D2 O2 => ?_
                          have hR := ro_fin S1 KN KM NB MB NG WO HD h9 D O D2 O2
                          refine hK.out _ _ (HS.out _ hR.bl) (fun hHeld => ?_)
                          clear hK K
                          try simp only [Act.put, List.setIfInBounds_toArray, List.set_cons_zero, List.set_cons_succ]
                          refine' wpAnyH_take (i := 20) (oi := _) (v := _) ?hi121 (by kernel_rfl) (by kernel_rfl) (by kernel_rfl) ?hQ121 (Or.inl ⟨?hw121, ?hy121⟩) ?hT121 ?hh121
                          case hi121 => (simp only [List.getElem?_toArray, List.getElem?_cons_succ, List.getElem?_cons_zero]; rfl)
                          case hQ121 => exact fun _ _ _ h => h
                          case hw121 => rfl
                          case hy121 => (intro V hSw; go_simp; (try with_reducible rfl))
                          case hT121 => assumption
                          case' hh121 => skip
                          try simp only [Act.put, List.setIfInBounds_toArray, List.set_cons_zero, List.set_cons_succ]
                          refine wpAnyH_done (by kernel_rfl) ?_ _
                          clear hHeld D O D2 O2 bm2 S2 NB MB NG WO HD h9 KN KM
                          go_wp2_with fail
                          go_meet
                          exact ⟨kn, km, m9, x9, rfl, rfl, rfl, hR⟩
                        exact AllReadyH.nil
                      refine' AllReadyH.cons (o := _) ?ho122 (fun K hK => ?g122) ?s122
                      case ho122 => (simp only [List.getElem?_toArray, List.getElem?_cons_succ, List.getElem?_cons_zero]; rfl)
                      case g122 =>
                        rw [if_pos (by rfl)]
                        go_simp
                        have NB := Blk.new V2 35 #[.int .i64 0, .int .i64 0, .int .i64 0, .int .i64 0, .int .i64 0, .int .i64 0, .int .i64 0, .int .i64 0, .int .i64 0, .int .i64 0, .int .i64 0, .int .i64 0, .int .i64 0, .slice none 0 0, .int .i64 0, .int .i64 0, .int .i64 0, .int .i64 0, .int .i64 0]
                        have KN := S1.size
                        have MB := MB.alloc (.cells #[.int .i64 0, .int .i64 0, .int .i64 0, .int .i64 0, .int .i64 0, .int .i64 0, .int .i64 0, .int .i64 0, .int .i64 0, .int .i64 0, .int .i64 0, .int .i64 0, .int .i64 0, .slice none 0 0, .int .i64 0, .int .i64 0, .int .i64 0, .int .i64 0, .int .i64 0] 35)
                        have S1 := ba1 S1 (.cells #[.int .i64 0, .int .i64 0, .int .i64 0, .int .i64 0, .int .i64 0, .int .i64 0, .int .i64 0, .int .i64 0, .int .i64 0, .int .i64 0, .int .i64 0, .int .i64 0, .int .i64 0, .slice none 0 0, .int .i64 0, .int .i64 0, .int .i64 0, .int .i64 0, .int .i64 0] 35)
                        refine hK.out _ _ (HS.out _ S1) (fun hHeld => ?_)
                        clear hK K
                        try simp only [Act.put, List.setIfInBounds_toArray, List.set_cons_zero, List.set_cons_succ]
                        generalize V2.heap.size = kn at *
                        generalize V2.alloc (.cells #[.int .i64 0, .int .i64 0, .int .i64 0, .int .i64 0, .int .i64 0, .int .i64 0, .int .i64 0, .int .i64 0, .int .i64 0, .int .i64 0, .int .i64 0, .int .i64 0, .int .i64 0, .slice none 0 0, .int .i64 0, .int .i64 0, .int .i64 0, .int .i64 0, .int .i64 0] 35) = V3 at *
                        refine wpAnyH_ready (rs := [11]) (by kernel_rfl) (by simp) ?_
                        refine' AllReadyH.cons (o := _) ?ho123 (fun K hK => ?g123) ?s123
                        case ho123 => (simp only [List.getElem?_toArray, List.getElem?_cons_succ, List.getElem?_cons_zero]; rfl)
                        case g123 =>
                          rw [if_pos (by rfl)]
                          go_simp
                          go_at_call 10
                          with_reducible refine (CO.out _ S1).mono ?_
                          rintro e V4 ⟨m9, x9, rfl, h9, NG⟩
                          have HD := d17_old HP6.out h9 KM MB.lt
                          have hb := h9.bl
                          have WO := h9.wo.less (Nat.zero_le _)
                          have S1 := bt S1 hb
                          have NB := NB.bel hb
                          have MB := MB.bel hb
                          clear hb
                          unfold MV.val
                          refine hK.out _ _ (HS.out _ S1) (fun hHeld => ?_)
                          clear hK K
                          try simp only [Act.put, List.setIfInBounds_toArray, List.set_cons_zero, List.set_cons_succ]
                          refine' wpAnyH_take (i := 12) (oi := _) (v := _) ?hi124 (by kernel_rfl) (by kernel_rfl) (by kernel_rfl) ?hQ124 (Or.inl ⟨?hw124, ?hy124⟩) ?hT124 ?hh124
                          case hi124 => (simp only [List.getElem?_toArray, List.getElem?_cons_succ, List.getElem?_cons_zero]; rfl)
                          case hQ124 => exact fun _ _ _ h => h
                          case hw124 => rfl
                          case hy124 => (intro V hSw; go_simp; (try with_reducible rfl))
                          case hT124 => assumption
                          case' hh124 => skip
                          try simp only [Act.put, List.setIfInBounds_toArray, List.set_cons_zero, List.set_cons_succ]
                          refine' wpAnyH_take (i := 13) (oi := _) (v := _) ?hi125 (by kernel_rfl) (by kernel_rfl) (by kernel_rfl) ?hQ125 (Or.inl ⟨?hw125, ?hy125⟩) ?hT125 ?hh125
                          case hi125 => (simp only [List.getElem?_toArray, List.getElem?_cons_succ, List.getElem?_cons_zero]; rfl)
                          case hQ125 => exact fun _ _ _ h => h
                          case hw125 => rfl
                          case hy125 => (intro V hSw; go_simp; (try with_reducible rfl))
                          case hT125 => assumption
                          case' hh125 => skip
                          try simp only [Act.put, List.setIfInBounds_toArray, List.set_cons_zero, List.set_cons_succ]
                          refine' wpAnyH_take (i := 14) (oi := _) (v := _) ?hi126 (by kernel_rfl) (by kernel_rfl) (by kernel_rfl) ?hQ126 (Or.inl ⟨?hw126, ?hy126⟩) ?hT126 ?hh126
                          case hi126 => (simp only [List.getElem?_toArray, List.getElem?_cons_succ, List.getElem?_cons_zero]; rfl)
                          case hQ126 => exact fun _ _ _ h => h
                          case hw126 => rfl
                          case hy126 => (intro V hSw; go_simp; (try with_reducible rfl))
                          case hT126 => assumption
                          case' hh126 => skip
                          try simp only [Act.put, List.setIfInBounds_toArray, List.set_cons_zero, List.set_cons_succ]
                          refine' wpAnyH_take (i := 15) (oi := _) (v := _) ?hi127 (by kernel_rfl) (by kernel_rfl) (by kernel_rfl) ?hQ127 (Or.inl ⟨?hw127, ?hy127⟩) ?hT127 ?hh127
                          case hi127 => (simp only [List.getElem?_toArray, List.getElem?_cons_succ, List.getElem?_cons_zero]; rfl)
                          case hQ127 => exact fun _ _ _ h => h
                          case hw127 => rfl
                          case hy127 => (intro V hSw; go_simp; (try with_reducible rfl))
                          case hT127 => assumption
                          case' hh127 => skip
                          try simp only [Act.put, List.setIfInBounds_toArray, List.set_cons_zero, List.set_cons_succ]
                          refine wpAnyH_ready (rs := [18]) (by kernel_rfl) (by simp) ?_
                          refine' AllReadyH.cons (o := _) ?ho128 (fun K hK => ?g128) ?s128
                          case ho128 => (simp only [List.getElem?_toArray, List.getElem?_cons_succ, List.getElem?_cons_zero]; rfl)
                          case s128 => exact AllReadyH.nil
                          case' g128 => skip
                          rw [if_pos (by rfl)]
                          refine wps_store _ _ _ rfl (cs' := rgc x9) rfl rfl NB rfl (by kernel_rfl) (by simp [Value.oneCell', rgc]) fun W2 D O => ?_
                          have bm2 := O.blk MB fun e => MB.ne_ NB (by decide) e
                          have S2 : Below w6.heap.size w6 W2 := below_only ((Only.of S1).trans_ (F := fun q => q = kn) O) (fun q hq => by have e : q = kn := hq; omega)
                          refine hK.out _ _ (HS.out _ S2) (fun hHeld => ?_)
                          clear hK K hHeld
                          try simp only [Act.put, List.setIfInBounds_toArray, List.set_cons_zero, List.set_cons_succ]
                          refine wpAnyH_ready (rs := [19]) (by kernel_rfl) (by simp) ?_
                          refine' AllReadyH.cons (o := _) ?ho129 (fun K hK => ?g129) ?s129
                          case ho129 => (simp only [List.getElem?_toArray, List.getElem?_cons_succ, List.getElem?_cons_zero]; rfl)
                          case s129 => exact AllReadyH.nil
                          case' g129 => skip
                          rw [if_pos (by rfl)]
                          refine wps_store _ _ _ rfl (cs' := mc m9) rfl rfl bm2 rfl (by kernel_rfl) (by simp [Value.oneCell', mc]) fun W3 D2 O2 => ?_
                          have hR := ro_fin S1 KN KM NB MB NG WO HD h9 D O D2 O2
                          refine hK.out _ _ (HS.out _ hR.bl) (fun hHeld => ?_)
                          clear hK K
                          try simp only [Act.put, List.setIfInBounds_toArray, List.set_cons_zero, List.set_cons_succ]
                          refine' wpAnyH_take (i := 20) (oi := _) (v := _) ?hi130 (by kernel_rfl) (by kernel_rfl) (by kernel_rfl) ?hQ130 (Or.inl ⟨?hw130, ?hy130⟩) ?hT130 ?hh130
                          case hi130 => (simp only [List.getElem?_toArray, List.getElem?_cons_succ, List.getElem?_cons_zero]; rfl)
                          case hQ130 => exact fun _ _ _ h => h
                          case hw130 => rfl
                          case hy130 => (intro V hSw; go_simp; (try with_reducible rfl))
                          case hT130 => assumption
                          case' hh130 => skip
                          try simp only [Act.put, List.setIfInBounds_toArray, List.set_cons_zero, List.set_cons_succ]
                          refine wpAnyH_done (by kernel_rfl) ?_ _
                          clear hHeld D O D2 O2 bm2 S2 NB MB NG WO HD h9 KN KM
                          go_wp2_with fail
                          go_meet
                          exact ⟨kn, km, m9, x9, rfl, rfl, rfl, hR⟩
                        exact AllReadyH.nil
                      exact AllReadyH.nil
                    refine' AllReadyH.cons (o := _) ?ho131 (fun K hK => ?g131) ?s131
                    case ho131 => (simp only [List.getElem?_toArray, List.getElem?_cons_succ, List.getElem?_cons_zero]; rfl)
                    case g131 =>
                      rw [if_pos (by rfl)]
                      go_simp
                      have NB := Blk.new V1 35 #[.int .i64 0, .int .i64 0, .int .i64 0, .int .i64 0, .int .i64 0, .int .i64 0, .int .i64 0, .int .i64 0, .int .i64 0, .int .i64 0, .int .i64 0, .int .i64 0, .int .i64 0, .slice none 0 0, .int .i64 0, .int .i64 0, .int .i64 0, .int .i64 0, .int .i64 0]
                      have KN := S1.size
                      have MB := MB.alloc (.cells #[.int .i64 0, .int .i64 0, .int .i64 0, .int .i64 0, .int .i64 0, .int .i64 0, .int .i64 0, .int .i64 0, .int .i64 0, .int .i64 0, .int .i64 0, .int .i64 0, .int .i64 0, .slice none 0 0, .int .i64 0, .int .i64 0, .int .i64 0, .int .i64 0, .int .i64 0] 35)
                      have S1 := ba1 S1 (.cells #[.int .i64 0, .int .i64 0, .int .i64 0, .int .i64 0, .int .i64 0, .int .i64 0, .int .i64 0, .int .i64 0, .int .i64 0, .int .i64 0, .int .i64 0, .int .i64 0, .int .i64 0, .slice none 0 0, .int .i64 0, .int .i64 0, .int .i64 0, .int .i64 0, .int .i64 0] 35)
                      refine hK.out _ _ (HS.out _ S1) (fun hHeld => ?_)
                      clear hK K
                      try simp only [Act.put, List.setIfInBounds_toArray, List.set_cons_zero, List.set_cons_succ]
                      generalize V1.heap.size = kn at *
                      generalize V1.alloc (.cells #[.int .i64 0, .int .i64 0, .int .i64 0, .int .i64 0, .int .i64 0, .int .i64 0, .int .i64 0, .int .i64 0, .int .i64 0, .int .i64 0, .int .i64 0, .int .i64 0, .int .i64 0, .slice none 0 0, .int .i64 0, .int .i64 0, .int .i64 0, .int .i64 0, .int .i64 0] 35) = V2 at *
                      refine wpAnyH_ready (rs := [6]) (by kernel_rfl) (by simp) ?_
                      refine' AllReadyH.cons (o := _) ?ho132 (fun K hK => ?g132) ?s132
                      case ho132 => (simp only [List.getElem?_toArray, List.getElem?_cons_succ, List.getElem?_cons_zero]; rfl)
                      case g132 =>
                        rw [if_pos (by rfl)]
                        go_simp
                        go_at_call 11
                        with_reducible refine (CW.out _).mono ?_
                        rintro e V3 ⟨rfl, hb⟩
                        have S1 := bt S1 hb
                        have NB := NB.bel hb
                        have MB := MB.bel hb
                        clear hb
                        refine hK.out _ _ (HS.out _ S1) (fun hHeld => ?_)
                        clear hK K
                        try simp only [Act.put, List.setIfInBounds_toArray, List.set_cons_zero, List.set_cons_succ]
                        refine wpAnyH_ready (rs := [11]) (by kernel_rfl) (by simp) ?_
                        refine' AllReadyH.cons (o := _) ?ho133 (fun K hK => ?g133) ?s133
                        case ho133 => (simp only [List.getElem?_toArray, List.getElem?_cons_succ, List.getElem?_cons_zero]; rfl)
                        case g133 =>
                          rw [if_pos (by rfl)]
                          go_simp
                          go_at_call 10
                          with_reducible refine (CO.out _ S1).mono ?_
                          rintro e V4 ⟨m9, x9, rfl, h9, NG⟩
                          have HD := d17_old HP6.out h9 KM MB.lt
                          have hb := h9.bl
                          have WO := h9.wo.less (Nat.zero_le _)
                          have S1 := bt S1 hb
                          have NB := NB.bel hb
                          have MB := MB.bel hb
                          clear hb
                          unfold MV.val
                          refine hK.out _ _ (HS.out _ S1) (fun hHeld => ?_)
                          clear hK K
                          try simp only [Act.put, List.setIfInBounds_toArray, List.set_cons_zero, List.set_cons_succ]
                          refine' wpAnyH_take (i := 12) (oi := _) (v := _) ?hi134 (by kernel_rfl) (by kernel_rfl) (by kernel_rfl) ?hQ134 (Or.inl ⟨?hw134, ?hy134⟩) ?hT134 ?hh134
                          case hi134 => (simp only [List.getElem?_toArray, List.getElem?_cons_succ, List.getElem?_cons_zero]; rfl)
                          case hQ134 => exact fun _ _ _ h => h
                          case hw134 => rfl
                          case hy134 => (intro V hSw; go_simp; (try with_reducible rfl))
                          case hT134 => assumption
                          case' hh134 => skip
                          try simp only [Act.put, List.setIfInBounds_toArray, List.set_cons_zero, List.set_cons_succ]
                          refine' wpAnyH_take (i := 13) (oi := _) (v := _) ?hi135 (by kernel_rfl) (by kernel_rfl) (by kernel_rfl) ?hQ135 (Or.inl ⟨?hw135, ?hy135⟩) ?hT135 ?hh135
                          case hi135 => (simp only [List.getElem?_toArray, List.getElem?_cons_succ, List.getElem?_cons_zero]; rfl)
                          case hQ135 => exact fun _ _ _ h => h
                          case hw135 => rfl
                          case hy135 => (intro V hSw; go_simp; (try with_reducible rfl))
                          case hT135 => assumption
                          case' hh135 => skip
                          try simp only [Act.put, List.setIfInBounds_toArray, List.set_cons_zero, List.set_cons_succ]
                          refine' wpAnyH_take (i := 14) (oi := _) (v := _) ?hi136 (by kernel_rfl) (by kernel_rfl) (by kernel_rfl) ?hQ136 (Or.inl ⟨?hw136, ?hy136⟩) ?hT136 ?hh136
                          case hi136 => (simp only [List.getElem?_toArray, List.getElem?_cons_succ, List.getElem?_cons_zero]; rfl)
                          case hQ136 => exact fun _ _ _ h => h
                          case hw136 => rfl
                          case hy136 => (intro V hSw; go_simp; (try with_reducible rfl))
                          case hT136 => assumption
                          case' hh136 => skip
                          try simp only [Act.put, List.setIfInBounds_toArray, List.set_cons_zero, List.set_cons_succ]
                          refine' wpAnyH_take (i := 15) (oi := _) (v := _) ?hi137 (by kernel_rfl) (by kernel_rfl) (by kernel_rfl) ?hQ137 (Or.inl ⟨?hw137, ?hy137⟩) ?hT137 ?hh137
                          case hi137 => (simp only [List.getElem?_toArray, List.getElem?_cons_succ, List.getElem?_cons_zero]; rfl)
                          case hQ137 => exact fun _ _ _ h => h
                          case hw137 => rfl
                          case hy137 => (intro V hSw; go_simp; (try with_reducible rfl))
                          case hT137 => assumption
                          case' hh137 => skip
                          try simp only [Act.put, List.setIfInBounds_toArray, List.set_cons_zero, List.set_cons_succ]
                          refine wpAnyH_ready (rs := [18]) (by kernel_rfl) (by simp) ?_
                          refine' AllReadyH.cons (o := _) ?ho138 (fun K hK => ?g138) ?s138
                          case ho138 => (simp only [List.getElem?_toArray, List.getElem?_cons_succ, List.getElem?_cons_zero]; rfl)
                          case s138 => exact AllReadyH.nil
                          case' g138 => skip
                          rw [if_pos (by rfl)]
                          refine wps_store _ _ _ rfl (cs' := rgc x9) rfl rfl NB rfl (by kernel_rfl) (by simp [Value.oneCell', rgc]) fun W2 D O => ?_
                          have bm2 := O.blk MB fun e => MB.ne_ NB (by decide) e
                          have S2 : Below w6.heap.size w6 W2 := below_only ((Only.of S1).trans_ (F := fun q => q = kn) O) (fun q hq => by have e : q = kn := hq; omega)
                          refine hK.out _ _ (HS.out _ S2) (fun hHeld => ?_)
                          clear hK K hHeld
                          try simp only [Act.put, List.setIfInBounds_toArray, List.set_cons_zero, List.set_cons_succ]
                          refine wpAnyH_ready (rs := [19]) (by kernel_rfl) (by simp) ?_
                          refine' AllReadyH.cons (o := _) ?ho139 (fun K hK => ?g139) ?s139
                          case ho139 => (simp only [List.getElem?_toArray, List.getElem?_cons_succ, List.getElem?_cons_zero]; rfl)
                          case s139 => exact AllReadyH.nil
                          case' g139 => skip
                          rw [if_pos (by rfl)]
                          refine wps_store _ _ _ rfl (cs' := mc m9) rfl rfl bm2 rfl (by kernel_rfl) (by simp [Value.oneCell', mc]) fun W3 D2 O2 => ?_
                          have hR := ro_fin S1 KN KM NB MB NG WO HD h9 D O D2 O2
                          refine hK.out _ _ (HS.out _ hR.bl) (fun hHeld => ?_)
                          clear hK K
                          try simp only [Act.put, List.setIfInBounds_toArray, List.set_cons_zero, List.set_cons_succ]
                          refine' wpAnyH_take (i := 20) (oi := _) (v := _) ?hi140 (by kernel_rfl) (by kernel_rfl) (by kernel_rfl) ?hQ140 (Or.inl ⟨?hw140, ?hy140⟩) ?hT140 ?hh140
                          case hi140 => (simp only [List.getElem?_toArray, List.getElem?_cons_succ, List.getElem?_cons_zero]; rfl)
                          case hQ140 => exact fun _ _ _ h => h
                          case hw140 => rfl
                          case hy140 => (intro V hSw; go_simp; (try with_reducible rfl))
                          case hT140 => assumption
                          case' hh140 => skip
                          try simp only [Act.put, List.setIfInBounds_toArray, List.set_cons_zero, List.set_cons_succ]
                          refine wpAnyH_done (by kernel_rfl) ?_ _
                          clear hHeld D O D2 O2 bm2 S2 NB MB NG WO HD h9 KN KM
                          go_wp2_with fail
                          go_meet
                          exact ⟨kn, km, m9, x9, rfl, rfl, rfl, hR⟩
                        exact AllReadyH.nil
                      exact AllReadyH.nil
                    exact AllReadyH.nil
                  exact AllReadyH.nil
                case rest =>
                  obtain ⟨kn, km, m9, x9, rfl, rfl, rfl, h18⟩ := hcut
                  have H18 := Lib.hid h18
                  clear h18 CO HS
                  go_upto_region 19 with fail
                  have hbx := (HP6.out.below H18.out.bl).bx
                  refine wp_region_lit ?_
                  refine wpl_load rfl _ _ rfl rfl H18.out.bn (d := .struct (Try.prog.fieldsOf 35)) (by kernel_rfl) rfl (by kernel_rfl) ?_
                  simp only [Act.put, List.setIfInBounds_toArray, List.set_cons_zero, List.set_cons_succ]
                  refine wpl_store rfl _ _ _ (cs' := rgc x9) rfl rfl rfl hbx rfl (by kernel_rfl) (by simp [Value.oneCell', rgc]) fun W19 D O => ?_
                  simp only [Act.put]
                  refine wpList_nil ?_
                  have HP9 := Lib.hid ((HP6.out.below H18.out.bl).put H18.out.ng D O)
                  have HM9 := Lib.hid (O.blk H18.out.bm fun e => H18.out.bm.ne_ hbx (by decide) e)
                  have HW9 := Lib.hid (H18.out.wo.only O fun q cs hq e => hq.ne_ hbx (by decide) e)
                  have HKm : Hid (¬ FG g a s.r km) := fun hf => by
                    have := HP6.out.gt.fg_lt hf
                    have := H18.out.gm
                    omega
                  obtain ⟨Va, Vb, hrw⟩ := H18.out.rw
                  have HRw := Lib.hid hrw
                  clear hbx D O hrw H18
                  unfold rgc
                  have HOf : Hid (∀ V, Below W19.heap.size W19 V → Calls Try.prog 12 #[.pointer (some ⟨g, 0, none⟩), .int .i64 u.md, .int .i64 u.ln, .slice u.a u.w8.length u.c, .int .i64 u.n, .int .i64 u.r] V (OfP w V g a s M code ask T1 N1)) := fun V hV => CG.out V (HP9.out.gt.below hV)
                  have HG8 := Lib.hid HP9.out.gt
                  have HN8 := Lib.hid HP9.out.sx
                  have HS : Hid (∀ V, Below W19.heap.size W19 V → ∀ i, V.cell? ⟨kx, i, none⟩ = (#[.int .i64 u.k, .int .i64 u.md, .int .i64 u.ln, .int .i64 u.n, .int .i64 u.r, .slice u.a u.ws.length u.c] : Array Value)[i]?) := fun V hV => (HN8.out.bel hV).cell
                  have HKn : Hid (∀ V (m' : MV) (s' : Gs) (V' : World), Below W19.heap.size W19 V → OfW w V g a s M code ask T1 N1 m' s' V' → Blk V' kx 40 #[.int .i64 u.k, .int .i64 u.md, .int .i64 u.ln, .int .i64 u.n, .int .i64 u.r, .slice u.a u.ws.length u.c]) := fun V m' s' V' hV h => h.on.blk (HN8.out.bel hV) ((HG8.out.below hV).off2 (HN8.out.bel hV) (by decide) (by decide) (by decide) (by decide))
                  have hkx8 := HN8.out.lt
                  have HNe : Hid (∀ q, W19.heap.size ≤ q → kx ≠ q) := fun q hq e => by omega
                  clear CG hkx8
                  go_upto_region 20 with fail
                  go_cut [15, 16] (fun v0 v1 V => ∃ (k2 : Nat) (m' : MV) (s' : Gs), v0 = .pointer (some ⟨k2, 0, none⟩) ∧ v1 = .int .i64 code ∧ Of2 w W19 g a s M code ask T1 N1 m' s' k2 V)
                  case first =>
                    have S0 : Below W19.heap.size W19 W19.drew := (Below.refl _ _).drew
                    go_region_held3 (fun V => ∀ i, V.cell? ⟨kx, i, none⟩ = (#[.int .i64 u.k, .int .i64 u.md, .int .i64 u.ln, .int .i64 u.n, .int .i64 u.r, .slice u.a u.ws.length u.c] : Array Value)[i]?) (first | (with_reducible exact HS.out _ S0) | (with_reducible exact HS.out _ (ba1 S0 _)) | (with_reducible exact HS.out _ ((b01 W19 _).drew)) | (with_reducible exact K9.cell) | (with_reducible exact (K9.alloc _).cell) | (with_reducible exact (bfar5 K9 hne _ _ _ _ _).cell) | fail)
                      (first
                        | (go_at_call 11; (with_reducible refine (CW.out _).mono ?_); rintro e w9 ⟨rfl, hb9⟩; first
                            | (have S0 := bt S0 hb9; have hz9 := S0.size)
                            | (have Zb := ((Blk.new W19 43 #[.slice none 0 0, .int .i64 0, .int .i64 0, .int .i64 0, .int .i64 0]).drewN 1).bel hb9; have S0 := bt ((b01 W19 _).drew) hb9; have hz9 := Nat.le_refl W19.heap.size; have hne := HNe.out _ hz9)
                            | fail)
                        | (go_at_call 12; first
                            | ((with_reducible refine (HOf.out _ S0).mono ?_); rintro e w10 ⟨m', s', rfl, h10⟩; unfold MV.val; have S9 := S0; have K9 := HKn.out _ _ _ _ S0 h10; have zc := (h10.on.blk Zb (fun hf => by have := (HG8.out.below S0).fg_lt hf; have := HG8.out.fg_lt hf; omega)); have zf := zc.frozen; have zl := zc.lt; have zc := zc.cell)
                            | ((with_reducible refine (HOf.out _ S0).mono ?_); rintro e w10 ⟨m', s', rfl, h10⟩; unfold MV.val; have S9 := S0; have K9 := HKn.out _ _ _ _ S0 h10)
                            | ((with_reducible refine (HOf.out _ (ba1 S0 _)).mono ?_); rintro e w10 ⟨m', s', rfl, h10⟩; unfold MV.val; have Zb := Blk.new w9 43 #[.slice none 0 0, .int .i64 0, .int .i64 0, .int .i64 0, .int .i64 0]; have S9 := ba1 S0 (.cells #[.slice none 0 0, .int .i64 0, .int .i64 0, .int .i64 0, .int .i64 0] 43); have K9 := HKn.out _ _ _ _ S9 h10; have hne := HNe.out _ hz9; have zc := (h10.on.blk Zb (fun hf => by have := HG8.out.fg_lt hf; omega)); have zf := zc.frozen; have zl := zc.lt; have zc := zc.cell)
                            | fail)
                        | fail)
                    all_goals
                      go_wp2_with fail
                      go_meet
                      first
                      | with_reducible exact ⟨_, m', s', rfl, rfl, of2_new S9 h10⟩
                      | with_reducible exact ⟨_, m', s', rfl, rfl, of2_set HG8.out S9 hz9 Zb h10⟩
                      | fail
                  case rest =>
                    obtain ⟨k2, m2, s2, rfl, rfl, h⟩ := hcut
                    have HPf := Lib.hid (HP9.out.step h.gt h.on h.nw)
                    obtain ⟨hsg, hpl⟩ := sg_of2 HSg.out h HRw.out
                    have HSf := Lib.hid hsg
                    have HQf : Hid (0 ≤ s2.q ∧ s2.q ≤ ((i + 1 : Nat) : Int)) := by
                      have h1 := h.q
                      have := HQ.out
                      show 0 ≤ s2.q ∧ s2.q ≤ ((i + 1 : Nat) : Int)
                      rw [h1]
                      split <;> omega
                    have CO1 := Lib.hid (one_yes (HW9.out.only h.on fun q cs hq => HG8.out.off2 hq (by decide) (by decide) (by decide) (by decide)).wr h.wo.wr hpl.symm)
                    unfold MV.val at CO1
                    have q1 := (h.on.blk HM9.out HKm.out).cell
                    have q2 := h.bx.cell
                    unfold mc at q1
                    clear h hsg hpl HOf HS HKn HNe HP9 HM9 HW9 HRw HKm HG8 HN8
                    go_wp2_with fail
                    with_reducible refine CO1.out.mono ?_
                    rintro e V8 ⟨rfl, hb8⟩
                    have tc : (code == code) = true := by simp
                    clear q1 q2
                    go_wp2_with fail
                    go_meet
                    exact ⟨rfl, s2, x9, HPf.out.below hb8, HSf.out, HQf.out.1, HQf.out.2⟩
              · have t5 : decide (kd < 5) = false := decide_eq_false hk5
                rw [t5]
                by_cases h5 : kd = 5
                · as_aux_lemma =>
                  subst h5
                  clear hk5 hkb t5
                  have hl24 : x.e.length ≤ 24 := by
                    have := congrArg List.length HSg.out.pl
                    rw [List.length_map, List.length_map] at this
                    have := HP6.out.gt.len
                    omega
                  obtain ⟨hh1, hh2, hh3⟩ := head_pl HSg.out.pl
                  have CT := Lib.hid (rtake_g HP6.out.ng hl24)
                  unfold RtG at CT
                  rw [← hh2] at CT
                  have hwM : Wo w6 0 (x.e.headD z0) := by
                    cases he : x.e with
                    | nil => exact Own.nil_ _ _ _ _
                    | cons m t => exact (HP6.out.ng.ws m (by rw [he]; exact List.mem_cons_self ..)).1
                  obtain ⟨bo, hbo⟩ : ∃ bo, (!s.d.isEmpty) = bo := ⟨_, rfl⟩
                  have HBO := Lib.hid hbo
                  rw [hbo] at CT
                  have HWM := Lib.hid hwM
                  have HH := Lib.hid (And.intro hh1 hh3)
                  clear hh1 hh2 hh3 hwM hbo hl24
                  generalize x.e.headD z0 = M at *
                  generalize x.e.drop 1 = E1 at *
                  have q0 := HP6.out.bx.cell
                  unfold rgc at q0
                  go_wp2_with fail
                  with_reducible refine CT.out.mono ?_
                  rintro e V1 ⟨A9, c9, rfl, hn9, hb1⟩
                  unfold rLv MV.val
                  clear q0 CT
                  have b7 := ba1 (b01 V1 (.cells #[.int .i64 x.L, .int .i64 x.P, .slice A9 E1.length c9] 31)) (.cells #[.slice M.a M.ws.length M.c, .int .i64 M.ln, .int .i64 M.st, .int .i64 M.lt, .int .i64 M.sq] 43)
                  have HP7 := Lib.hid ((HP6.out.below hb1).below b7)
                  have HN7 := Lib.hid (hn9.below b7)
                  have HL7 := Lib.hid ((Blk.new V1 31 #[.int .i64 x.L, .int .i64 x.P, .slice A9 E1.length c9]).alloc (.cells #[.slice M.a M.ws.length M.c, .int .i64 M.ln, .int .i64 M.st, .int .i64 M.lt, .int .i64 M.sq] 43))
                  have HX7 := Lib.hid (Blk.new_at (w := V1.alloc (.cells #[.int .i64 x.L, .int .i64 x.P, .slice A9 E1.length c9] 31)) (n := V1.heap.size + 1) (by rw [World.size_alloc]) 43 #[.slice M.a M.ws.length M.c, .int .i64 M.ln, .int .i64 M.st, .int .i64 M.lt, .int .i64 M.sq])
                  have HW7 := Lib.hid ((HWM.out.below hb1).below b7)
                  have HZ : Hid (w6.heap.size ≤ V1.heap.size + 1) := Nat.le_succ_of_le hb1.size
                  clear hn9 hb1 b7 HWM
                  go_upto_region 24 with fail
                  generalize (V1.alloc (.cells #[.int .i64 x.L, .int .i64 x.P, .slice A9 E1.length c9] 31)).alloc (.cells #[.slice M.a M.ws.length M.c, .int .i64 M.ln, .int .i64 M.st, .int .i64 M.lt, .int .i64 M.sq] 43) = W7 at *
                  generalize V1.heap.size + 1 = km at *
                  generalize V1.heap.size = kl at *
                  refine wp_region_lit ?_
                  refine wpl_load rfl _ _ rfl rfl HL7.out (d := .struct (Try.prog.fieldsOf 31)) (by kernel_rfl) rfl (by kernel_rfl) ?_
                  simp only [Act.put, List.setIfInBounds_toArray, List.set_cons_zero, List.set_cons_succ]
                  (refine wpList_plain rfl fun K hK => ?_); go_simp; (refine hK _ _ ?_); clear hK K
                  refine wpl_part rfl _ _ _ (o := 11) rfl rfl rfl HP7.out.bx (by simp [rgc]) (by kernel_rfl) (by simp [Value.oneCell']) fun W8 E O => ?_
                  simp only [Act.put]
                  refine wpList_nil ?_
                  have HP8 := Lib.hid (HP7.out.put (x' := { x with A := A9, c := c9, e := E1 }) HN7.out E O)
                  have HX8 := Lib.hid (O.blk HX7.out fun e => HX7.out.ne_ HP7.out.bx (by decide) e)
                  have HW8 := Lib.hid (HW7.out.only O fun q cs hq e => hq.ne_ HP7.out.bx (by decide) e)
                  have HKm : Hid (¬ FG g a s.r km) := fun hf => by
                    have := HP6.out.gt.fg_lt hf
                    have := HZ.out
                    omega
                  clear E O HP7 HN7 HL7 HX7 HW7
                  have CT := Lib.hid (A12.take_any HP8.out.gt)
                  unfold TbP at CT
                  rw [HBO.out] at CT
                  go_wp2_with fail
                  with_reducible refine CT.out.mono ?_
                  rintro e V9 ⟨r9, rfl, h9⟩
                  have HPf := Lib.hid (HP8.out.step h9.gt h9.on (.inr h9.fr))
                  have HX9 := Lib.hid (h9.on.blk HX8.out HKm.out)
                  have HW9 := Lib.hid (HW8.out.only h9.on fun q cs hq => HP8.out.gt.off2 hq (by decide) (by decide) (by decide) (by decide))
                  have HWh := Lib.hid h9.wo
                  have HSf : Hid (Sg a ⟨r9, s.d.drop 1, s.T, s.N, s.q⟩ { x with A := A9, c := c9, e := E1 }) := ⟨HSg.out.k, HSg.out.L, HSg.out.P, HSg.out.R, HSg.out.C, HSg.out.T, HSg.out.N, HSg.out.q, HH.out.2⟩
                  clear h9 CT HX8 HW8
                  generalize s.d.headD z0 = Hd at *
                  unfold MV.val
                  have b10 := b01 V9 (.cells #[.slice Hd.a Hd.ws.length Hd.c, .int .i64 Hd.ln, .int .i64 Hd.st, .int .i64 Hd.lt, .int .i64 Hd.sq] 43)
                  have HPg := Lib.hid (HPf.out.below b10)
                  have CO1 := Lib.hid (one_yes (HW9.out.below b10).wr (HWh.out.below b10).wr HH.out.1.symm)
                  unfold MV.val at CO1
                  have q1 := (HX9.out.bel b10).cell
                  have q2 := (Blk.new V9 43 #[.slice Hd.a Hd.ws.length Hd.c, .int .i64 Hd.ln, .int .i64 Hd.st, .int .i64 Hd.lt, .int .i64 Hd.sq]).cell
                  clear b10 HPf HX9 HW9 HWh HP8
                  have tb : (bo == bo) = true := by simp
                  go_wp2_with fail
                  with_reducible refine CO1.out.mono ?_
                  rintro e V8 ⟨rfl, hb8⟩
                  clear q1 q2
                  go_wp2_with fail
                  go_meet
                  exact ⟨rfl, _, _, HPg.out.below hb8, HSf.out, HQ.out.1, by have := HQ.out.2; show s.q ≤ ((i + 1 : Nat) : Int); omega⟩
                · have t6 := h5
                  by_cases h6 : kd = 6
                  · as_aux_lemma =>
                    subst h6
                    clear hk5 hkb t5 h5
                    have hl24 : x.e.length ≤ 24 := by
                      have := congrArg List.length HSg.out.pl
                      rw [List.length_map, List.length_map] at this
                      have := HP6.out.gt.len
                      omega
                    have CT := Lib.hid (rsweep_g2 HP6.out hl24 u.n)
                    unfold RsG2 at CT
                    have HPL := Lib.hid (And.intro (filt_pl HSg.out.pl (fun t => late u.n t)) (filt_pl HSg.out.pl (fun t => !late u.n t)))
                    have HLG : Hid ((s.d.filter fun m => late u.n m.lt).length ≤ 1000) := Nat.le_trans (List.length_filter_le _ _) (by have := HP6.out.gt.len; omega)
                    have CG : Hid (∀ V, Gt w V g a s → Calls Try.prog 18 #[.pointer (some ⟨g, 0, none⟩), .int .i64 u.n] V (A12.OuP w V g a s (s.d.filter fun m => late u.n m.lt) (s.d.filter fun m => !late u.n m.lt))) := fun V h => A12.sweep_any h u.n
                    unfold A12.OuP at CG
                    clear hl24
                    generalize (x.e.filter fun m => !late u.n m.lt) = E1 at *
                    generalize (x.e.filter fun m => late u.n m.lt) = E2 at *
                    generalize (s.d.filter fun m => !late u.n m.lt) = D1 at *
                    generalize (s.d.filter fun m => late u.n m.lt) = D2 at *
                    have q0 := HP6.out.bx.cell
                    have n0 := HP6.out.sx.cell
                    unfold rgc at q0
                    go_wp2_with fail
                    with_reducible refine CT.out.mono ?_
                    rintro e V1 ⟨A9, c9, A2, c2, rfl, hn9, hm9, hb1⟩
                    unfold rLv
                    clear q0 n0 CT
                    have b7 := b01 V1 (.cells #[.int .i64 x.L, .int .i64 x.P, .slice A9 E1.length c9] 31)
                    have HP7 := Lib.hid ((HP6.out.below hb1).below b7)
                    have HN7 := Lib.hid (hn9.below b7)
                    have HM7 := Lib.hid (hm9.below b7)
                    have HL7 := Lib.hid (Blk.new V1 31 #[.int .i64 x.L, .int .i64 x.P, .slice A9 E1.length c9])
                    clear hn9 hm9 hb1 b7
                    go_upto_region 29 with fail
                    generalize V1.alloc (.cells #[.int .i64 x.L, .int .i64 x.P, .slice A9 E1.length c9] 31) = W7 at *
                    generalize V1.heap.size = kl at *
                    refine wp_region_lit ?_
                    refine wpl_load rfl _ _ rfl rfl HL7.out (d := .struct (Try.prog.fieldsOf 31)) (by kernel_rfl) rfl (by kernel_rfl) ?_
                    simp only [Act.put, List.setIfInBounds_toArray, List.set_cons_zero, List.set_cons_succ]
                    (refine wpList_plain rfl fun K hK => ?_); go_simp; (refine hK _ _ ?_); clear hK K
                    refine wpl_part rfl _ _ _ (o := 11) rfl rfl rfl HP7.out.bx (by simp [rgc]) (by kernel_rfl) (by simp [Value.oneCell']) fun W8 E O => ?_
                    simp only [Act.put]
                    refine wpList_nil ?_
                    have HP8 := Lib.hid (HP7.out.put (x' := { x with A := A9, c := c9, e := E1 }) HN7.out E O)
                    have HM8 := Lib.hid (ng_box HM7.out HP7.out.bx O)
                    clear E O HP7 HN7 HL7 HM7
                    have n0 := HP8.out.sx.cell
                    go_wp2_with fail
                    with_reducible refine (CG.out _ HP8.out.gt).mono ?_
                    rintro e V9 ⟨A8, c8, r9, rfl, hr8, hw8, hg9, ho9, hv9⟩
                    have HPf := Lib.hid (HP8.out.step hg9 ho9 hv9)
                    obtain ⟨hr2, hw2⟩ := ng_step HM8.out HP8.out.gt ho9
                    have CO1 : Hid (Calls Try.prog 17 #[.slice A8 D2.length c8, .slice A2 E2.length c2] V9 fun y V' => y = .returned (.bool true) ∧ Below V9.heap.size V9 V') := same_pl hr8 hw8 hr2 hw2 HPL.out.1 HLG.out
                    have HSf : Hid (Sg a ⟨r9, D1, s.T, s.N, s.q⟩ { x with A := A9, c := c9, e := E1 }) := ⟨HSg.out.k, HSg.out.L, HSg.out.P, HSg.out.R, HSg.out.C, HSg.out.T, HSg.out.N, HSg.out.q, HPL.out.2⟩
                    clear hr8 hw8 hg9 ho9 hv9 hr2 hw2 n0 CG HM8 HP8
                    go_wp2_with fail
                    with_reducible refine CO1.out.mono ?_
                    rintro e V8 ⟨rfl, hb8⟩
                    go_wp2_with fail
                    go_meet
                    exact ⟨rfl, _, _, HPf.out.below hb8, HSf.out, HQ.out.1, by have := HQ.out.2; show s.q ≤ ((i + 1 : Nat) : Int); omega⟩
                  · as_aux_lemma =>
                    have h7 : kd = 7 := by omega
                    subst h7
                    clear hk5 hkb t5 h5 h6
                    have n0 := HP6.out.sx.cell
                    by_cases hy : u.n.tmod 4 = 0
                    · skip
                      have HPd := HP6.out.below (Below.refl _ _).drew
                      have HQ0 : Hid (w6.drew.cell? ⟨kr, 13, none⟩ = some (.slice x.A x.e.length x.c)) := by show w6.drew.cell? ⟨kr, 13, none⟩ = some (.slice x.A x.e.length x.c); rw [HPd.bx.cell]; rfl
                      have CF := Lib.hid (flush_pg HPd)
                      unfold OuG at CF
                      have hl24 := HP6.out.gt.len
                      have CS : Hid (∀ V A' c' r', Row V A' (mvs s.d) → WsR V s.d → Pg w V g a ⟨r', [], s.T, s.N, s.q⟩ kr x kx #[.int .i64 u.k, .int .i64 u.md, .int .i64 u.ln, .int .i64 u.n, .int .i64 u.r, .slice u.a u.ws.length u.c] → Calls Try.prog 17 #[.slice A' s.d.length c', .slice x.A x.e.length x.c] V fun y V' => y = .returned (.bool true) ∧ Below V.heap.size V V') := fun V A' c' r' h1 h2 h3 => rsame_g h1 h2 h3.ng HSg.out.pl (by omega)
                      clear HPd hl24
                      go_upto_region 33 with fail
                      clear n0
                      go_region_held3 (fun V => V.cell? ⟨kr, 13, none⟩ = some (.slice x.A x.e.length x.c)) (first | (with_reducible exact HQ0.out) | (with_reducible exact HQ6.out) | (with_reducible exact HQ7.out) | fail)
                        (first
                          | (go_at_call 19; (with_reducible refine CF.out.mono ?_); rintro e w7 ⟨A6, c6, r6, rfl, hr6, hw6, hp6⟩; have HP7 := Lib.hid hp6; have HQ6 : Hid (w7.cell? ⟨kr, 13, none⟩ = some (.slice x.A x.e.length x.c)) := (by show w7.cell? ⟨kr, 13, none⟩ = some (.slice x.A x.e.length x.c); rw [hp6.bx.cell]; rfl); have C6 := Lib.hid (CS.out _ A6 c6 _ hr6 hw6 hp6); clear hr6 hw6 hp6)
                          | (go_at_call 17; (with_reducible refine C6.out.mono ?_); rintro e w8 ⟨rfl, hb8⟩; have HP8 := Lib.hid (HP7.out.below hb8); have HQ7 : Hid (w8.cell? ⟨kr, 13, none⟩ = some (.slice x.A x.e.length x.c)) := (by show w8.cell? ⟨kr, 13, none⟩ = some (.slice x.A x.e.length x.c); rw [HP8.out.bx.cell]; rfl); clear hb8)
                          | fail)
                      have HX : Hid (InvS w (w8.setCell ⟨kr, 13, none⟩ (.slice none 0 0)) g a kr (i + 1) kx #[.int .i64 u.k, .int .i64 u.md, .int .i64 u.ln, .int .i64 u.n, .int .i64 u.r, .slice u.a u.ws.length u.c]) := ⟨_, _, HP8.out.nil, ⟨HSg.out.k, HSg.out.L, HSg.out.P, HSg.out.R, HSg.out.C, HSg.out.T, HSg.out.N, HSg.out.q, rfl⟩, HQ.out.1, by have := HQ.out.2; show s.q ≤ ((i + 1 : Nat) : Int); omega⟩
                      have k2 := HQ7.out
                      have kf := HP8.out.bx.frozen
                      have kl := HP8.out.bx.lt
                      go_wp2_with fail
                      go_meet
                      exact ⟨rfl, HX.out⟩
                    · have t3 : (u.n.tmod 4 == 0) = false := by rw [beq_eq_false_iff_ne]; exact hy
                      have HX : Hid (InvS w w6 g a kr (i + 1) kx #[.int .i64 u.k, .int .i64 u.md, .int .i64 u.ln, .int .i64 u.n, .int .i64 u.r, .slice u.a u.ws.length u.c]) := ⟨_, _, HP6.out, HSg.out, HQ.out.1, by have := HQ.out.2; show s.q ≤ ((i + 1 : Nat) : Int); omega⟩
                      clear hy
                      go_wp2_with fail
                      go_meet
                      exact ⟨rfl, HX.out⟩
          case rest =>
            as_aux_lemma =>
            obtain ⟨rfl, s9, x9, hp9, hs9, hq9, hq8⟩ := hcut
            obtain ⟨N, hN⟩ : ∃ N, s9.d.length = N := ⟨_, rfl⟩
            have hNe : x9.e.length = N := by
              have := congrArg List.length hs9.pl
              rw [List.length_map, List.length_map] at this
              omega
            have hN24 : N ≤ 24 := by have := hp9.gt.len; omega
            have HSg9 := Lib.hid (And.intro hs9 (And.intro hq9 hq8))
            have CLen : Hid (∀ V, Pg w V g a s9 kr x9 kx #[.int .i64 u.k, .int .i64 u.md, .int .i64 u.ln, .int .i64 u.n, .int .i64 u.r, .slice u.a u.ws.length u.c] → Calls Try.prog 20 #[.pointer (some ⟨g, 0, none⟩)] V fun y V' => y = .returned (.int .i64 N) ∧ V = V') := fun V hV => by
              have := A12.len_any hV.gt
              rw [hN] at this
              exact this
            have CAll : Hid (∀ V, Pg w V g a s9 kr x9 kx #[.int .i64 u.k, .int .i64 u.md, .int .i64 u.ln, .int .i64 u.n, .int .i64 u.r, .slice u.a u.ws.length u.c] → Calls Try.prog 21 #[.pointer (some ⟨g, 0, none⟩)] V (A12.LsP V (s9.d.map MV.pl))) := fun V hV => A12.all_any hV.gt
            unfold A12.LsP at CAll
            have CSame : Hid (∀ V A' c' l, Pg w V g a s9 kr x9 kx #[.int .i64 u.k, .int .i64 u.md, .int .i64 u.ln, .int .i64 u.n, .int .i64 u.r, .slice u.a u.ws.length u.c] → Row V A' (mvs l) → WsR V l → l.map MV.pl = s9.d.map MV.pl → Calls Try.prog 17 #[.slice A' l.length c', .slice x9.A N x9.c] V fun y V' => y = .returned (.bool true) ∧ Below V.heap.size V V') := fun V A' c' l hV hr hw hq => by
              have := rsame_g (c := c') hr hw hV.ng (hq.trans hs9.pl) (by have := congrArg List.length hq; rw [List.length_map, List.length_map] at this; omega)
              rw [hNe] at this
              exact this
            have CSeq : Hid (∀ V, Pg w V g a s9 kr x9 kx #[.int .i64 u.k, .int .i64 u.md, .int .i64 u.ln, .int .i64 u.n, .int .i64 u.r, .slice u.a u.ws.length u.c] → Calls Try.prog 22 #[.pointer (some ⟨g, 0, none⟩)] V fun y V' => y = .returned (.int .i64 x9.q) ∧ V = V') := fun V hV => by
              have := A12.seq_any hV.gt
              rw [hs9.q] at this
              exact this
            have CTok : Hid (∀ V, Pg w V g a s9 kr x9 kx #[.int .i64 u.k, .int .i64 u.md, .int .i64 u.ln, .int .i64 u.n, .int .i64 u.r, .slice u.a u.ws.length u.c] → Calls Try.prog 23 #[.pointer (some ⟨g, 0, none⟩), .int .i64 x9.N] V fun y V' => y = .returned (.int .i64 x9.T) ∧ Pg w V' g a s9 kr x9 kx #[.int .i64 u.k, .int .i64 u.md, .int .i64 u.ln, .int .i64 u.n, .int .i64 u.r, .slice u.a u.ws.length u.c]) := fun V hV => tokens_same hV hs9
            have HS : Hid (∀ V, Pg w V g a s9 kr x9 kx #[.int .i64 u.k, .int .i64 u.md, .int .i64 u.ln, .int .i64 u.n, .int .i64 u.r, .slice u.a u.ws.length u.c] → ∀ j, V.cell? ⟨kr, j, none⟩ = (#[.int .i64 x9.k.k, .int .i64 x9.k.f, .int .i64 x9.k.t, .int .i64 x9.k.w, .int .i64 x9.k.r, .int .i64 x9.k.la, .int .i64 x9.k.d, .int .i64 x9.k.h, .int .i64 x9.k.li, .int .i64 x9.k.ra, .int .i64 x9.k.c, .int .i64 x9.L, .int .i64 x9.P, .slice x9.A N x9.c, .int .i64 x9.R, .int .i64 x9.C, .int .i64 x9.T, .int .i64 x9.N, .int .i64 x9.q] : Array Value)[j]?) := fun V hV => by rw [← hNe]; exact hV.bx.cell
            have P0 : Pg w wc.drew g a s9 kr x9 kx #[.int .i64 u.k, .int .i64 u.md, .int .i64 u.ln, .int .i64 u.n, .int .i64 u.r, .slice u.a u.ws.length u.c] := hp9.below (Below.refl _ _).drew
            have tN : ((N : Int) != (N : Int)) = false := by simp
            have tq : (x9.q != x9.q) = false := by simp
            have tT : (x9.T != x9.T) = false := by simp
            clear hp9 hs9 hq9 hq8 hN hNe HP6 HSg HQ hkb HU
            go_upto_region 35 with fail
            go_region_held3 (fun V => ∀ j, V.cell? ⟨kr, j, none⟩ = (#[.int .i64 x9.k.k, .int .i64 x9.k.f, .int .i64 x9.k.t, .int .i64 x9.k.w, .int .i64 x9.k.r, .int .i64 x9.k.la, .int .i64 x9.k.d, .int .i64 x9.k.h, .int .i64 x9.k.li, .int .i64 x9.k.ra, .int .i64 x9.k.c, .int .i64 x9.L, .int .i64 x9.P, .slice x9.A N x9.c, .int .i64 x9.R, .int .i64 x9.C, .int .i64 x9.T, .int .i64 x9.N, .int .i64 x9.q] : Array Value)[j]?) (first | (with_reducible exact HS.out _ P0) | fail)
              (first
                | (go_at_call 20; (with_reducible refine (CLen.out _ P0).mono ?_); rintro e w7 ⟨rfl, rfl⟩)
                | (go_at_call 21; (with_reducible refine (CAll.out _ P0).mono ?_); rintro e w7 ⟨A7, c7, l7, rfl, hr7, hw7, hp7, hb7⟩; have P0 := P0.below hb7; have H7 := Lib.hid (And.intro hr7 (And.intro hw7 hp7)); clear hr7 hw7 hp7)
                | (go_at_call 17; (with_reducible refine (CSame.out _ _ _ _ P0 H7.out.1 H7.out.2.1 H7.out.2.2).mono ?_); rintro e w8 ⟨rfl, hb8⟩; have P0 := P0.below hb8)
                | (go_at_call 22; (with_reducible refine (CSeq.out _ P0).mono ?_); rintro e w9 ⟨rfl, rfl⟩)
                | (go_at_call 23; (with_reducible refine (CTok.out _ P0).mono ?_); rintro e wt ⟨rfl, P0⟩)
                | fail)
            have HX : Hid (InvB w wt g a kr (i + 1)) := ⟨_, _, bg_of P0 HSg9.out.1, HSg9.out.2⟩
            clear P0 hb7 hb8
            go_wp2_with fail
            go_roundw
            case rel => exact ⟨i + 1, by go_num, by omega, HX.out⟩
            case measure => simp [intOf] <;> omega
        · go_wp2_with fail
          go_ret
          exact ⟨rfl, hbg.gt.bl⟩
end Go.Proofs.Ytmfkapbllmfegaa.gatePlays
