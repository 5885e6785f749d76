/- Sorting messages: slices' symMerge, its walk, first part. Written by gen_q12.py. -/
import Derived.Test.YtmfkapbllmfegaaQ12
import Derived.Deep.CutBlock
import Derived.Deep.DeepCutAuto
import Derived.Deep.CutRange
namespace Go.Proofs.Ytmfkapbllmfegaa.L10
open Go.RowKit Go.Proofs.Ytmfkapbllmfegaa.G Go.Sort
set_option maxRecDepth 100000
variable {w0 w W : World} {g n c q : Nat} {s : Nat → MV}
set_option maxHeartbeats 8000000 in
theorem sym3a_any {f : Nat} (h : Sv w0 g n c s w) (hq : Blk w0 q 108 FLane) (hg : q ≠ g) (a m b : Nat) (hma : a + 1 < m) (hmb : m + 1 < b) (hb : b ≤ n) (hn : n ≤ 1000) (hf : b - a ≤ f + 1) (hmid : (a + b) / 2 < m)
    (ih : ∀ (a m b : Nat) (s : Nat → MV) (w : World), a < m → m < b → b ≤ n → b - a ≤ f → Sv w0 g n c s w → Calls Try.prog 82 #[.slice (some ⟨g, 0, none⟩) n c, .int .i64 a, .int .i64 m, .int .i64 b, .func (.func 77) #[] #[.pointer (some ⟨q, 0, none⟩)]] w fun e w' => e = .returned (.tuple #[]) ∧ Sv w0 g n c (symM ltM f a m b s) w') :
    Calls Try.prog 82 #[.slice (some ⟨g, 0, none⟩) n c, .int .i64 a, .int .i64 m, .int .i64 b, .func (.func 77) #[] #[.pointer (some ⟨q, 0, none⟩)]] w fun e w' => e = .returned (.tuple #[]) ∧ Sv w0 g n c (symM ltM (f + 1) a m b s) w' := by
  have mixed : Try.prog.follows .mixedOrders = true := by kernel_rfl
  have HS := Lib.hid h
  have HQ := Lib.hid (And.intro hq hg)
  have IH := Lib.hid ih
  obtain ⟨mid, hm'⟩ : ∃ mid, (a + b) / 2 = mid := ⟨_, rfl⟩
  obtain ⟨nn, hnn⟩ : ∃ nn, mid + m = nn := ⟨_, rfl⟩
  obtain ⟨p, hp⟩ : ∃ p, mid + m - 1 = p := ⟨_, rfl⟩
  rw [hm'] at hmid
  obtain ⟨ma, hma'⟩ : ∃ ma, m - a = ma := ⟨_, rfl⟩
  obtain ⟨bm, hbm'⟩ : ∃ bm, b - m = bm := ⟨_, rfl⟩
  have m0 : (m : Int) - (a : Int) = ma := by omega
  have m2 : ((ma : Int) == 1) = false := by rw [beq_eq_false_iff_ne]; omega
  have m1 : (b : Int) - (m : Int) = bm := by omega
  have m3 : ((bm : Int) == 1) = false := by rw [beq_eq_false_iff_ne]; omega
  have z1 : ((a : Int) + (b : Int)) / 2 = (mid : Int) := by omega
  have z2 : (mid : Int) + (m : Int) = (nn : Int) := by omega
  have z3 : (nn : Int) - 1 = (p : Int) := by omega
  obtain ⟨st0, hst⟩ : ∃ st0, nn - b = st0 := ⟨_, rfl⟩
  have z4 : (mid : Int) < m := by omega
  have z5 : (nn : Int) - (b : Int) = (st0 : Int) := by omega
  have H0 : Hid ((a + b) / 2 = mid ∧ mid + m = nn ∧ mid + m - 1 = p ∧ (if mid < m then mid + m - b else a) = st0 ∧ (if mid < m then mid else m) = mid ∧ a ≤ st0 ∧ st0 ≤ mid ∧ m ≠ a + 1 ∧ b ≠ m + 1) :=
    ⟨hm', hnn, hp, by rw [if_pos hmid]; omega, by rw [if_pos hmid], by omega, by omega, by omega, by omega⟩
  have HB : Hid (a + 1 < m ∧ m + 1 < b ∧ b - a ≤ f + 1 ∧ mid < m) := ⟨hma, hmb, hf, hmid⟩
  clear h hq hg ih hma hmb hmid hm' hnn hp hma' hbm' hf hst
  go_enter Try.func82, Try.ntmps82
  go_wp2_with fail
  go_loopw [20, 21] (fun v u V => ∃ (i j f' : Nat), v = .int .i64 i ∧ u = .int .i64 j ∧ st0 ≤ i ∧ i ≤ j ∧ j ≤ mid ∧ j - i ≤ f' ∧ Sv w0 g n c s V ∧ bsA (fun c => !ltM (s (p - c)) (s c)) f' i j = bsA (fun c => !ltM (s (p - c)) (s c)) (mid - st0) st0 mid) (fun v u _ => (intOf u).toNat - (intOf v).toNat)
  case atStart => exact ⟨st0, mid, mid - st0, rfl, rfl, by omega, by have := H0.out; omega, by omega, by omega, HS.out, rfl⟩
  case round =>
    obtain ⟨i, j, f', rfl, rfl, h1, h2, h3, h4, hs1, ho1⟩ := hrel
    have HO1 := Lib.hid ho1
    have HS1 := Lib.hid hs1
    clear ho1 hs1 HS
    by_cases hlt : i < j
    · have hltz : (i : Int) < j := by omega
      obtain ⟨f'', rfl⟩ : ∃ f'', f' = f'' + 1 := ⟨f' - 1, by omega⟩
      obtain ⟨h, hh⟩ : ∃ h, (i + j) / 2 = h := ⟨_, rfl⟩
      have hz : ((i : Int) + (j : Int)) / 2 = (h : Int) := by omega
      have h5 : i ≤ h ∧ h < j := by omega
      obtain ⟨u, hhr⟩ : ∃ u, p - h = u := ⟨_, rfl⟩
      have BH := H0.out
      have BB := HB.out
      obtain ⟨q1, q2, q3, q4, q5, q6, q7, q8, q9⟩ := BH
      have b0 : h ≤ p ∧ u < b := by clear q4 q5; omega
      have hz2 : (p : Int) - (h : Int) = (u : Int) := by omega
      have b1 : (h : Int) < n := by clear q4 q5; omega
      have b2 : (u : Int) < n := by omega
      have hwp : IntKind.i64.wrap (u : Int) = (u : Int) := by rw [IntKind.wrap_i64]; omega
      have b3 : h < n := by omega
      have b4 : u < n := by omega
      clear q1 q2 q3 q4 q5 q6 q7 q8 q9
      have A1 := fun t os => HS1.out.gat (k := u) (by omega) t os
      have A2 := fun t os => HS1.out.gat (k := h) (by omega) t os
      have CC := Lib.hid (fun t os => HS1.out.cmp HQ.out.1 HQ.out.2 (s u) (s h) t os)
      obtain ⟨r, hr⟩ : ∃ r, ltM (s u) (s h) = r := ⟨_, rfl⟩
      have HR := Lib.hid hr
      have hd := cmp_dec hr
      unfold MV.val at CC
      obtain ⟨x, hx⟩ : ∃ x, s u = x := ⟨_, rfl⟩
      obtain ⟨y, hy⟩ : ∃ y, s h = y := ⟨_, rfl⟩
      rw [hx] at A1 CC hd
      rw [hy] at A2 CC hd
      clear hx hy
      have x0 := fun t os => (A1 t os).1
      have x1 := fun t os => (A1 t os).2.1
      have x2 := fun t os => (A1 t os).2.2.1
      have x3 := fun t os => (A1 t os).2.2.2.1
      have x4 := fun t os => (A1 t os).2.2.2.2
      have y0 := fun t os => (A2 t os).1
      have y1 := fun t os => (A2 t os).2.1
      have y2 := fun t os => (A2 t os).2.2.1
      have y3 := fun t os => (A2 t os).2.2.2.1
      have y4 := fun t os => (A2 t os).2.2.2.2
      generalize cmpI x.ln y.ln = cv at *
      clear A1 A2 hr
      have HH := Lib.hid (And.intro hlt (And.intro hh (And.intro h5 hhr)))
      clear hlt hh h5 BB b0 hhr
      cases r with
      | true => as_aux_lemma =>
        have hcv : cv < 0 := of_decide_eq_true hd
        go_wp2_with fail
        go_quiet_grown (first | (go_at_call 77; exact CC.out _ _))
        go_wp2_with fail
        have hh := HH.out
        go_roundw
        case rel => exact ⟨i, h, f'', rfl, rfl, h1, by omega, by omega, by omega, HS1.out.gw nq osq, by rw [← HO1.out, bsA_no hh.1 hh.2.1 (by rw [hh.2.2.2, HR.out]; rfl)]⟩
        case measure => simp [intOf] <;> omega
      | false => as_aux_lemma =>
        have hcv : ¬ cv < 0 := of_decide_eq_false hd
        go_wp2_with fail
        go_quiet_grown (first | (go_at_call 77; exact CC.out _ _))
        go_wp2_with fail
        have hh := HH.out
        go_roundw
        case rel => exact ⟨h + 1, j, f'', by go_num, rfl, by omega, by omega, h3, by omega, HS1.out.gw nq osq, by rw [← HO1.out, bsA_yes hh.1 hh.2.1 (by rw [hh.2.2.2, HR.out]; rfl)]⟩
        case measure => simp [intOf] <;> omega
    · obtain ⟨st, hst'⟩ : ∃ st, i = st := ⟨_, rfl⟩
      obtain ⟨en, hen⟩ : ∃ en, mid + m - st = en := ⟨_, rfl⟩
      have hsi : bsA (fun c => !ltM (s (p - c)) (s c)) (mid - st0) st0 mid = st := by rw [← HO1.out, bsA_end hlt, hst']
      have HZ : Hid (symM ltM (f + 1) a m b s = symT (symM ltM f) a m b mid st en s) := symM_3 H0.out.2.2.2.2.2.2.2.1 H0.out.2.2.2.2.2.2.2.2 H0.out.1 H0.out.2.2.2.1 H0.out.2.2.2.2.1 H0.out.2.2.1 hsi hen
      have BD : a ≤ st ∧ st ≤ m ∧ st ≤ mid ∧ m ≤ en ∧ en ≤ b ∧ mid ≤ en ∧ mid < b ∧ a < mid ∧ b - a ≤ f + 1 ∧ a + 1 < m ∧ m + 1 < b := by
        have BH := H0.out
        have BB := HB.out
        obtain ⟨q1, q2, q3, q4, q5, q6, q7, q8, q9⟩ := BH
        clear q4 q5
        omega
      have y1 : (nn : Int) - (st : Int) = (en : Int) := by
        have := H0.out.2.1
        omega
      have hltz : ¬ (i : Int) < j := by omega
      rw [hst'] at hltz ⊢
      have HS2 := HS1
      clear hst' hen hsi HO1 HS1 hlt H0 HB h1 h2 h3 h4
      obtain ⟨s1, e1⟩ : ∃ s1, tI (st < m ∧ m < en) (rota st m en) s = s1 := ⟨_, rfl⟩
      obtain ⟨s2, e2⟩ : ∃ s2, tI (a < st ∧ st < mid) (symM ltM f a st mid) s1 = s2 := ⟨_, rfl⟩
      have HE : Hid (symM ltM (f + 1) a m b s = tI (mid < en ∧ en < b) (symM ltM f mid en b) s2) := by show _ = _; rw [HZ.out]; unfold symT; rw [e1, e2]
      have H1 := Lib.hid e1
      have H2 := Lib.hid e2
      have HBD := Lib.hid BD
      clear e1 e2 HZ BD
      obtain ⟨r0, hr0⟩ : ∃ r, decide (st < m ∧ m < en) = r := ⟨_, rfl⟩
      have HR0 := Lib.hid hr0
      clear hr0
      go_upto_region 39 with fail
      go_cut [185] (fun v V => v = .bool r0 ∧ Sv w0 g n c s V)
      case first => as_aux_lemma =>
        have BD := HBD.out
        rcases (show (st < m ∧ m < en) ∨ (st < m ∧ ¬ m < en) by omega) with hc | hc
        · have t0 : (st : Int) < m := by omega
          have u0 : (m : Int) < en := by omega
          have er : r0 = true := by rw [← HR0.out]; exact decide_eq_true (by omega)
          have ER := Lib.hid er
          clear hc BD er
          go_wp2_with fail
          go_meet
          exact ⟨by rw [ER.out], HS2.out⟩
        · have t0 : (st : Int) < m := by omega
          have u0 : ¬ (m : Int) < en := by omega
          have er : r0 = false := by rw [← HR0.out]; exact decide_eq_false (by omega)
          have ER := Lib.hid er
          clear hc BD er
          go_wp2_with fail
          go_meet
          exact ⟨by rw [ER.out], HS2.out⟩
      case rest =>
        obtain ⟨rfl, hsx0⟩ := hcut
        have HSx0 := Lib.hid hsx0
        clear hsx0
        go_upto_if 185 with fail
        go_cut [] (fun V => Sv w0 g n c s1 V)
        case first => as_aux_lemma =>
          cases hr : r0 with
          | true =>
            have hp := of_decide_eq_true (HR0.out.trans hr)
            have hE : Hid (s1 = rota st m en s) := by show _ = _; rw [← H1.out, tI_pos hp]
            have BD := HBD.out
            have C := Lib.hid (fun W cc (h : Sv w0 g n c s W) => rot_any (w := W) h st m en (by omega) (by omega) (by omega) hn cc)
            clear hp BD
            go_wp2_with fail
            refine (C.out _ _ HSx0.out).mono ?_
            rintro e wx ⟨rfl, hx⟩
            have HX := Lib.hid hx
            clear hx
            go_wp2_with fail
            go_meet
            rw [hE.out]; exact HX.out
          | false =>
            have hp := of_decide_eq_false (HR0.out.trans hr)
            have hE : Hid (s1 = s) := by show _ = _; rw [← H1.out, tI_neg hp]
            clear hp
            go_wp2_with fail
            go_meet
            rw [hE.out]; exact HSx0.out
        case rest =>
          have HSy0 := Lib.hid hcut
          clear hcut HSx0
          obtain ⟨r1, hr1⟩ : ∃ r, decide (a < st ∧ st < mid) = r := ⟨_, rfl⟩
          have HR1 := Lib.hid hr1
          clear hr1
          go_upto_region 41 with fail
          go_cut [199] (fun v V => v = .bool r1 ∧ Sv w0 g n c s1 V)
          case first => as_aux_lemma =>
            have BD := HBD.out
            rcases (show (a < st ∧ st < mid) ∨ ¬ a < st ∨ (a < st ∧ ¬ st < mid) by omega) with hc | hc | hc
            · have t0 : (a : Int) < st := by omega
              have u0 : (st : Int) < mid := by omega
              have er : r1 = true := by rw [← HR1.out]; exact decide_eq_true (by omega)
              have ER := Lib.hid er
              clear hc BD er
              go_wp2_with fail
              go_meet
              exact ⟨by rw [ER.out], HSy0.out⟩
            · have t0 : ¬ (a : Int) < st := by omega
              have er : r1 = false := by rw [← HR1.out]; exact decide_eq_false (by omega)
              have ER := Lib.hid er
              clear hc BD er
              go_wp2_with fail
              go_meet
              exact ⟨by rw [ER.out], HSy0.out⟩
            · have t0 : (a : Int) < st := by omega
              have u0 : ¬ (st : Int) < mid := by omega
              have er : r1 = false := by rw [← HR1.out]; exact decide_eq_false (by omega)
              have ER := Lib.hid er
              clear hc BD er
              go_wp2_with fail
              go_meet
              exact ⟨by rw [ER.out], HSy0.out⟩
          case rest =>
            obtain ⟨rfl, hsx1⟩ := hcut
            have HSx1 := Lib.hid hsx1
            clear hsx1
            go_upto_if 199 with fail
            go_cut [] (fun V => Sv w0 g n c s2 V)
            case first => as_aux_lemma =>
              cases hr : r1 with
              | true =>
                have hp := of_decide_eq_true (HR1.out.trans hr)
                have hE : Hid (s2 = symM ltM f a st mid s1) := by show _ = _; rw [← H2.out, tI_pos hp]
                have BD := HBD.out
                have C := Lib.hid (fun W (h : Sv w0 g n c s1 W) => IH.out a st mid s1 W (by omega) (by omega) (by omega) (by omega) h)
                clear hp BD
                go_wp2_with fail
                refine (C.out _ HSx1.out).mono ?_
                rintro e wx ⟨rfl, hx⟩
                have HX := Lib.hid hx
                clear hx
                go_wp2_with fail
                go_meet
                rw [hE.out]; exact HX.out
              | false =>
                have hp := of_decide_eq_false (HR1.out.trans hr)
                have hE : Hid (s2 = s1) := by show _ = _; rw [← H2.out, tI_neg hp]
                clear hp
                go_wp2_with fail
                go_meet
                rw [hE.out]; exact HSx1.out
            case rest =>
              have HSy1 := Lib.hid hcut
              clear hcut HSx1
              obtain ⟨r2, hr2⟩ : ∃ r, decide (mid < en ∧ en < b) = r := ⟨_, rfl⟩
              have HR2 := Lib.hid hr2
              clear hr2
              go_upto_region 43 with fail
              go_cut [213] (fun v V => v = .bool r2 ∧ Sv w0 g n c s2 V)
              case first => as_aux_lemma =>
                have BD := HBD.out
                rcases (show (mid < en ∧ en < b) ∨ (mid < en ∧ ¬ en < b) by omega) with hc | hc
                · have t0 : (mid : Int) < en := by omega
                  have u0 : (en : Int) < b := by omega
                  have er : r2 = true := by rw [← HR2.out]; exact decide_eq_true (by omega)
                  have ER := Lib.hid er
                  clear hc BD er
                  go_wp2_with fail
                  go_meet
                  exact ⟨by rw [ER.out], HSy1.out⟩
                · have t0 : (mid : Int) < en := by omega
                  have u0 : ¬ (en : Int) < b := by omega
                  have er : r2 = false := by rw [← HR2.out]; exact decide_eq_false (by omega)
                  have ER := Lib.hid er
                  clear hc BD er
                  go_wp2_with fail
                  go_meet
                  exact ⟨by rw [ER.out], HSy1.out⟩
              case rest =>
                obtain ⟨rfl, hsx2⟩ := hcut
                have HSx2 := Lib.hid hsx2
                clear hsx2
                as_aux_lemma =>
                cases hr : r2 with
                | true =>
                  have hp := of_decide_eq_true (HR2.out.trans hr)
                  have hE : Hid (symM ltM (f + 1) a m b s = symM ltM f mid en b s2) := by show _ = _; rw [HE.out, tI_pos hp]
                  have BD := HBD.out
                  have C := Lib.hid (fun W (h : Sv w0 g n c s2 W) => IH.out mid en b s2 W (by omega) (by omega) (by omega) (by omega) h)
                  clear hp BD
                  go_wp2_with fail
                  refine (C.out _ HSx2.out).mono ?_
                  rintro e wx ⟨rfl, hx⟩
                  have HX := Lib.hid hx
                  clear hx
                  go_wp2_with fail
                  go_end0
                  exact ⟨rfl, by rw [hE.out]; exact HX.out⟩
                | false =>
                  have hp := of_decide_eq_false (HR2.out.trans hr)
                  have hE : Hid (symM ltM (f + 1) a m b s = s2) := by show _ = _; rw [HE.out, tI_neg hp]
                  clear hp
                  go_wp2_with fail
                  go_end0
                  exact ⟨rfl, by rw [hE.out]; exact HSx2.out⟩
end Go.Proofs.Ytmfkapbllmfegaa.L10
