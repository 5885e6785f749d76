/- The walk of TripleLast. -/
import Derived.Test.YtdablfanmlmjkaaDoorVLast0
import Derived.Deep.DeepCutAuto
import Derived.Deep.CutRange
import Derived.Deep.CutBlock
namespace Go.Proofs.YtdablfanmlmjkaaDoor.tripleLast
open Go.RowKit Go.Proofs.YtdablfanmlmjkaaDoor.G Go.Proofs.YtdablfanmlmjkaaDoor.Cell Go.Proofs.YtdablfanmlmjkaaDoor.T3
attribute [local go_sem ↓] Go.wp_at_zero Go.wp_at_succ
set_option maxRecDepth 100000
theorem sl_cell {w : World} {ab ao k : Nat} {l : List Sl} {u : Sl} (h : Row w (some ⟨ab, ao, none⟩) (l.flatMap scell)) (hk : l[k]? = some u) : w.cell? ⟨ab, ao + k, none⟩ = some (.slice u.1 u.2.1.length u.2.2) := by
  obtain ⟨b, o, e, _, hc⟩ := sls_at h hk
  injection e with e
  injection e with e1 e2
  subst e1 e2
  exact hc
def InvO (w : World) (br W n : Nat) (i : Value) (V : World) : Prop := ∃ (k : Nat) (s : T3.St) (c : Int) (F : Nat → Prop), i = .int .i64 k ∧ k ≤ n ∧ k ≤ 20 ∧ RegX V br s c F ∧ s.wr = none ∧ s.rd = none ∧ s.W = W ∧ c ≤ 100 * k ∧ Below w.heap.size w V ∧ (∀ q, F q → w.heap.size ≤ q)
def FillP (gl W : Nat) (V1 V : World) : Prop := ∃ own : List Int, own.length = W ∧ allOk own = true ∧ Blk V gl 3 (ints own) ∧ Only (fun b => b = gl) V1 V
set_option maxHeartbeats 4000000 in
theorem walk {w : World} {n : Int} {A : Option Addr} {l : List Sl} {cp : Nat} (hg : Et w) (hn : n ≤ 9223372036854775807) (hr : Row w A (l.flatMap scell)) (hl : l.length ≤ cp) (hc : cp ≤ 9223372036854775807) (hs : ∀ (k : Nat) (y : Sl), l[k]? = some y → SlOk w y) :
    Calls Tryd.prog 7 #[.int .i64 n, .slice A l.length cp] w fun e w' => e = .returned (.bool true) ∧ Below w.heap.size w w' := by
  have HG := Lib.hid hg
  have HR := Lib.hid hr
  have HS := Lib.hid hs
  clear hg hr hs
  obtain ⟨W1, W6⟩ := fW_bd n
  obtain ⟨W, hW⟩ : ∃ W, fW n = W := ⟨_, rfl⟩
  have HWn := Lib.hid hW
  rw [hW] at W1 W6
  clear hW
  go_enter Tryd.func7, Tryd.ntmps7
  go_wp2_with fail
  refine (lives_any HG.out).mono ?_
  rintro e w1 ⟨rfl, hb1⟩
  go_wp2_with fail
  refine (rnew_any n hn).mono ?_
  rintro e w2 ⟨br, rfl, hr2, hb2⟩
  rw [HWn.out] at hr2
  have HR2 := Lib.hid hr2
  have HB2 : Hid (Below w.heap.size w w2) := bt hb1 hb2
  have HF2 : Hid (∀ q, (fun b => w1.heap.size ≤ b) q → w.heap.size ≤ q) := fun q hq => Nat.le_trans hb1.size hq
  clear hr2 hb1 hb2
  unfold P
  go_wp2_with fail
  refine (rwords_any HR2.out).mono ?_
  rintro e w' ⟨rfl, rfl⟩
  rw [show (s0 W).W = W from rfl]
  go_wp2_with fail
  go_loopw [7] (fun i V => InvO w br W l.length i V) (fun i _ => l.length - (intOf i).toNat)
  case atStart => exact ⟨0, s0 W, 0, _, rfl, by omega, by omega, HR2.out, rfl, rfl, rfl, by omega, HB2.out, HF2.out⟩
  case round =>
    clear HR2 HB2 HF2
    obtain ⟨k, s, c, F, rfl, hk, hk4, hX, hsw, hsr, hsW, hck, hB, hF⟩ := hrel
    by_cases hlt : k < l.length ∧ k < 20
    · obtain ⟨hlt1, hlt4⟩ := hlt
      obtain ⟨u, hu⟩ : ∃ u, l[k]? = some u := ⟨_, List.getElem?_eq_getElem hlt1⟩
      obtain ⟨ab, ao, rfl, hab, hc0⟩ := sls_at (HR.out.below hB) hu
      obtain ⟨i1, i2, i3⟩ := HS.out k u hu
      obtain ⟨uA, ul, uc⟩ := u
      simp only at hc0 i1 i2 i3
      obtain ⟨V0, rfl⟩ : ∃ V, V = wr := ⟨_, rfl⟩
      have hT := hX.tight
      obtain ⟨F0, hF0⟩ : ∃ F0 : Nat → Prop, (fun b => F b ∧ b < V0.heap.size) = F0 := ⟨_, rfl⟩
      rw [hF0] at hT
      have hmk := make_run W (by omega) W rfl V0
      have b2 := b01 V0 (.cells (ints (zs W)) 3)
      have hlow : ∀ q, F0 q → w.heap.size ≤ q := by rw [← hF0]; exact fun q hq => hF q hq.1
      have hout : ¬ F0 V0.heap.size := by rw [← hF0]; exact fun h => absurd h.2 (Nat.lt_irrefl _)
      obtain ⟨gl, hgl⟩ : ∃ g, V0.heap.size = g := ⟨_, rfl⟩
      have hB1 : Blk (V0.alloc (.cells (ints (zs W)) 3)) gl 3 (ints (zs W)) := by rw [← hgl]; exact Blk.new _ _ _
      have HL0 : Hid (LW w (V0.alloc (.cells (ints (zs W)) 3)) br gl (zs W) s c F0) := ⟨hT.below b2, hB1, by rw [← hgl]; exact hout, hlow, ba1 hB _⟩
      have HGL : Hid (w.heap.size ≤ gl) := by show w.heap.size ≤ gl; rw [← hgl]; exact hB.size
      have HI := Lib.hid i3
      have HSt := Lib.hid (And.intro hsw (And.intro hsr hsW))
      have HU := Lib.hid hu
      rw [hgl] at hmk
      clear hX hT hB hF b2 hlow hout hgl hB1 hsw hsr hsW i3 hF0 hc0 hu
      go_upto_region 9 with fail
      generalize V0.alloc (.cells (ints (zs W)) 3) = V1 at *
      clear hmk
      go_upto_block 2 with fail
      go_cut [9] (fun _ V => FillP gl W V1 V)
      case first =>
        go_wp2_with fail
        go_loopw [9] (fun i V => ∃ kk : Nat, i = .int .i64 kk ∧ kk ≤ W ∧ FillP gl W V1 V) (fun i _ => W - (intOf i).toNat)
        case atStart => exact ⟨0, rfl, by omega, zs W, zs_length W, allOk_rep W rfl, HL0.out.own, .refl _ _⟩
        case round =>
          obtain ⟨kk, rfl, hkk, own, ho1, ho2, ho3, ho4⟩ := hrel
          have HBr : Hid (Below w.heap.size w wr) := Only.to_below HL0.out.bel ho4 (fun q e => by rw [e]; exact HGL.out) HL0.out.bel.size
          have HO := Lib.hid (And.intro ho1 (And.intro ho2 (And.intro ho3 ho4)))
          have hcl := sl_cell (HR.out.below HBr.out) HU.out
          simp only at hcl
          by_cases h1 : kk < W
          · by_cases h2 : kk < ul.length
            · obtain ⟨ib, io, rfl, hib, hic⟩ := row_at (HI.out.below HBr.out) h2
              obtain ⟨z, hz⟩ : ∃ z, nth ul kk = z := ⟨_, rfl⟩
              rw [hz] at hic
              have hq0 := Int.tmod_nonneg 2147483648 (show 0 ≤ IntKind.u64.wrap z by rw [IntKind.wrap_u64]; omega)
              have hq1 := Int.tmod_lt_of_pos (IntKind.u64.wrap z) (show (0 : Int) < 2147483648 by omega)
              obtain ⟨q, hq⟩ : ∃ q, (IntKind.u64.wrap z).tmod 2147483648 = q := ⟨_, rfl⟩
              rw [hq] at hq0 hq1
              have c1 := (ho3.cell kk).trans (Cell.ints_at own kk (by omega))
              have c2 := ho3.frozen kk
              have h1' : kk < own.length := by omega
              clear ho1 ho2 ho3 ho4 hz
              go_wp2_with fail
              go_roundw
              case rel => exact ⟨kk + 1, by go_num, by omega, own.set kk q, by rw [List.length_set]; exact HO.out.1, allOk_set HO.out.2.1 kk (okV_mk (by omega) (by omega)), by rw [← ints_set]; exact HO.out.2.2.1.set_ kk _, HO.out.2.2.2.set_ rfl kk _⟩
              case measure => simp [intOf]; omega
            · clear ho1 ho2 ho3 ho4
              go_wp2_with fail
              go_meet
              exact ⟨own, HO.out.1, HO.out.2.1, HO.out.2.2.1, HO.out.2.2.2⟩
          · clear ho1 ho2 ho3 ho4
            go_wp2_with fail
            go_meet
            exact ⟨own, HO.out.1, HO.out.2.1, HO.out.2.2.1, HO.out.2.2.2⟩
      case rest =>
        obtain ⟨own, ho1, ho2, ho3, ho4⟩ := hcut
        have hL1 : LW w wc br gl own s c F0 := ⟨HL0.out.reg.only ho4 (fun q hq e => HL0.out.out (by rw [← e]; exact hq)), ho3, HL0.out.out, HL0.out.low, Only.to_below HL0.out.bel ho4 (fun q e => by rw [e]; exact HGL.out) HL0.out.bel.size⟩
        obtain ⟨q1, q2, q3⟩ := wl_begin HSt.out.1 HSt.out.2.1 (ho1.trans HSt.out.2.2.symm) ho2
        have HL1 := Lib.hid hL1
        have HWr := Lib.hid (wwrite_any (cp := W) hL1.reg hL1.row)
        rw [ho1, q1] at HWr
        have HW2 := Lib.hid q2
        have HW3 : Hid ((wBegin s own).W = W) := q3.trans HSt.out.2.2
        have HLen := Lib.hid ho1
        clear ho1 ho2 ho3 ho4 hL1 q1 q2 q3 HL0 HI HU
        go_wp2_with fail
        refine HWr.out.mono ?_
        rintro e w5 ⟨rfl, hr5, hO5⟩
        have HL5 := Lib.hid (HL1.out.call hr5 (more_gr _ _) hO5)
        generalize wBegin s own = s1 at *
        generalize Gr F0 wc.heap.size = F5 at *
        clear hr5 hO5 HWr HL1
        go_wp2_with fail
        go_loopw [10] (fun i V => ∃ (kk : Nat) (s : T3.St) (c' : Int), i = .int .i64 kk ∧ LW w V br gl own s c' F5 ∧ WL s own kk ∧ s.W = W ∧ c' ≤ c + kk ∧ kk ≤ 7) (fun i _ => 9 - (intOf i).toNat)
        case atStart => exact ⟨0, s1, c, rfl, HL5.out, HW2.out, HW3.out, by omega, by omega⟩
        case round =>
          clear HL5 HW2 HW3
          obtain ⟨kk, s2, c2, rfl, hL, hw, hW2, hc2, hkk⟩ := hrel
          have HL := Lib.hid hL
          have HW := Lib.hid hw
          have HWW := Lib.hid hW2
          have HBu := Lib.hid (wbusy_any hL.reg)
          obtain ⟨b1, b2⟩ := wl_busy hw
          clear hL hw
          by_cases h1 : kk ≤ W
          · rw [b1 (by omega)] at HBu
            clear b1 b2 hW2
            go_wp2_with fail
            refine HBu.out.mono ?_
            rintro e w' ⟨rfl, rfl⟩
            go_wp2_with fail
            refine (wstep_any HL.out.reg (by omega)).mono ?_
            rintro e w6 ⟨rfl, hr6, hO6⟩
            have L6 := Lib.hid (HL.out.call hr6 (More.refl _ _) hO6)
            have K6 := wl_step HL.out.reg.ok HW.out (by rw [HWW.out]; exact h1)
            have HK6 := Lib.hid K6
            clear hr6 hO6 K6
            go_wp2_with fail
            go_roundw
            case rel => exact ⟨kk + 1, _, _, by go_num, L6.out, HK6.out.1, HK6.out.2.trans HWW.out, by omega, by omega⟩
            case measure => simp [intOf]; omega
          · obtain ⟨e1, e2, e3, e4⟩ := b2 (by omega)
            rw [e1] at HBu
            have HE := Lib.hid (And.intro e2 (And.intro e3 e4))
            clear b1 b2 hW2 e1 e2 e3 e4
            go_wp2_with fail
            refine HBu.out.mono ?_
            rintro e w' ⟨rfl, rfl⟩
            go_wp2_with fail
            go_loopw [11] (fun i V => ∃ (t : Nat) (s : T3.St) (c' : Int) (F : Nat → Prop), i = .int .i64 t ∧ t ≤ 2 ∧ LW w V br gl own s c' F ∧ s.wr = none ∧ s.rd = none ∧ Cur s own ∧ s.W = W ∧ c' ≤ c + 10 + 10 * t) (fun i _ => 2 - (intOf i).toNat)
            case atStart => exact ⟨0, s2, c2, F5, rfl, by omega, HL.out, HE.out.1, HE.out.2.1, HE.out.2.2, HWW.out, by omega⟩
            case round =>
              clear HL HW HWW HBu HE
              obtain ⟨t, s3, c3, F3, rfl, ht, hL, g1, g2, g3, g4, hc3⟩ := hrel
              have HL := Lib.hid hL
              have HE := Lib.hid (And.intro g1 (And.intro g2 (And.intro g3 g4)))
              clear hL g1 g2 g3 g4
              by_cases h3 : t < 2
              · obtain ⟨r1, r2, r3⟩ := rl_begin HE.out.1 HE.out.2.1 (by rw [HLen.out, HE.out.2.2.2]) HE.out.2.2.1
                have HR1 := Lib.hid r1
                have HR2 : Hid ((rBegin s3).W = W ∧ (rBegin s3).rd ≠ none) := ⟨r2.trans HE.out.2.2.2, r3⟩
                clear r1 r2 r3
                go_wp2_with fail
                refine (rread_any HL.out.reg).mono ?_
                rintro e w7 ⟨rfl, hr7, hO7⟩
                have HL7 := Lib.hid (HL.out.call hr7 (more_gr _ _) hO7)
                generalize rBegin s3 = s4 at *
                generalize Gr F3 _ = F7 at *
                clear hr7 hO7
                go_wp2_with fail
                go_loopw [13, 12] (fun kv gv V => ∃ (kk : Nat) (s : T3.St) (c' : Int), kv = .int .i64 kk ∧ LW w V br gl own s c' F7 ∧ RL s own kk ∧ s.W = W ∧ c' ≤ c3 + kk ∧ kk ≤ 8 ∧ (s.rd = none → Out V gv own)) (fun kv _ _ => 9 - (intOf kv).toNat)
                case atStart => exact ⟨0, s4, c3, rfl, HL7.out, HR1.out, HR2.out.1, by omega, by omega, fun h => absurd h HR2.out.2⟩
                case round =>
                  clear HL7 HR1 HR2 HL HE
                  obtain ⟨kk, s5, c5, rfl, hL, hq, hW5, hc5, hkk5, ho5⟩ := hrel
                  have HL := Lib.hid hL
                  have HQ := Lib.hid hq
                  have HWW := Lib.hid hW5
                  have HBu := Lib.hid (rbusy_any hL.reg)
                  have HOu := Lib.hid ho5
                  clear hL hq hW5 ho5
                  by_cases h4 : s5.rd = none
                  · have e1 : s5.rd.isSome = false := by rw [h4]; rfl
                    rw [e1] at HBu
                    have ho := HOu.out h4
                    obtain ⟨A5, cp5, rfl, hc1, hc2', hrow⟩ := ho.row
                    have HRa := Lib.hid hrow
                    have HRb := Lib.hid HL.out.row
                    have HH4 := Lib.hid h4
                    clear e1 ho hrow h4
                    go_wp2_with fail
                    refine HBu.out.mono ?_
                    rintro e w' ⟨rfl, rfl⟩
                    have hln := HLen.out
                    go_wp2_with fail
                    rw [← hln]
                    refine (C04.rsame1_any (l := own) (r := own) (c := cp5) (d := own.length) HRa.out HRb.out (by omega) (by omega)).mono ?_
                    rintro e w8 ⟨rfl, m8, rfl⟩
                    rw [show C04.eqb own own = true from decide_eq_true rfl, hln]
                    clear hln
                    go_wp2_with fail
                    go_roundw
                    case rel => exact ⟨t + 1, s5, c5, F7, by go_num, by omega, HL.out.below (bn (Below.refl _ _) m8), HQ.out.1, HH4.out, rl_cur HQ.out HH4.out, HWW.out, by omega⟩
                    case measure => simp [intOf]; omega
                  · have e1 : s5.rd.isSome = true := by cases hh : s5.rd with | none => exact absurd hh h4 | some y => rfl
                    rw [e1] at HBu
                    have k7 := rl_k HL.out.reg.ok HQ.out h4
                    have HK := Lib.hid (rl_step HL.out.reg.ok HQ.out h4)
                    clear e1 h4
                    go_wp2_with fail
                    refine HBu.out.mono ?_
                    rintro e w' ⟨rfl, rfl⟩
                    go_wp2_with fail
                    refine (rstep_any HL.out.reg (by omega)).mono ?_
                    rintro e w8 ⟨v8, rfl, ho8, hr8, hO8⟩
                    have L8 := Lib.hid (HL.out.call hr8 (More.refl _ _) hO8)
                    have HO8 := Lib.hid ho8
                    clear hr8 hO8 ho8
                    go_wp2_with fail
                    go_roundw
                    case rel => exact ⟨kk + 1, _, _, by go_num, L8.out, HK.out.1, HK.out.2.1.trans HWW.out, by omega, by omega, fun h => by have := HO8.out; rwa [HK.out.2.2 h] at this⟩
                    case measure => simp [intOf]; omega
              · go_wp2_with fail
                go_roundw
                case rel => exact ⟨k + 1, s3, c3, F3, by go_num, by omega, by omega, HL.out.reg, HE.out.1, HE.out.2.1, HE.out.2.2.2, by omega, HL.out.bel, HL.out.low⟩
                case measure => simp [intOf]; omega
    · have hx : l.length ≤ k ∨ (k < l.length ∧ 20 ≤ k) := by omega
      have HB := Lib.hid hB
      clear hlt hX hB hF hsw hsr hsW
      rcases hx with hx | ⟨hx1, hx2⟩
      · go_wp2_with fail
        go_ret
        exact ⟨rfl, HB.out⟩
      · go_wp2_with fail
        go_ret
        exact ⟨rfl, HB.out⟩
end Go.Proofs.YtdablfanmlmjkaaDoor.tripleLast
