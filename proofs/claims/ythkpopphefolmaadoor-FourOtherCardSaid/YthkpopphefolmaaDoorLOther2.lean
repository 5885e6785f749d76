/- The walk of FourOther (written by gen_other.py). -/
import Derived.Test.YthkpopphefolmaaDoorLOther
namespace Go.Proofs.YthkpopphefolmaaDoor.fourOther
open Go.RowKit Go.Proofs.YthkpopphefolmaaDoor.G Go.Proofs.YthkpopphefolmaaDoor.Cell Go.Proofs.YthkpopphefolmaaDoor.F4
open Go.Proofs.YthkpopphefolmaaDoor.fourForward (low_more below_only tw_new)
attribute [local go_sem ↓] Go.wp_at_zero Go.wp_at_succ
set_option maxRecDepth 100000

theorem lst_blk {w : World} {B : Nat} {v : Value} {l : List Int} (h : Lst w B v l) (h0 : 0 < l.length) : ∃ g cap cur, v = .slice (some ⟨g, 0, none⟩) l.length cap ∧ B ≤ g ∧ Blk w g 3 cur ∧ l.length ≤ cap ∧ cap ≤ 9223372036854775807 ∧ ∀ j, j < l.length → cur[j]? = some (.int .i64 (nth l j)) := by
  rcases h.2 with ⟨_, e0⟩ | ⟨g, cap, cur, e, hB, hh, hle, hm, hs, ht⟩
  · omega
  · unfold maxLen at hm
    refine ⟨g, cap, cur, e, hB, hh, hle, by omega, fun j hj => ?_⟩
    have h1 : (List.map (Value.int .i64) l)[j]? = some (.int .i64 (nth l j)) := by simp [nth, hj]
    rw [← ht, List.getElem?_take, if_pos (by omega)] at h1
    simpa using h1
def cnt (m m' : List Int) : Nat → Nat
  | 0 => 0
  | k + 1 => cnt m m' k + if nth m k = nth m' k then 0 else 1
theorem cnt_one {m m' : List Int} (h : One m m') : ∀ k, cnt m m' k ≤ 1 := by
  obtain ⟨j, v, h⟩ := h
  have key : ∀ k, cnt m m' k ≤ 1 ∧ (k ≤ j → cnt m m' k = 0) := by
    intro k
    induction k with
    | zero => exact ⟨Nat.zero_le _, fun _ => rfl⟩
    | succ k ih =>
      rw [cnt]
      by_cases e : nth m k = nth m' k
      · rw [if_pos e]; exact ⟨ih.1, fun hk => ih.2 (by omega)⟩
      · rw [if_neg e]
        have hkj : k = j := by
          rcases h with h | h
          · rw [h] at e
            by_cases hkj : j = k
            · exact hkj.symm
            · exact absurd (nth_set_ne _ _ hkj).symm e
          · rw [h] at e; exact absurd rfl e
        exact ⟨by have := ih.2 (by omega); omega, fun hk => by omega⟩
  exact fun k => (key k).1
def InvC (m m' : List Int) (V0 : World) (ch kk : Value) (V : World) : Prop := ∃ k : Nat, kk = .int .i64 k ∧ k ≤ 8 ∧ ch = .int .i64 (cnt m m' k : Nat) ∧ ∃ q, V = V0.drewN q
def InvOt (w : World) (gw br : Nat) (n : Nat) (pl i : Value) (V : World) : Prop := ∃ (k : Nat) (s : St) (pc b o lo la c : Int) (g : Nat → Int) (F : Nat → Prop), pl = .int .i64 pc ∧ i = .int .i64 k ∧ k ≤ n ∧ k ≤ 200 ∧ TW V gw br s b o lo 0 c F ∧ Inv s b o lo la g ∧ s.W = 1 ∧ PInv s pc ∧ 4 ≤ pc ∧ pc ≤ 7 ∧ 0 ≤ b ∧ b ≤ k ∧ c ≤ k ∧ Below w.heap.size w V ∧ (∀ q, F q → w.heap.size ≤ q)
theorem Blk.dr {w : World} {g : Nat} {t : TypeId} {cs : Array Value} (h : Blk w g t cs) (n : Nat) : Blk (w.drewN n) g t cs := h
set_option maxHeartbeats 8000000 in
theorem walk {w : World} {A : Option Addr} {l : List Bool} {cp : Nat} (hg : Et w) (hr : Row w A (bvs l)) :
    Calls Tryd.prog 15 #[.slice A l.length cp] w fun e w' => e = .returned (.bool true) ∧ Below w.heap.size w w' := by
  have HG := Lib.hid hg
  have HR := Lib.hid hr
  clear hg hr
  go_enter Tryd.func15, Tryd.ntmps15
  go_wp2_with fail
  refine (lives_any HG.out).mono ?_
  rintro e wl1 ⟨rfl, hb1⟩
  go_wp2_with fail
  refine (rnew_any 1 (by omega)).mono ?_
  rintro e w2 ⟨br, rfl, hr2, hb2⟩
  have hp := HG.out.pos
  obtain ⟨F, hT, hF, hB⟩ := tw_new (w := wl1) (by have := hb1.size; omega) hr2 hb2
  have HT := Lib.hid hT
  have HF : Hid (∀ q, F q → w.heap.size ≤ q) := fun q hq => Nat.le_trans hb1.size (hF q hq)
  have HB : Hid (Below w.heap.size w (w2.alloc (.cells #[P br, .int .i64 0, .int .i64 0, .int .i64 0, .int .i64 0, .bool true] 102))) := bt hb1 hB
  have HGW : Hid (w.heap.size ≤ w2.heap.size) := Nat.le_trans hb1.size hb2.size
  unfold P at HT HB ⊢
  clear hT hF hB hr2 hb2 hb1
  obtain ⟨gw, hgw⟩ : ∃ g, w2.heap.size = g := ⟨_, rfl⟩
  rw [hgw] at HT HGW
  go_wp2_with fail
  generalize w2.alloc (.cells #[.pointer (some ⟨br, 0, none⟩), .int .i64 0, .int .i64 0, .int .i64 0, .int .i64 0, .bool true] 102) = V0 at *
  clear hgw
  go_loopw [4, 5] (fun v i V => InvOt w gw br l.length v i V) (fun _ i _ => l.length - (intOf i).toNat)
  case atStart => exact ⟨0, _, 4, 0, 0, 0, 0, 0, fun _ => 0, F, rfl, rfl, by omega, by omega, HT.out, inv_s0 (fW_bd 1).1 (fW_bd 1).2, rfl, fun y e => (by cases e), by omega, by omega, by omega, by omega, by omega, HB.out, HF.out⟩
  case round =>
    clear HT HF HB
    obtain ⟨k, s, pc, b, o, lo, la, c, g, F, rfl, rfl, hk, hk4, hT, hI, hW, hP, p4, p7, hb0, hbk, hck, hB, hF⟩ := hrel
    have HT := Lib.hid hT
    have HI := Lib.hid hI
    have HB := Lib.hid hB
    have HF := Lib.hid hF
    have HP := Lib.hid hP
    have HW := Lib.hid hW
    clear hT hI hB hF hP hW
    by_cases hlt : k < l.length ∧ k < 200
    · obtain ⟨hlt1, hlt4⟩ := hlt
      obtain ⟨u, hu⟩ : ∃ u, l[k]? = some u := ⟨_, List.getElem?_eq_getElem hlt1⟩
      have HU := Lib.hid hu
      obtain ⟨ab, ao, rfl, hab, _⟩ := bvs_at (HR.out.below HB.out) hu
      have HRW : Hid (∀ V : World, Below w.heap.size w V → V.cell? ⟨ab, ao + k, none⟩ = some (.bool u)) := fun V hV => by
        obtain ⟨ab', ao', eA, _, hc6⟩ := bvs_at (HR.out.below hV) HU.out
        injection eA with eA
        injection eA with eA1 eA2
        subst eA1 eA2
        exact hc6
      clear hu HU
      have hsz := HB.out.size
      have HOB : Hid (okV (b + 1) = true) := okV_mk (by omega) (by omega)
      have HE : Hid (Et wr) := Et.below HG.out HB.out hp
      have hlen : s.m.length = 8 := by have := HI.out.ok.len; rw [HW.out] at this; omega
      have HLen := Lib.hid hlen
      obtain ⟨L, hL⟩ : ∃ L, rLeft s = L := ⟨_, rfl⟩
      have HL := Lib.hid hL
      have kw := HT.out.box.cell
      unfold P at kw
      clear hlen
      go_wp2_with fail
      refine (rleft_any HT.out.reg).mono ?_
      rintro e w' ⟨rfl, rfl⟩
      rw [hL]
      clear hL
      go_wp2_with fail
      refine (rcells_any HT.out.reg).mono ?_
      rintro e w3 ⟨v3, rfl, ho3, hb3⟩
      obtain ⟨zg, zc, zcur, rfl, hzB, hzblk, hzle, hzmax, hzc⟩ := lst_blk ho3 (by rw [HLen.out]; omega)
      have HZ := Lib.hid (And.intro hzblk hzc)
      have HT3 := Lib.hid (HT.out.below hb3)
      have HB3 := Lib.hid (bt HB.out hb3)
      have HE3 : Hid (Et w3) := Et.below HG.out HB3.out hp
      have HNZ : Hid (¬ FG F gw zg) := fun h => by
        rcases h with h1 | h1
        · have := HT.out.tight zg h1; omega
        · have := HT.out.box.lt; omega
      rw [HLen.out] at hzle
      rw [HLen.out]
      have cu := HRW.out w3 HB3.out
      have hs3 := HB3.out.size
      clear kw ho3 hb3 hzblk hzc hzB
      cases u with
      | true =>
        obtain ⟨g5, hI', hb1, hb2⟩ := inv_tw HI.out HOB.out
        have HI5' := Lib.hid hI'
        have HOne' := Lib.hid (one_w s b)
        have HPl' : Hid (rLeft s = 1 → ∀ pn : Nat, pc = pn → nth (wStep (w1 s b)).m pn = nth s.m pn) := by
          intro h1 pn hpn
          have hy : ∃ y, s.rd = some y ∧ y.k = 3 := by
            cases hy : s.rd with
            | none => simp [rLeft, hy] at h1
            | some y => exact ⟨y, rfl, by have := (HI.out.ok.rd y hy).k; simp [rLeft, hy, HW.out] at h1; rw [HW.out] at this; omega⟩
          obtain ⟨y, hy, hk3⟩ := hy
          have h2 := HP.out y hy hk3
          have h3 : pn = pl 1 y.p y.q := by omega
          rw [h3]
          exact place_w HI.out HW.out hy hk3
        have HP5' := Lib.hid (pinv_w (b := b) HP.out)
        have HW5' : Hid ((wStep (w1 s b)).W = 1) := (w1_rd s b).2.trans HW.out
        clear hI'
        have kt := HT3.out.box.cell
        go_wp2_with fail
        refine (turn_w HT3.out HE3.out HOB.out hb0 (by omega)).mono ?_
        rintro e w5 ⟨rfl, F5, hT5, hM5, hO5⟩
        clear kt
        obtain ⟨s5, hs5⟩ : ∃ s5, wStep (w1 s b) = s5 := ⟨_, rfl⟩
        rw [hs5] at hT5 HI5' HOne' HPl' HP5' HW5'
        have HT5 := Lib.hid hT5
        have HI5 := Lib.hid HI5'.out
        have HW5 := Lib.hid HW5'.out
        have HP5 := Lib.hid HP5'.out
        have HOne := Lib.hid HOne'.out
        have HPl : Hid (L = 1 → ∀ pn : Nat, pc = pn → nth s5.m pn = nth s.m pn) := by show L = 1 → _; rw [← HL.out]; exact HPl'.out
        have HPl := Lib.hid fun (pn : Nat) (h : pc = pn) (h1 : L = 1) => HPl.out h1 pn h
        have HF5 : Hid (∀ q, F5 q → w.heap.size ≤ q) := low_more HF.out hM5 hs3
        have HB5 := Lib.hid (below_only HB3.out hO5 HF.out HGW.out)
        have HZ5 := Lib.hid (Only.blk HZ.out.1 hO5 HNZ.out)
        clear hT5 hM5 hO5 hs5 HI5' HOne' HPl' HP5' HW5'
        have k5 := HT5.out.box.cell
        unfold P at k5
        have hlen5 : s5.m.length = 8 := by have := HI5.out.ok.len; rw [HW5.out] at this; omega
        have HLen5 := Lib.hid hlen5
        clear hlen5
        go_wp2_with fail
        refine (rcells_any HT5.out.reg).mono ?_
        rintro e w6 ⟨v6, rfl, ho6, hb6⟩
        obtain ⟨yg, yc, ycur, rfl, hyB, hyblk, hyle, hymax, hyc⟩ := lst_blk ho6 (by rw [HLen5.out]; omega)
        have HY := Lib.hid hyblk
        have HT6 := Lib.hid (HT5.out.below hb6)
        have HB6 := Lib.hid (bt HB5.out hb6)
        have HZ6 := Lib.hid (HZ5.out.bel hb6)
        rw [HLen5.out] at hyle hyc
        rw [HLen5.out]
        have HYC := Lib.hid hyc
        have k6 := HT6.out.box.cell
        unfold P at k6
        clear k5 ho6 hb6 hyblk hyB hyc
        go_upto_region 16 with fail
        clear k6
        go_loopw [9, 10] (fun ch kk V => InvC s.m s5.m w6 ch kk V) (fun _ kk _ => 8 - (intOf kk).toNat)
        case atStart => exact ⟨0, rfl, by omega, rfl, 0, by simp [World.drewN]⟩
        case round =>
          obtain ⟨j, rfl, hj, rfl, q, hq⟩ := hrel
          have HZw : Hid (Blk wr zg 3 zcur) := by show Blk wr zg 3 zcur; rw [hq]; exact HZ6.out
          have HYw : Hid (Blk wr yg 3 ycur) := by show Blk wr yg 3 ycur; rw [hq]; exact HY.out
          have HQ := Lib.hid hq
          clear hq
          by_cases hj8 : j < 8
          · have c1 := (HZw.out.cell j).trans (HZ.out.2 j (by rw [HLen.out]; omega))
            have c2 := (HYw.out.cell j).trans (HYC.out j hj8)
            have hct := cnt_one HOne.out (j + 1)
            have hj8' : (j : Int) < 8 := by omega
            have h8z : (j : Int) < zc := by omega
            have h8y : (j : Int) < yc := by omega
            have HCt : Hid (cnt s.m s5.m (j + 1) = cnt s.m s5.m j + if nth s.m j = nth s5.m j then 0 else 1) := rfl
            have hcl := cnt_one HOne.out j
            obtain ⟨ct, hctt⟩ : ∃ ct, cnt s.m s5.m j = ct := ⟨_, rfl⟩
            rw [hctt] at HCt hcl ⊢
            obtain ⟨za, hza⟩ : ∃ z, nth s.m j = z := ⟨_, rfl⟩
            obtain ⟨zb, hzb⟩ : ∃ z, nth s5.m j = z := ⟨_, rfl⟩
            rw [hza, hzb] at HCt
            rw [hza] at c1
            rw [hzb] at c2
            clear hct hctt hza hzb
            by_cases heq : za = zb
            · have tE : (za != zb) = false := by rw [bne_eq_false_iff_eq]; exact heq
              have HCe : Hid (cnt s.m s5.m (j + 1) = ct) := by show cnt s.m s5.m (j + 1) = ct; rw [HCt.out, if_pos heq]; rfl
              clear heq
              go_upto_region 18 with fail
              go_quiet (fail)
              go_wp2_with fail
              go_roundw
              case rel => exact ⟨j + 1, by go_num, by omega, by rw [HCe.out], q + nq, by rw [HQ.out, World.drewN_drewN]⟩
              case measure => simp [intOf]; omega
            · have tE : (za != zb) = true := by rw [bne_iff_ne]; exact heq
              have HCe : Hid (cnt s.m s5.m (j + 1) = ct + 1) := by show cnt s.m s5.m (j + 1) = ct + 1; rw [HCt.out, if_neg heq]
              clear heq
              go_upto_region 18 with fail
              go_quiet (fail)
              go_wp2_with fail
              go_roundw
              case rel => exact ⟨j + 1, by go_num, by omega, by rw [HCe.out]; simp, q + nq, by rw [HQ.out, World.drewN_drewN]⟩
              case measure => simp [intOf]; omega
          · obtain rfl : j = 8 := by omega
            have hcl := cnt_one HOne.out 8
            obtain ⟨ct, hctt⟩ : ∃ ct, cnt s.m s5.m 8 = ct := ⟨_, rfl⟩
            rw [hctt] at hcl ⊢
            rw [show ((8 : Nat) : Int) = 8 from rfl]
            clear hctt
            have S0 : Below w6.heap.size w6 wr := by rw [HQ.out]; exact bn (Below.refl _ _) q
            have HT7 := Lib.hid (HT6.out.below S0)
            have HB7 := Lib.hid (bt HB6.out S0)
            clear S0
            have cu7 := HRW.out wr HB7.out
            have y1 := (HYw.out.cell 1).trans (HYC.out 1 (by omega))
            have y2 := (HYw.out.cell 2).trans (HYC.out 2 (by omega))
            have y3 := (HYw.out.cell 3).trans (HYC.out 3 (by omega))
            have bb := fun i hi => HI5.out.ok.bits i hi
            have b1 : 0 ≤ nth s5.m 1 ∧ nth s5.m 1 ≤ 1 := by rcases bb 1 (by omega) with h | h <;> omega
            have b2 : 0 ≤ nth s5.m 2 ∧ nth s5.m 2 ≤ 1 := by rcases bb 2 (by omega) with h | h <;> omega
            have b3 : 0 ≤ nth s5.m 3 ∧ nth s5.m 3 ≤ 1 := by rcases bb 3 (by omega) with h | h <;> omega
            obtain ⟨b10, b11⟩ := b1
            obtain ⟨b20, b21⟩ := b2
            obtain ⟨b30, b31⟩ := b3
            have hyc8 : (8 : Int) ≤ yc := by omega
            clear bb
            by_cases hL1 : L = 1
            · subst hL1
              obtain ⟨pn, hpn⟩ := Int.eq_ofNat_of_zero_le (show 0 ≤ pc by omega)
              have HPc : Hid (nth s5.m pn = nth s.m pn) := HPl.out pn hpn rfl
              subst hpn
              have e1 := (HYw.out.cell pn).trans (HYC.out pn (by omega))
              have e2 := (HZw.out.cell pn).trans (HZ.out.2 pn (by rw [HLen.out]; omega))
              rw [HPc.out] at e1
              obtain ⟨zz, hzz⟩ : ∃ z, nth s.m pn = z := ⟨_, rfl⟩
              rw [hzz] at e1 e2
              clear hzz
              go_upto_region 24 with fail
              go_quiet (fail)
              go_wp2_with fail
              go_roundw
              case rel =>
                have HAd := HT7.out.below (bn (Below.refl wr.heap.size wr) nq)
                exact ⟨k + 1, s5, _, _, _, _, _, _, g5, F5, rfl, by go_num, by omega, by omega, HAd, HI5.out, HW5.out, HP5.out, by omega, by omega, by omega, by omega, by omega, bn HB7.out nq, HF5.out⟩
              case measure => simp [intOf]; omega
            · have tL : ((L : Int) == 1) = false := by rw [beq_eq_false_iff_ne]; omega
              go_upto_region 24 with fail
              go_quiet (fail)
              go_wp2_with fail
              go_roundw
              case rel =>
                have HAd := HT7.out.below (bn (Below.refl wr.heap.size wr) nq)
                exact ⟨k + 1, s5, _, _, _, _, _, _, g5, F5, rfl, by go_num, by omega, by omega, HAd, HI5.out, HW5.out, HP5.out, by omega, by omega, by omega, by omega, by omega, bn HB7.out nq, HF5.out⟩
              case measure => simp [intOf]; omega
      | false =>
        obtain ⟨v, hv1, hv2, hI'⟩ := inv_tr HI.out
        have HV1 := Lib.hid hv1
        have HI5' := Lib.hid hI'
        have HOne' := Lib.hid (one_r s)
        have HPr' := Lib.hid (pinv_r (pc := pc) HI.out HW.out)
        clear hI' hv1 hv2
        go_wp2_with fail
        refine (turn_r HT3.out (by omega) v HV1.out).mono ?_
        rintro e w5 ⟨rfl, F5, hT5, hM5, hO5⟩
        obtain ⟨g5, hg5⟩ : ∃ g5, g = g5 := ⟨_, rfl⟩
        have hOne := HOne'.out
        have hPr := HPr'.out
        have hI5 := HI5'.out
        obtain ⟨s5, hs5⟩ : ∃ s5, rStep (rBegin s) = s5 := ⟨_, rfl⟩
        rw [hs5] at hT5 hOne hPr hI5
        have HPr0 : Hid (PInv s pc → (rLeft s ≠ 2 → PInv s5 pc)) := fun _ => hPr.2.2
        rw [hg5] at hI5
        have HT5 := Lib.hid hT5
        have HI5 := Lib.hid hI5
        have HW5 := Lib.hid hPr.1
        have HOne := Lib.hid hOne
        have HPr := Lib.hid hPr.2
        have HF5 : Hid (∀ q, F5 q → w.heap.size ≤ q) := low_more HF.out hM5 hs3
        have HB5 := Lib.hid (below_only HB3.out hO5 HF.out HGW.out)
        have HZ5 := Lib.hid (Only.blk HZ.out.1 hO5 HNZ.out)
        generalize (if rDone (rBegin s) = true then v else 0) = vv at *
        generalize rDone (rBegin s) = dd at *
        clear hT5 hM5 hO5 hs5 hg5 hOne hPr hI5 HI5' HOne' HPr' HPr0 HV1
        have k5 := HT5.out.box.cell
        unfold P at k5
        have hlen5 : s5.m.length = 8 := by have := HI5.out.ok.len; rw [HW5.out] at this; omega
        have HLen5 := Lib.hid hlen5
        clear hlen5
        go_wp2_with fail
        refine (rcells_any HT5.out.reg).mono ?_
        rintro e w6 ⟨v6, rfl, ho6, hb6⟩
        obtain ⟨yg, yc, ycur, rfl, hyB, hyblk, hyle, hymax, hyc⟩ := lst_blk ho6 (by rw [HLen5.out]; omega)
        have HY := Lib.hid hyblk
        have HT6 := Lib.hid (HT5.out.below hb6)
        have HB6 := Lib.hid (bt HB5.out hb6)
        have HZ6 := Lib.hid (HZ5.out.bel hb6)
        rw [HLen5.out] at hyle hyc
        rw [HLen5.out]
        have HYC := Lib.hid hyc
        have k6 := HT6.out.box.cell
        unfold P at k6
        clear k5 ho6 hb6 hyblk hyB hyc
        go_upto_region 16 with fail
        clear k6
        go_loopw [9, 10] (fun ch kk V => InvC s.m s5.m w6 ch kk V) (fun _ kk _ => 8 - (intOf kk).toNat)
        case atStart => exact ⟨0, rfl, by omega, rfl, 0, by simp [World.drewN]⟩
        case round =>
          obtain ⟨j, rfl, hj, rfl, q, hq⟩ := hrel
          have HZw : Hid (Blk wr zg 3 zcur) := by show Blk wr zg 3 zcur; rw [hq]; exact HZ6.out
          have HYw : Hid (Blk wr yg 3 ycur) := by show Blk wr yg 3 ycur; rw [hq]; exact HY.out
          have HQ := Lib.hid hq
          clear hq
          by_cases hj8 : j < 8
          · have c1 := (HZw.out.cell j).trans (HZ.out.2 j (by rw [HLen.out]; omega))
            have c2 := (HYw.out.cell j).trans (HYC.out j hj8)
            have hct := cnt_one HOne.out (j + 1)
            have hj8' : (j : Int) < 8 := by omega
            have h8z : (j : Int) < zc := by omega
            have h8y : (j : Int) < yc := by omega
            have HCt : Hid (cnt s.m s5.m (j + 1) = cnt s.m s5.m j + if nth s.m j = nth s5.m j then 0 else 1) := rfl
            have hcl := cnt_one HOne.out j
            obtain ⟨ct, hctt⟩ : ∃ ct, cnt s.m s5.m j = ct := ⟨_, rfl⟩
            rw [hctt] at HCt hcl ⊢
            obtain ⟨za, hza⟩ : ∃ z, nth s.m j = z := ⟨_, rfl⟩
            obtain ⟨zb, hzb⟩ : ∃ z, nth s5.m j = z := ⟨_, rfl⟩
            rw [hza, hzb] at HCt
            rw [hza] at c1
            rw [hzb] at c2
            clear hct hctt hza hzb
            by_cases heq : za = zb
            · have tE : (za != zb) = false := by rw [bne_eq_false_iff_eq]; exact heq
              have HCe : Hid (cnt s.m s5.m (j + 1) = ct) := by show cnt s.m s5.m (j + 1) = ct; rw [HCt.out, if_pos heq]; rfl
              clear heq
              go_upto_region 18 with fail
              go_quiet (fail)
              go_wp2_with fail
              go_roundw
              case rel => exact ⟨j + 1, by go_num, by omega, by rw [HCe.out], q + nq, by rw [HQ.out, World.drewN_drewN]⟩
              case measure => simp [intOf]; omega
            · have tE : (za != zb) = true := by rw [bne_iff_ne]; exact heq
              have HCe : Hid (cnt s.m s5.m (j + 1) = ct + 1) := by show cnt s.m s5.m (j + 1) = ct + 1; rw [HCt.out, if_neg heq]
              clear heq
              go_upto_region 18 with fail
              go_quiet (fail)
              go_wp2_with fail
              go_roundw
              case rel => exact ⟨j + 1, by go_num, by omega, by rw [HCe.out]; simp, q + nq, by rw [HQ.out, World.drewN_drewN]⟩
              case measure => simp [intOf]; omega
          · obtain rfl : j = 8 := by omega
            have hcl := cnt_one HOne.out 8
            obtain ⟨ct, hctt⟩ : ∃ ct, cnt s.m s5.m 8 = ct := ⟨_, rfl⟩
            rw [hctt] at hcl ⊢
            rw [show ((8 : Nat) : Int) = 8 from rfl]
            clear hctt
            have S0 : Below w6.heap.size w6 wr := by rw [HQ.out]; exact bn (Below.refl _ _) q
            have HT7 := Lib.hid (HT6.out.below S0)
            have HB7 := Lib.hid (bt HB6.out S0)
            clear S0
            have cu7 := HRW.out wr HB7.out
            have y1 := (HYw.out.cell 1).trans (HYC.out 1 (by omega))
            have y2 := (HYw.out.cell 2).trans (HYC.out 2 (by omega))
            have y3 := (HYw.out.cell 3).trans (HYC.out 3 (by omega))
            have bb := fun i hi => HI5.out.ok.bits i hi
            have b1 : 0 ≤ nth s5.m 1 ∧ nth s5.m 1 ≤ 1 := by rcases bb 1 (by omega) with h | h <;> omega
            have b2 : 0 ≤ nth s5.m 2 ∧ nth s5.m 2 ≤ 1 := by rcases bb 2 (by omega) with h | h <;> omega
            have b3 : 0 ≤ nth s5.m 3 ∧ nth s5.m 3 ≤ 1 := by rcases bb 3 (by omega) with h | h <;> omega
            obtain ⟨b10, b11⟩ := b1
            obtain ⟨b20, b21⟩ := b2
            obtain ⟨b30, b31⟩ := b3
            have hyc8 : (8 : Int) ≤ yc := by omega
            clear bb
            by_cases hL2 : L = 2
            · subst hL2
              have b0 := bit_nat (HI5.out.ok.bits 1 (by omega))
              obtain ⟨m1, hm1⟩ : ∃ z, nth s5.m 1 = z := ⟨_, rfl⟩
              obtain ⟨mn, hmn⟩ := Int.eq_ofNat_of_zero_le (show 0 ≤ m1 by omega)
              rw [hm1] at y1 b10 b11
              have hPP := HPr.out.1 HL.out
              rw [hm1, hmn, Int.toNat_natCast] at hPP
              subst hmn
              have y4 := (HYw.out.cell (2 + mn)).trans (HYC.out (2 + mn) (by omega))
              have b4 : 0 ≤ nth s5.m (2 + mn) ∧ nth s5.m (2 + mn) ≤ 1 := by rcases HI5.out.ok.bits (2 + mn) (by omega) with h | h <;> omega
              obtain ⟨b40, b41⟩ := b4
              obtain ⟨m4, hm4⟩ : ∃ z, nth s5.m (2 + mn) = z := ⟨_, rfl⟩
              rw [hm4] at y4 b40 b41 hPP
              have HPP := Lib.hid hPP
              have v1 : IntKind.i64.wrap (2 * (mn : Int)) = 2 * mn := by rw [IntKind.wrap_i64]; omega
              have v2 : IntKind.i64.wrap (4 + 2 * (mn : Int)) = 4 + 2 * mn := by rw [IntKind.wrap_i64]; omega
              have v3 : IntKind.i64.wrap (2 + (mn : Int)) = 2 + mn := by rw [IntKind.wrap_i64]; omega
              have v4 : IntKind.i64.wrap (4 + 2 * (mn : Int) + m4) = 4 + 2 * mn + m4 := by rw [IntKind.wrap_i64]; omega
              have i1 : (2 + (mn : Int)) < 8 := by omega
              have i2 : 0 ≤ (2 + (mn : Int)) := by omega
              have i3 : (2 + (mn : Int)).toNat = 2 + mn := by omega
              clear hPP hm1 hm4 b0
              go_upto_region 23 with fail
              go_quiet (fail)
              have z7 := HT7.out.box.lt
              have HT8 := Lib.hid (HT7.out.below (bn (Below.refl wr.heap.size wr) nq))
              have HB8 := Lib.hid (bn HB7.out nq)
              have cu8 : (wr.drewN nq).cell? ⟨ab, ao + k, none⟩ = some (.bool false) := HRW.out _ HB8.out
              generalize wr.drewN nq = V8 at *
              go_upto_region 24 with fail
              go_quiet (fail)
              go_wp2_with fail
              go_roundw
              case rel =>
                have HAd := HT8.out.below (bn (Below.refl V8.heap.size V8) nq)
                exact ⟨k + 1, s5, _, _, _, _, _, _, g5, F5, rfl, by go_num, by omega, by omega, HAd, HI5.out, HW5.out, HPP.out, by omega, by omega, by omega, by omega, by omega, bn HB8.out nq, HF5.out⟩
              case measure => simp [intOf]; omega
            · have tL : ((L : Int) == 2) = false := by rw [beq_eq_false_iff_ne]; omega
              have HPP := Lib.hid (HPr.out.2 (by rw [HL.out]; exact hL2))
              go_upto_region 24 with fail
              go_quiet (fail)
              go_wp2_with fail
              go_roundw
              case rel =>
                have HAd := HT7.out.below (bn (Below.refl wr.heap.size wr) nq)
                exact ⟨k + 1, s5, _, _, _, _, _, _, g5, F5, rfl, by go_num, by omega, by omega, HAd, HI5.out, HW5.out, HPP.out, by omega, by omega, by omega, by omega, by omega, bn HB7.out nq, HF5.out⟩
              case measure => simp [intOf]; omega
    · have hx : l.length ≤ k ∨ (k < l.length ∧ 200 ≤ k) := by omega
      clear hlt
      rcases hx with hx | ⟨hx1, hx2⟩
      · go_wp2_with fail
        go_ret
        exact ⟨rfl, HB.out⟩
      · go_wp2_with fail
        go_ret
        exact ⟨rfl, HB.out⟩
end Go.Proofs.YthkpopphefolmaaDoor.fourOther
