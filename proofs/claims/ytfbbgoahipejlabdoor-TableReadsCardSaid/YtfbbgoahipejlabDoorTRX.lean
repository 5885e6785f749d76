/- Texts laid together: TR2, LTReads. -/
import Derived.Test.YtfbbgoahipejlabDoorTR1
import Derived.Test.YtfbbgoahipejlabDoorDecA
import Derived.Test.YtfbbgoahipejlabDoorBRefA
import Derived.Test.YtfbbgoahipejlabDoorBRef3
import Derived.Test.YtfbbgoahipejlabDoorTLive
import Derived.Test.YtfbbgoahipejlabDoorRSam
import Derived.Test.YtfbbgoahipejlabDoorBTurn
/- The document's own Decode: the contract of the program's. -/
namespace Go.Proofs.YtfbbgoahipejlabDoor.T
open Go.RowKit Go.Proofs.YtfbbgoahipejlabDoor.G Go.Proofs.YtfbbgoahipejlabDoor.C04
open Go.Proofs.YtfbbgoahipejlabDoor.configSame (blk5 below5)
set_option maxRecDepth 100000
theorem re2 (p : List UInt8) : re [1, 1] p 0 = if p.length < 2 then 9 else 0 := by
  show W.nxE (W.nxL p 0 1) (W.nxE p 0 1) 1 = _
  by_cases h0 : p.length < 1
  · have e1 : W.nxE p 0 1 = 9 := by rw [W.nxE, if_neg (by decide), if_neg (by decide), if_pos (by omega)]
    rw [e1, W.nxE, if_pos (by decide), if_pos (by omega)]
  · have e1 : W.nxE p 0 1 = 0 := by rw [W.nxE, if_neg (by decide), if_neg (by decide), if_neg (by omega)]
    have e2 : W.nxL p 0 1 = p.drop 1 := by rw [W.nxL, if_neg (by decide), if_neg (by decide), if_neg (by omega)]; rfl
    rw [e1, e2, W.nxE, if_neg (by decide), if_neg (by decide)]
    by_cases h1 : p.length < 2
    · rw [if_pos h1, if_pos (by rw [List.length_drop]; omega)]
    · rw [if_neg h1, if_neg (by rw [List.length_drop]; omega)]
def zeroV : Value := .agg #[.int .i64 0, .int .i64 0, .slice none 0 0, .slice none 0 0, .slice none 0 0]
set_option maxHeartbeats 4000000 in
theorem rdecode_any {w : World} {A : Option Addr} {c : Nat} {l : List UInt8} (hr : W.Rd w A l) (hl : l.length ≤ 2048) (hc : l.length ≤ c) (hc1 : c ≤ 9223372036854775807) : Calls Tryd.prog 9 #[.slice A l.length c] w (DecPost w l) := by
  have B0 := Blk.new w 30 zcfg
  have HB := b01 w (.cells zcfg 30)
  have HO := Lib.hid (W.ropen_any (hr.alloc (.cells zcfg 30)) hl hc hc1)
  obtain ⟨e0, he0⟩ : ∃ x, W.openE l = x := ⟨_, rfl⟩
  obtain ⟨p, hp⟩ : ∃ x, W.openL l = x := ⟨_, rfl⟩
  have HE := Lib.hid (And.intro he0 hp)
  clear hr he0 hp
  unfold zcfg at B0 HB HO
  by_cases h0 : e0 = 0
  · subst h0
    have HO1 := Lib.hid HE.out.1
    have h2 := HE.out.2
    clear hc hc1
    go_enter Tryd.func9, Tryd.ntmps9
    go_upto_region 4 with (go_at_call 64; refine HO.out.mono ?_; rintro e w1 ⟨x1, rfl, hx1, hb1⟩; rw [HE.out.1]; rw [HE.out.2] at hx1; obtain ⟨A1, c1, rfl, hc1, hm1, hr1⟩ := hx1)
    have B1 := B0.bel hb1
    have HB1 := bt HB hb1
    have N8 := b01 w1 (.cells #[.int .i64 1, .int .i64 1] 3)
    have R8 : Row (w1.alloc (.cells #[.int .i64 1, .int .i64 1] 3)) (some ⟨w1.heap.size, 0, none⟩) (ivs [1, 1]) := Row.of_blk (Blk.new w1 3 _) fun j u hj => by simpa [ivs, iv] using hj
    have HM : Hid (Calls Tryd.prog 65 #[.agg #[.slice A1 p.length c1, .int .i64 0, .slice none 0 0], .slice (some ⟨w1.heap.size, 0, none⟩) 2 2] (w1.alloc (.cells #[.int .i64 1, .int .i64 1] 3)) (TakePost w1 (w1.alloc (.cells #[.int .i64 1, .int .i64 1] 3)) p 0 [1, 1])) := rtake_any (e := 0) N8 hr1 hc1 hm1 R8 (cw := 2) (by simp)
    have HN8 := Lib.hid N8
    clear hc1 hm1 hr1 hb1 HB B0 R8 N8
    go_upto_region 5 with (go_at_call 65; go_loud ((with_reducible refine HM.out.mono ?_); rintro r w2 ⟨A2, c2, v2, rfl, hr2, hc2, hm2, ho2, hb2⟩; obtain ⟨b2, d2, rfl, hB2, hz2, hz3⟩ := own_at (n := 2) ho2 (by omega) (by rw [rv_len]; rfl)))
    obtain ⟨l2, hl2⟩ : ∃ x, rl [1, 1] p 0 = x := ⟨_, rfl⟩
    obtain ⟨e2, he2⟩ : ∃ x, re [1, 1] p 0 = x := ⟨_, rfl⟩
    obtain ⟨y0, hy0⟩ : ∃ x, W.nxV p 0 1 = x := ⟨_, rfl⟩
    obtain ⟨y1, hy1⟩ : ∃ x, W.nxV (rl [1] p 0) (re [1] p 0) 1 = x := ⟨_, rfl⟩
    have hrv : rv [1, 1] p 0 = [y0, y1] := by rw [← hy0, ← hy1]; rfl
    rw [hrv] at hz3
    have q0 : w2.cell? ⟨b2, 0, none⟩ = some (.int .i64 y0) := hz3 0 y0 rfl
    have q1 : w2.cell? ⟨b2, 1, none⟩ = some (.int .i64 y1) := hz3 1 y1 rfl
    have hp2 := re2 p
    rw [he2] at hp2
    have HP := Lib.hid (And.intro hp2 (And.intro hl2 (And.intro he2 (And.intro hy0 hy1))))
    rw [hl2] at hr2 hc2 ⊢
    rw [he2]
    have NB : Below w1.heap.size w1 (w2.alloc (.cells #[.slice A2 l2.length c2, .int .i64 e2, .slice (some ⟨b2, 0, none⟩) 2 d2] 111)) := ba1 (bt HN8.out hb2) _
    have B3 := B1.bel NB
    have HB3 := Lib.hid (bt HB1 NB)
    have X3 := Blk.new w2 111 #[.slice A2 l2.length c2, .int .i64 e2, .slice (some ⟨b2, 0, none⟩) 2 d2]
    have q0' : (w2.alloc (.cells #[.slice A2 l2.length c2, .int .i64 e2, .slice (some ⟨b2, 0, none⟩) 2 d2] 111)).cell? ⟨b2, 0, none⟩ = some (.int .i64 y0) := by rw [(b01 w2 _).cell hz2]; exact q0
    have q1' : (w2.alloc (.cells #[.slice A2 l2.length c2, .int .i64 e2, .slice (some ⟨b2, 0, none⟩) 2 d2] 111)).cell? ⟨b2, 1, none⟩ = some (.int .i64 y1) := by rw [(b01 w2 _).cell hz2]; exact q1
    have HR2 : Hid (W.Rd (w2.alloc (.cells #[.slice A2 l2.length c2, .int .i64 e2, .slice (some ⟨b2, 0, none⟩) 2 d2] 111)) A2 l2 ∧ l2.length ≤ c2 ∧ c2 ≤ 9223372036854775807) := ⟨hr2.below NB, hc2, hm2⟩
    have hg2 : w.heap.size < w2.heap.size := by have h1 := B1.lt; have h3 := (bt HN8.out hb2).size; omega
    clear hr2 hc2 hm2 ho2 hb2 hB2 hz3 hrv hp2 hl2 he2 hy0 hy1 q0 q1 NB B1 HB1 HN8 HM hz2
    generalize w2.heap.size = g2 at *
    generalize w2.alloc (.cells #[.slice A2 l2.length c2, .int .i64 e2, .slice (some ⟨b2, 0, none⟩) 2 d2] 111) = V3 at *
    have n1 : g2 ≠ w.heap.size := by omega
    have n2 : ¬ (w.heap.size = g2) := by omega
    have k1 := B3.cell
    have f1 := B3.frozen
    have z1 := B3.lt
    have kx := X3.cell
    have zx := X3.lt
    clear hg2
    by_cases h9 : e2 = 0
    · subst h9
      have hlen : ¬ p.length < 2 := fun h => by
        have := HP.out.1.trans (if_pos h)
        omega
      by_cases hv : y0 = 231 ∧ y1 = 1
      · obtain ⟨rfl, rfl⟩ := hv
        have H0 : Hid (opE l = 0) := by
          show opE l = 0
          rw [opE, HE.out.1, if_pos rfl, HE.out.2, if_neg hlen, if_pos ⟨HP.out.2.2.2.1, HP.out.2.2.2.2⟩]
        have HDL : Hid (dL l = l2) := by show rl [1, 1] (W.openL l) 0 = l2; rw [HE.out.2]; exact HP.out.2.1
        have HDE : Hid (dE l = 0) := by show re [1, 1] (W.openL l) 0 = 0; rw [HE.out.2]; exact HP.out.2.2.1
        have HK := Lib.hid (rread_any (e := 0) HR2.out.1 HR2.out.2.1 HR2.out.2.2)
        clear hlen
        obtain ⟨C, hC⟩ : ∃ x, rCfg l2 0 = x := ⟨_, rfl⟩
        obtain ⟨L4, hL4⟩ : ∃ x, rCfgL l2 0 = x := ⟨_, rfl⟩
        obtain ⟨e4, he4⟩ : ∃ x, rCfgE l2 0 = x := ⟨_, rfl⟩
        obtain ⟨n0, hn0⟩ : ∃ x, W.endE L4 e4 = x := ⟨_, rfl⟩
        have HEQ := Lib.hid (And.intro hC (And.intro hL4 (And.intro he4 hn0)))
        have HDC : Hid (dC l = C) := by show rCfg (dL l) (dE l) = C; rw [HDL.out, HDE.out]; exact hC
        have HDN : Hid (dN l = n0) := by show W.endE (rCfgL (dL l) (dE l)) (rCfgE (dL l) (dE l)) = n0; rw [HDL.out, HDE.out, hL4, he4]; exact hn0
        clear hC hL4 he4 hn0
        have H3 := B3
        go_upto_region 10 with (go_at_call 66; (with_reducible refine HK.out.mono ?_); rintro r w4 ⟨v4, A4, c4, rfl, ho4, hr4, hc4, hm4, hb4⟩; rw [HEQ.out.1] at ho4; rw [HEQ.out.2.1] at hr4 hc4 ⊢; rw [HEQ.out.2.2.1]; obtain ⟨v1, v2, v3, rfl, o1, o2, o3, hwb⟩ := ho4; obtain ⟨Q1, s1, rfl⟩ := own_slice o1; obtain ⟨Q2, s2, rfl⟩ := own_slice o2; obtain ⟨Q3, s3, rfl⟩ := own_slice o3)
        have hat : CfgAt w4 (.agg #[.int .i64 C.P, .int .i64 C.F, .slice Q1 C.ws.length s1, .slice Q2 C.cs.length s2, .slice Q3 C.ac.length s3]) C := CfgOwn.at_ (B := V3.heap.size) ⟨_, _, _, rfl, o1, o2, o3, hwb⟩
        have HCA := Lib.hid ((hat.alloc (.cells #[.int .i64 C.P, .int .i64 C.F, .slice Q1 C.ws.length s1, .slice Q2 C.cs.length s2, .slice Q3 C.ac.length s3] 30)).alloc (.cells #[.slice A4 L4.length c4, .int .i64 e4] 109))
        have D1 := (Blk.new w4 30 #[.int .i64 C.P, .int .i64 C.F, .slice Q1 C.ws.length s1, .slice Q2 C.cs.length s2, .slice Q3 C.ac.length s3]).alloc (.cells #[.slice A4 L4.length c4, .int .i64 e4] 109)
        have D2 := Blk.new_at (w := w4.alloc (.cells #[.int .i64 C.P, .int .i64 C.F, .slice Q1 C.ws.length s1, .slice Q2 C.cs.length s2, .slice Q3 C.ac.length s3] 30)) (n := w4.heap.size + 1) (by simp) 109 #[.slice A4 L4.length c4, .int .i64 e4]
        have hwV : w.heap.size ≤ V3.heap.size := HB3.out.size
        have B5 := ((B3.bel hb4).alloc (.cells #[.int .i64 C.P, .int .i64 C.F, .slice Q1 C.ws.length s1, .slice Q2 C.cs.length s2, .slice Q3 C.ac.length s3] 30)).alloc (.cells #[.slice A4 L4.length c4, .int .i64 e4] 109)
        have HB5 := Lib.hid (ba1 (ba1 (bt HB3.out hb4) (.cells #[.int .i64 C.P, .int .i64 C.F, .slice Q1 C.ws.length s1, .slice Q2 C.cs.length s2, .slice Q3 C.ac.length s3] 30)) (.cells #[.slice A4 L4.length c4, .int .i64 e4] 109))
        have HO5 := Lib.hid (And.intro (((o1.less hwV).alloc (.cells #[.int .i64 C.P, .int .i64 C.F, .slice Q1 C.ws.length s1, .slice Q2 C.cs.length s2, .slice Q3 C.ac.length s3] 30)).alloc (.cells #[.slice A4 L4.length c4, .int .i64 e4] 109)) (And.intro (((o2.less hwV).alloc (.cells #[.int .i64 C.P, .int .i64 C.F, .slice Q1 C.ws.length s1, .slice Q2 C.cs.length s2, .slice Q3 C.ac.length s3] 30)).alloc (.cells #[.slice A4 L4.length c4, .int .i64 e4] 109)) (((o3.less hwV).alloc (.cells #[.int .i64 C.P, .int .i64 C.F, .slice Q1 C.ws.length s1, .slice Q2 C.cs.length s2, .slice Q3 C.ac.length s3] 30)).alloc (.cells #[.slice A4 L4.length c4, .int .i64 e4] 109))))
        have hn4 : w.heap.size < w4.heap.size := by have h1 := B3.lt; have h3 := hb4.size; omega
        have HWB := Lib.hid hwb
        clear o1 o2 o3 hat hr4 hc4 hm4 hb4 k1 f1 z1 kx zx B3 H3 X3 HK hwV q0' q1' hwb
        generalize ((w4.alloc (.cells #[.int .i64 C.P, .int .i64 C.F, .slice Q1 C.ws.length s1, .slice Q2 C.cs.length s2, .slice Q3 C.ac.length s3] 30)).alloc (.cells #[.slice A4 L4.length c4, .int .i64 e4] 109)) = V5 at *
        generalize w4.heap.size = g4 at *
        have k1 := B5.cell
        have f1 := B5.frozen
        have z1 := B5.lt
        have kc := D1.cell
        have kr := D2.cell
        go_upto_region 11 with (go_at_call 67; (with_reducible refine W.rend_any.mono ?_); rintro r w6 ⟨rfl, hb6⟩; rw [HEQ.out.2.2.2])
        have B6 := B5.bel hb6
        have D6 := D1.bel hb6
        have HB6 := Lib.hid (bt HB5.out hb6)
        have HM := Lib.hid (rmay_any (HCA.out.below hb6))
        have HO6 : Hid (Own w6 w.heap.size 89 3 (.slice Q1 C.ws.length s1) C.ws.length (wvs C.ws) ∧ Own w6 w.heap.size 118 11 (.slice Q2 C.cs.length s2) C.cs.length (cvs C.cs) ∧ Own w6 w.heap.size 3 1 (.slice Q3 C.ac.length s3) C.ac.length (ivs C.ac)) := ⟨HO5.out.1.below hb6, HO5.out.2.1.below hb6, HO5.out.2.2.below hb6⟩
        clear k1 f1 z1 kc kr B5 D1 D2 hb6
        have k1 := B6.cell
        have f1 := B6.frozen
        have z1 := B6.lt
        have kc := D6.cell
        by_cases hn : n0 = 0
        · subst hn
          obtain ⟨fl, hff⟩ : ∃ f, flt C = f := ⟨_, rfl⟩
          have HFF := Lib.hid hff
          cases fl with
          | some x =>
            have HD : Hid (decE l = 4 ∧ decC l = cfg0) := by
              have e1 : decE l = 4 := by rw [decE, if_pos H0.out, HDN.out, if_pos rfl, HDC.out, if_neg (by rw [hff]; simp)]
              exact ⟨e1, by rw [decC, e1, if_neg (by decide)]⟩
            clear hff
            go_wp2_with (go_at_call 68; (with_reducible refine HM.out.mono ?_); rintro r w7 ⟨rfl, hb7⟩; rw [HFF.out]; unfold Option.isNone; have B7 := B6.bel hb7; have D7 := D6.bel hb7; have HB7 := Lib.hid (bt HB6.out hb7); clear k1 f1 z1 kc; have k1 := B7.cell; have f1 := B7.frozen; have z1 := B7.lt; have kc := D7.cell)
            refine bodyPost_ret (v := .tuple #[.agg #[.int .i64 0, .int .i64 0, .slice none 0 0, .slice none 0 0, .slice none 0 0], .int .i64 4]) (by simp [results, Tryd.results9, go_sem, *]) rfl ⟨.agg #[.int .i64 0, .int .i64 0, .slice none 0 0, .slice none 0 0, .slice none 0 0], by rw [HD.out.1], by rw [HD.out.2]; exact cfg0_own _ _, ?_⟩
            exact below5 HB7.out (Nat.le_refl _) _ _ _ _ _
          | none =>
            have HD : Hid (decE l = 0 ∧ decC l = C) := by
              have e1 : decE l = 0 := by rw [decE, if_pos H0.out, HDN.out, if_pos rfl, HDC.out, if_pos hff]
              exact ⟨e1, by rw [decC, if_pos e1, HDC.out]⟩
            clear hff
            go_wp2_with (go_at_call 68; (with_reducible refine HM.out.mono ?_); rintro r w7 ⟨rfl, hb7⟩; rw [HFF.out]; unfold Option.isNone; have B7 := B6.bel hb7; have D7 := D6.bel hb7; have HB7 := Lib.hid (bt HB6.out hb7); clear k1 f1 z1 kc; have k1 := B7.cell; have f1 := B7.frozen; have z1 := B7.lt; have kc := D7.cell)
            have st : ∀ {t : TypeId} {m n : Nat} {v : Value} {xs : List Value}, Own w7 w.heap.size t m v n xs → t ≠ 30 → Own (((((w7.setCell ⟨w.heap.size, 0, none⟩ (.int .i64 C.P)).setCell ⟨w.heap.size, 1, none⟩ (.int .i64 C.F)).setCell ⟨w.heap.size, 2, none⟩ (.slice Q1 C.ws.length s1)).setCell ⟨w.heap.size, 3, none⟩ (.slice Q2 C.cs.length s2)).setCell ⟨w.heap.size, 4, none⟩ (.slice Q3 C.ac.length s3)) w.heap.size t m v n xs := fun h ht => (((((h.far B7 ht 0 (.int .i64 C.P)).far (B7.set_ 0 (.int .i64 C.P)) ht 1 (.int .i64 C.F)).far ((B7.set_ 0 (.int .i64 C.P)).set_ 1 (.int .i64 C.F)) ht 2 (.slice Q1 C.ws.length s1)).far (((B7.set_ 0 (.int .i64 C.P)).set_ 1 (.int .i64 C.F)).set_ 2 (.slice Q1 C.ws.length s1)) ht 3 (.slice Q2 C.cs.length s2)).far ((((B7.set_ 0 (.int .i64 C.P)).set_ 1 (.int .i64 C.F)).set_ 2 (.slice Q1 C.ws.length s1)).set_ 3 (.slice Q2 C.cs.length s2)) ht 4 (.slice Q3 C.ac.length s3))
            obtain ⟨o1, o2, o3⟩ := HO6.out
            have HQ := Lib.hid (And.intro (st (o1.below hb7) (by decide)) (And.intro (st (o2.below hb7) (by decide)) (st (o3.below hb7) (by decide))))
            clear st o1 o2 o3
            refine bodyPost_ret (v := .tuple #[.agg #[.int .i64 C.P, .int .i64 C.F, .slice Q1 C.ws.length s1, .slice Q2 C.cs.length s2, .slice Q3 C.ac.length s3], .int .i64 0]) (by simp [results, Tryd.results9, go_sem, *]) rfl ⟨.agg #[.int .i64 C.P, .int .i64 C.F, .slice Q1 C.ws.length s1, .slice Q2 C.cs.length s2, .slice Q3 C.ac.length s3], by rw [HD.out.1], by rw [HD.out.2]; exact ⟨_, _, _, rfl, HQ.out.1, HQ.out.2.1, HQ.out.2.2, HWB.out⟩, ?_⟩
            exact below5 HB7.out (Nat.le_refl _) _ _ _ _ _
        · have tn : (n0 != 0) = true := by simpa using hn
          have HD : Hid (decE l = n0 ∧ decC l = cfg0) := by
            have e1 : decE l = n0 := by rw [decE, if_pos H0.out, HDN.out, if_neg hn]
            exact ⟨e1, by rw [decC, e1, if_neg hn]⟩
          clear hn
          go_wp2_with fail
          refine bodyPost_ret (v := .tuple #[.agg #[.int .i64 0, .int .i64 0, .slice none 0 0, .slice none 0 0, .slice none 0 0], .int .i64 n0]) (by simp [results, Tryd.results9, go_sem, *]) rfl ⟨.agg #[.int .i64 0, .int .i64 0, .slice none 0 0, .slice none 0 0, .slice none 0 0], by rw [HD.out.1], by rw [HD.out.2]; exact cfg0_own _ _, ?_⟩
          exact below5 HB6.out (Nat.le_refl _) _ _ _ _ _
      · have HD : Hid (decE l = 8 ∧ decC l = cfg0) := by
          have ho : opE l = 8 := by rw [opE, HE.out.1, if_pos rfl, HE.out.2, if_neg hlen, if_neg (by rw [HP.out.2.2.2.1, HP.out.2.2.2.2]; exact hv)]
          have e1 : decE l = 8 := by rw [decE, if_neg (by rw [ho]; decide), ho]
          exact ⟨e1, by rw [decC, e1, if_neg (by decide)]⟩
        by_cases ha : y0 = 231
        · subst ha
          have t1 : (y1 != 1) = true := by have : ¬ y1 = 1 := fun h => hv ⟨rfl, h⟩; simpa using this
          clear hv
          go_wp2_with fail
          refine bodyPost_ret (v := .tuple #[.agg #[.int .i64 0, .int .i64 0, .slice none 0 0, .slice none 0 0, .slice none 0 0], .int .i64 8]) (by simp [results, Tryd.results9, go_sem, *]) rfl ⟨.agg #[.int .i64 0, .int .i64 0, .slice none 0 0, .slice none 0 0, .slice none 0 0], by rw [HD.out.1], by rw [HD.out.2]; exact cfg0_own _ _, ?_⟩
          exact below5 HB3.out (Nat.le_refl _) _ _ _ _ _
        · have t1 : (y0 != 231) = true := by simpa using ha
          clear hv
          go_wp2_with fail
          refine bodyPost_ret (v := .tuple #[.agg #[.int .i64 0, .int .i64 0, .slice none 0 0, .slice none 0 0, .slice none 0 0], .int .i64 8]) (by simp [results, Tryd.results9, go_sem, *]) rfl ⟨.agg #[.int .i64 0, .int .i64 0, .slice none 0 0, .slice none 0 0, .slice none 0 0], by rw [HD.out.1], by rw [HD.out.2]; exact cfg0_own _ _, ?_⟩
          exact below5 HB3.out (Nat.le_refl _) _ _ _ _ _
    · have t9 : (e2 != 0) = true := by simpa using h9
      have HD : Hid (decE l = e2 ∧ decC l = cfg0) := by
        have hlt : p.length < 2 := by
          by_cases h : p.length < 2
          · exact h
          · exact absurd (HP.out.1.trans (if_neg h)) h9
        have h9e : e2 = 9 := HP.out.1.trans (if_pos hlt)
        have ho : opE l = e2 := by rw [opE, HE.out.1, if_pos rfl, HE.out.2, if_pos hlt, h9e]
        have e1 : decE l = e2 := by rw [decE, if_neg (by rw [ho]; exact h9), ho]
        exact ⟨e1, by rw [decC, e1, if_neg h9]⟩
      clear h9
      go_upto_region 6 with fail
      go_region
      go_wp2_with fail
      refine bodyPost_ret (v := .tuple #[.agg #[.int .i64 0, .int .i64 0, .slice none 0 0, .slice none 0 0, .slice none 0 0], .int .i64 e2]) (by simp [results, Tryd.results9, go_sem, *]) rfl ⟨.agg #[.int .i64 0, .int .i64 0, .slice none 0 0, .slice none 0 0, .slice none 0 0], by rw [HD.out.1], by rw [HD.out.2]; exact cfg0_own _ _, ?_⟩
      exact (below5 HB3.out (Nat.le_refl _) _ _ _ _ _).drew
  · have t0 : (e0 != 0) = true := by simpa using h0
    have HD : Hid (decE l = e0 ∧ decC l = cfg0) := by
      show decE l = e0 ∧ decC l = cfg0
      have ho : opE l = e0 := by rw [opE, if_neg (by rw [HE.out.1]; exact h0), HE.out.1]
      have e1 : decE l = e0 := by rw [decE, if_neg (by rw [ho]; exact h0), ho]
      exact ⟨e1, by rw [decC, e1, if_neg h0]⟩
    clear h0
    go_enter Tryd.func9, Tryd.ntmps9
    go_wp2_with (go_at_call 64; refine HO.out.mono ?_; rintro e w1 ⟨x1, rfl, hx1, hb1⟩; rw [HE.out.1]; have B1 := B0.bel hb1; have HB1 := bt HB hb1; have f1 := B1.frozen; have k1 := B1.cell; have z1 := B1.lt; clear hx1 hb1)
    refine bodyPost_ret (v := .tuple #[.agg #[.int .i64 0, .int .i64 0, .slice none 0 0, .slice none 0 0, .slice none 0 0], .int .i64 e0]) (by simp [results, Tryd.results9, go_sem, *]) rfl ⟨.agg #[.int .i64 0, .int .i64 0, .slice none 0 0, .slice none 0 0, .slice none 0 0], by rw [HD.out.1], by rw [HD.out.2]; exact cfg0_own _ _, ?_⟩
    exact below5 HB1 (Nat.le_refl _) _ _ _ _ _
end Go.Proofs.YtfbbgoahipejlabDoor.T
/- The walk of TableReads (written by gen_ltreads.py). -/
namespace Go.Proofs.YtfbbgoahipejlabDoor.tableReads
open Go.RowKit Go.Proofs.YtfbbgoahipejlabDoor.G Go.Proofs.YtfbbgoahipejlabDoor.C04 Go.Proofs.YtfbbgoahipejlabDoor.T
open Go.Proofs.YtfbbgoahipejlabDoor.configSame (few_at)
attribute [local go_sem ↓] Go.wp_at_zero Go.wp_at_succ

theorem lst_two (w : World) : W.Lst (w.alloc (.cells #[.int .u8 231, .int .u8 1] 5)) w.heap.size (.slice (some ⟨w.heap.size, 0, none⟩) 2 2) [W.by_ 231, W.by_ 1] := by
  refine ⟨by simp [W.bvs], .inr ⟨w.heap.size, 2, #[.int .u8 231, .int .u8 1], rfl, Nat.le_refl _, Blk.new w 5 _, Nat.le_refl _, by unfold maxLen; omega, rfl, ?_⟩⟩
  simp [W.bvs, W.bv, W.by_]
/-- A row of bytes that lies. -/
structure RB3 (w : World) (A : Option Addr) (c : Nat) (l : List UInt8) : Prop where
  rd : W.Rd w A l
  le : l.length ≤ c
  mx : c ≤ 9223372036854775807
  ln : l.length ≤ 300
theorem RB3.below {w w' : World} {A : Option Addr} {c : Nat} {l : List UInt8} (h : RB3 w A c l) (hb : Below w.heap.size w w') : RB3 w' A c l := ⟨h.rd.below hb, h.le, h.mx, h.ln⟩
set_option maxHeartbeats 4000000 in
set_option maxRecDepth 100000 in
theorem short {w : World} {A : Option Addr} {l p : List UInt8} {c : Nat} (hg : Et w) (hp : p.length = l.length) (hr : W.Rd w A p) (hm : p.length ≤ 200) (hl : l.length ≤ c) (hc : c ≤ 9223372036854775807) (h2 : l.length ≤ 200) :
    Calls Tryd.prog 3 #[.slice A l.length c] w fun e w' => e = .returned (.bool true) ∧ Below w.heap.size w w' := by
  have HG := Lib.hid hg
  have HR : Hid (RB3 w A c p) := ⟨hr, by omega, hc, by omega⟩
  have HP := Lib.hid hp
  have HM := Lib.hid hm
  clear hg hr hm
  go_enter Tryd.func3, Tryd.ntmps3
  go_wp2_with fail
  refine (T.lives_any HG.out).mono ?_
  rintro e w1 ⟨rfl, hb1⟩
  go_upto_region 5 with fail
  have HL2 := Lib.hid (lst_two w1)
  have HB2 := Lib.hid (ba1 hb1 (.cells #[.int .u8 231, .int .u8 1] 5))
  have HS2 : Hid (w1.heap.size ≤ (w1.alloc (.cells #[.int .u8 231, .int .u8 1] 5)).heap.size) := by show w1.heap.size ≤ _; simp
  have HW1 : Hid (w.heap.size ≤ w1.heap.size) := hb1.size
  have HR2 := Lib.hid (HR.out.below HB2.out)
  generalize w1.alloc (.cells #[.int .u8 231, .int .u8 1] 5) = V2 at *
  generalize w1.heap.size = g1 at *
  clear hb1
  go_upto_region 6 with (at_builtin; go_must (refine W.wpList_app rfl (.tmp 22) (.tmp 23) rfl g1 (.slice (some ⟨g1, 0, none⟩) 2 2) [W.by_ 231, W.by_ 1] rfl HL2.out A c p (by rw [HP.out]; rfl) HR2.out.rd (by have := HM.out; simp; omega) HS2.out ?_); intro v3 w3 hl3 hb3 hg3 hob3; clear hob3 hg3)
  obtain ⟨A3, c3, rfl, hr3, hc3, hm3, hz3⟩ := hl3.rd
  clear hz3
  have HB3 := Lib.hid (HB2.out.trans (hb3.mono HW1.out))
  have HR3 := Lib.hid (HR.out.below HB3.out)
  have HQ3 : Hid (RB3 w3 A3 c3 ([W.by_ 231, W.by_ 1] ++ p)) := ⟨hr3, hc3, hm3, by have := HM.out; simp; omega⟩
  clear hl3 hb3 hr3 hc3 hm3 HL2 HS2 HR2 HW1 HB2
  have hqm : ([W.by_ 231, W.by_ 1] ++ p).length ≤ 202 := by have := HM.out; rw [List.length_append]; simp; omega
  generalize [W.by_ 231, W.by_ 1] ++ p = q at *
  have CS1 : Hid (Calls Tryd.prog 7 #[.slice A l.length c] w3 (W.RSealPost w3 (W.sealL p))) := by
    have := W.rseal_any HR3.out.rd (by have := HM.out; omega) HR3.out.le HR3.out.mx
    rw [HP.out] at this
    exact this
  have CS2 : Hid (∀ V : World, Below w3.heap.size w3 V → Calls Tryd.prog 7 #[.slice A3 q.length c3] V (W.RSealPost V (W.sealL q))) := fun V h => W.rseal_any (HQ3.out.rd.below h) (by omega) HQ3.out.le HQ3.out.mx
  have e6 : (W.sealL p).length ≤ 300 := by rw [W.sealL_length]; have := HM.out; omega
  have e7 : (W.sealL q).length ≤ 300 := by rw [W.sealL_length]; omega
  generalize W.sealL p = l6 at *
  generalize W.sealL q = l7 at *
  go_upto_region 7 with (first
    | (go_at_call 7; (with_reducible refine CS1.out.mono ?_); rintro r w4 ⟨x4, rfl, ⟨A6, c6, rfl, hl6, hm6, hr6⟩, hb4⟩)
    | (go_at_call 7; (with_reducible refine (CS2.out _ hb4).mono ?_); rintro r w5 ⟨x5, rfl, ⟨A7, c7, rfl, hl7, hm7, hr7⟩, hb5⟩))
  have HA : Hid (RB3 (w5.alloc (.cells #[.slice A l.length c, .slice A6 l6.length c6, .slice A7 l7.length c7] 22)) A c p) := HR3.out.below (ba1 (bt hb4 hb5) (.cells #[.slice A l.length c, .slice A6 l6.length c6, .slice A7 l7.length c7] 22))
  have HA6 : Hid (RB3 (w5.alloc (.cells #[.slice A l.length c, .slice A6 l6.length c6, .slice A7 l7.length c7] 22)) A6 c6 l6) := RB3.below ⟨hr6, hl6, hm6, e6⟩ (ba1 hb5 (.cells #[.slice A l.length c, .slice A6 l6.length c6, .slice A7 l7.length c7] 22))
  have HA7 : Hid (RB3 (w5.alloc (.cells #[.slice A l.length c, .slice A6 l6.length c6, .slice A7 l7.length c7] 22)) A7 c7 l7) := RB3.below ⟨hr7, hl7, hm7, e7⟩ (b01 w5 (.cells #[.slice A l.length c, .slice A6 l6.length c6, .slice A7 l7.length c7] 22))
  have BL := Lib.hid (Blk.new w5 22 #[.slice A l.length c, .slice A6 l6.length c6, .slice A7 l7.length c7])
  have HB7 := Lib.hid (ba1 (bt HB3.out (bt hb4 hb5)) (.cells #[.slice A l.length c, .slice A6 l6.length c6, .slice A7 l7.length c7] 22))
  clear hr6 hl6 hm6 hr7 hl7 hm7 hb4 hb5 CS1 CS2 HQ3 HR3 HB3 HR e6 e7 hqm
  have HEt : Hid (Et (w5.alloc (.cells #[.slice A l.length c, .slice A6 l6.length c6, .slice A7 l7.length c7] 22))) := HG.out.below HB7.out
  generalize w5.alloc (.cells #[.slice A l.length c, .slice A6 l6.length c6, .slice A7 l7.length c7] 22) = V7 at *
  generalize w5.heap.size = gl at *
  have HEl : Hid (∀ j : Nat, j < 3 → ∃ Aj lj cj, (#[.slice A l.length c, .slice A6 l6.length c6, .slice A7 l7.length c7] : Array Value)[j]? = some (.slice Aj lj.length cj) ∧ RB3 V7 Aj cj lj) := fun j hj => by
    rcases j with _ | _ | _ | j
    · exact ⟨A, p, c, by rw [HP.out]; rfl, HA.out⟩
    · exact ⟨A6, l6, c6, rfl, HA6.out⟩
    · exact ⟨A7, l7, c7, rfl, HA7.out⟩
    · omega
  clear HA HA6 HA7 hp hl hc h2 HP HM HG
  go_wp2_with fail
  go_loopw [5] (fun i V => ∃ j : Nat, i = .int .i64 j ∧ j ≤ 3 ∧ Below V7.heap.size V7 V) (fun i _ => 3 - (intOf i).toNat)
  case atStart => exact ⟨0, rfl, by omega, Below.refl _ _⟩
  case round =>
    obtain ⟨j, rfl, hj, hbr⟩ := hrel
    by_cases hlt : j < 3
    · have f1 : (j : Int) < 3 := by omega
      obtain ⟨Aj, lj, cj, hcell, hrj⟩ := HEl.out j hlt
      have kl : wr.cell? ⟨gl, j, none⟩ = some (.slice Aj lj.length cj) := by rw [(BL.out.bel hbr).cell]; exact hcell
      have HRj := Lib.hid hrj
      have HCl := Lib.hid hcell
      have HBr := Lib.hid hbr
      obtain ⟨C, hC⟩ : ∃ x, decC lj = x := ⟨_, rfl⟩
      obtain ⟨E, hE⟩ : ∃ x, decE lj = x := ⟨_, rfl⟩
      have HCE := Lib.hid (And.intro hC hE)
      clear hcell hrj hbr hC hE
      go_upto_region 11 with (go_at_call 8; (with_reducible refine (decode_any (HEt.out.below HBr.out) (HRj.out.rd.below HBr.out) (Nat.le_trans HRj.out.ln (by omega)) HRj.out.le).mono ?_); rintro r w8 ⟨v8, rfl, ho8, hb8⟩; rw [HCE.out.1] at ho8; rw [HCE.out.2]; have hat8 := ho8.at_; clear ho8; obtain ⟨a1, a2, a3, na1, na2, na3, rfl⟩ := few_at hat8)
      have HB8 := Lib.hid (ba1 (bt HBr.out hb8) (.cells #[.int .i64 C.P, .int .i64 C.F, .slice a1 C.ws.length na1, .slice a2 C.cs.length na2, .slice a3 C.ac.length na3] 30))
      have HC8 := Lib.hid (hat8.alloc (.cells #[.int .i64 C.P, .int .i64 C.F, .slice a1 C.ws.length na1, .slice a2 C.cs.length na2, .slice a3 C.ac.length na3] 30))
      have X8 := Blk.new w8 30 #[.int .i64 C.P, .int .i64 C.F, .slice a1 C.ws.length na1, .slice a2 C.cs.length na2, .slice a3 C.ac.length na3]
      clear hat8 hb8 kl
      generalize w8.alloc (.cells #[.int .i64 C.P, .int .i64 C.F, .slice a1 C.ws.length na1, .slice a2 C.cs.length na2, .slice a3 C.ac.length na3] 30) = V8 at *
      generalize w8.heap.size = g8 at *
      have kl : V8.cell? ⟨gl, j, none⟩ = some (.slice Aj lj.length cj) := by
        rw [(BL.out.bel HB8.out).cell]
        exact HCl.out
      go_upto_region 12 with (go_at_call 9; (with_reducible refine (rdecode_any (HRj.out.rd.below HB8.out) (Nat.le_trans HRj.out.ln (by omega)) HRj.out.le HRj.out.mx).mono ?_); rintro r w9 ⟨v9, rfl, ho9, hb9⟩; rw [HCE.out.1] at ho9; rw [HCE.out.2]; have hat9 := ho9.at_; clear ho9; obtain ⟨b1, b2, b3, nb1, nb2, nb3, rfl⟩ := few_at hat9)
      have HB9 := Lib.hid (ba1 (bt HB8.out hb9) (.cells #[.int .i64 C.P, .int .i64 C.F, .slice b1 C.ws.length nb1, .slice b2 C.cs.length nb2, .slice b3 C.ac.length nb3] 30))
      have HC9 := Lib.hid (hat9.alloc (.cells #[.int .i64 C.P, .int .i64 C.F, .slice b1 C.ws.length nb1, .slice b2 C.cs.length nb2, .slice b3 C.ac.length nb3] 30))
      have HC9' := Lib.hid ((HC8.out.below hb9).alloc (.cells #[.int .i64 C.P, .int .i64 C.F, .slice b1 C.ws.length nb1, .slice b2 C.cs.length nb2, .slice b3 C.ac.length nb3] 30))
      have X9 := Blk.new w9 30 #[.int .i64 C.P, .int .i64 C.F, .slice b1 C.ws.length nb1, .slice b2 C.cs.length nb2, .slice b3 C.ac.length nb3]
      have Y9 := (X8.bel hb9).alloc (.cells #[.int .i64 C.P, .int .i64 C.F, .slice b1 C.ws.length nb1, .slice b2 C.cs.length nb2, .slice b3 C.ac.length nb3] 30)
      clear hat9 hb9 kl X8 HC8 HB8 HBr
      generalize w9.alloc (.cells #[.int .i64 C.P, .int .i64 C.F, .slice b1 C.ws.length nb1, .slice b2 C.cs.length nb2, .slice b3 C.ac.length nb3] 30) = V9 at *
      generalize w9.heap.size = g9 at *
      have kl : V9.cell? ⟨gl, j, none⟩ = some (.slice Aj lj.length cj) := by
        rw [(BL.out.bel HB9.out).cell]
        exact HCl.out
      go_upto_region 13 with (go_at_call 10; (with_reducible refine (count_any (HEt.out.below HB9.out) (HRj.out.rd.below HB9.out) (Nat.le_trans HRj.out.ln (by omega)) HRj.out.le).mono ?_); rintro r w10 ⟨rfl, hb10⟩; rw [HCE.out.1, HCE.out.2])
      have HB10 := Lib.hid (bt HB9.out hb10)
      have HS := Lib.hid (rsame_any (HC9'.out.below hb10) (HC9.out.below hb10))
      have kx := (Y9.bel hb10).cell
      have ky := (X9.bel hb10).cell
      have Z9 := Y9.bel hb10
      have Z8 := X9.bel hb10
      clear hb10 X9 Y9 kl HB9
      go_wp2_with (go_at_call 11; (with_reducible refine HS.out.mono ?_); rintro r w11 ⟨rfl, hb11⟩; rw [sam_self]; have HB11 := Lib.hid (bt HB10.out hb11); clear kx ky; have kx := (Z9.bel hb11).cell; have ky := (Z8.bel hb11).cell)
      go_roundw
      case rel => exact ⟨j + 1, by go_num, by omega, HB11.out⟩
      case measure => simp [intOf] <;> omega
    · have f1 : ¬ ((j : Int) < 3) := by omega
      have HBz := Lib.hid (bt HB7.out hbr)
      clear hbr
      go_wp2_with fail
      go_ret
      exact ⟨rfl, HBz.out⟩
set_option maxHeartbeats 4000000 in
set_option maxRecDepth 100000 in
theorem long {w : World} {A : Option Addr} {l p : List UInt8} {c : Nat} (hg : Et w) (hp : p.length = 200) (hr : W.Rd w A p) (hm : p.length ≤ 200) (hl : l.length ≤ c) (hc : c ≤ 9223372036854775807) (h2 : 200 < l.length) :
    Calls Tryd.prog 3 #[.slice A l.length c] w fun e w' => e = .returned (.bool true) ∧ Below w.heap.size w w' := by
  have HG := Lib.hid hg
  have HR : Hid (RB3 w A c p) := ⟨hr, by omega, hc, by omega⟩
  have HP := Lib.hid hp
  have HM := Lib.hid hm
  clear hg hr hm
  go_enter Tryd.func3, Tryd.ntmps3
  go_wp2_with fail
  refine (T.lives_any HG.out).mono ?_
  rintro e w1 ⟨rfl, hb1⟩
  go_upto_region 5 with fail
  have HL2 := Lib.hid (lst_two w1)
  have HB2 := Lib.hid (ba1 hb1 (.cells #[.int .u8 231, .int .u8 1] 5))
  have HS2 : Hid (w1.heap.size ≤ (w1.alloc (.cells #[.int .u8 231, .int .u8 1] 5)).heap.size) := by show w1.heap.size ≤ _; simp
  have HW1 : Hid (w.heap.size ≤ w1.heap.size) := hb1.size
  have HR2 := Lib.hid (HR.out.below HB2.out)
  generalize w1.alloc (.cells #[.int .u8 231, .int .u8 1] 5) = V2 at *
  generalize w1.heap.size = g1 at *
  clear hb1
  go_upto_region 6 with (at_builtin; go_must (refine W.wpList_app rfl (.tmp 22) (.tmp 23) rfl g1 (.slice (some ⟨g1, 0, none⟩) 2 2) [W.by_ 231, W.by_ 1] rfl HL2.out A c p (by rw [HP.out]; rfl) HR2.out.rd (by have := HM.out; simp; omega) HS2.out ?_); intro v3 w3 hl3 hb3 hg3 hob3; clear hob3 hg3)
  obtain ⟨A3, c3, rfl, hr3, hc3, hm3, hz3⟩ := hl3.rd
  clear hz3
  have HB3 := Lib.hid (HB2.out.trans (hb3.mono HW1.out))
  have HR3 := Lib.hid (HR.out.below HB3.out)
  have HQ3 : Hid (RB3 w3 A3 c3 ([W.by_ 231, W.by_ 1] ++ p)) := ⟨hr3, hc3, hm3, by have := HM.out; simp; omega⟩
  clear hl3 hb3 hr3 hc3 hm3 HL2 HS2 HR2 HW1 HB2
  have hqm : ([W.by_ 231, W.by_ 1] ++ p).length ≤ 202 := by have := HM.out; rw [List.length_append]; simp; omega
  generalize [W.by_ 231, W.by_ 1] ++ p = q at *
  have CS1 : Hid (Calls Tryd.prog 7 #[.slice A 200 c] w3 (W.RSealPost w3 (W.sealL p))) := by
    have := W.rseal_any HR3.out.rd (by have := HM.out; omega) HR3.out.le HR3.out.mx
    rw [HP.out] at this
    exact this
  have CS2 : Hid (∀ V : World, Below w3.heap.size w3 V → Calls Tryd.prog 7 #[.slice A3 q.length c3] V (W.RSealPost V (W.sealL q))) := fun V h => W.rseal_any (HQ3.out.rd.below h) (by omega) HQ3.out.le HQ3.out.mx
  have e6 : (W.sealL p).length ≤ 300 := by rw [W.sealL_length]; have := HM.out; omega
  have e7 : (W.sealL q).length ≤ 300 := by rw [W.sealL_length]; omega
  generalize W.sealL p = l6 at *
  generalize W.sealL q = l7 at *
  go_upto_region 7 with (first
    | (go_at_call 7; (with_reducible refine CS1.out.mono ?_); rintro r w4 ⟨x4, rfl, ⟨A6, c6, rfl, hl6, hm6, hr6⟩, hb4⟩)
    | (go_at_call 7; (with_reducible refine (CS2.out _ hb4).mono ?_); rintro r w5 ⟨x5, rfl, ⟨A7, c7, rfl, hl7, hm7, hr7⟩, hb5⟩))
  have HA : Hid (RB3 (w5.alloc (.cells #[.slice A 200 c, .slice A6 l6.length c6, .slice A7 l7.length c7] 22)) A c p) := HR3.out.below (ba1 (bt hb4 hb5) (.cells #[.slice A 200 c, .slice A6 l6.length c6, .slice A7 l7.length c7] 22))
  have HA6 : Hid (RB3 (w5.alloc (.cells #[.slice A 200 c, .slice A6 l6.length c6, .slice A7 l7.length c7] 22)) A6 c6 l6) := RB3.below ⟨hr6, hl6, hm6, e6⟩ (ba1 hb5 (.cells #[.slice A 200 c, .slice A6 l6.length c6, .slice A7 l7.length c7] 22))
  have HA7 : Hid (RB3 (w5.alloc (.cells #[.slice A 200 c, .slice A6 l6.length c6, .slice A7 l7.length c7] 22)) A7 c7 l7) := RB3.below ⟨hr7, hl7, hm7, e7⟩ (b01 w5 (.cells #[.slice A 200 c, .slice A6 l6.length c6, .slice A7 l7.length c7] 22))
  have BL := Lib.hid (Blk.new w5 22 #[.slice A 200 c, .slice A6 l6.length c6, .slice A7 l7.length c7])
  have HB7 := Lib.hid (ba1 (bt HB3.out (bt hb4 hb5)) (.cells #[.slice A 200 c, .slice A6 l6.length c6, .slice A7 l7.length c7] 22))
  clear hr6 hl6 hm6 hr7 hl7 hm7 hb4 hb5 CS1 CS2 HQ3 HR3 HB3 HR e6 e7 hqm
  have HEt : Hid (Et (w5.alloc (.cells #[.slice A 200 c, .slice A6 l6.length c6, .slice A7 l7.length c7] 22))) := HG.out.below HB7.out
  generalize w5.alloc (.cells #[.slice A 200 c, .slice A6 l6.length c6, .slice A7 l7.length c7] 22) = V7 at *
  generalize w5.heap.size = gl at *
  have HEl : Hid (∀ j : Nat, j < 3 → ∃ Aj lj cj, (#[.slice A 200 c, .slice A6 l6.length c6, .slice A7 l7.length c7] : Array Value)[j]? = some (.slice Aj lj.length cj) ∧ RB3 V7 Aj cj lj) := fun j hj => by
    rcases j with _ | _ | _ | j
    · exact ⟨A, p, c, by rw [HP.out]; rfl, HA.out⟩
    · exact ⟨A6, l6, c6, rfl, HA6.out⟩
    · exact ⟨A7, l7, c7, rfl, HA7.out⟩
    · omega
  clear HA HA6 HA7 hp hl hc h2 HP HM HG
  go_wp2_with fail
  go_loopw [5] (fun i V => ∃ j : Nat, i = .int .i64 j ∧ j ≤ 3 ∧ Below V7.heap.size V7 V) (fun i _ => 3 - (intOf i).toNat)
  case atStart => exact ⟨0, rfl, by omega, Below.refl _ _⟩
  case round =>
    obtain ⟨j, rfl, hj, hbr⟩ := hrel
    by_cases hlt : j < 3
    · have f1 : (j : Int) < 3 := by omega
      obtain ⟨Aj, lj, cj, hcell, hrj⟩ := HEl.out j hlt
      have kl : wr.cell? ⟨gl, j, none⟩ = some (.slice Aj lj.length cj) := by rw [(BL.out.bel hbr).cell]; exact hcell
      have HRj := Lib.hid hrj
      have HCl := Lib.hid hcell
      have HBr := Lib.hid hbr
      obtain ⟨C, hC⟩ : ∃ x, decC lj = x := ⟨_, rfl⟩
      obtain ⟨E, hE⟩ : ∃ x, decE lj = x := ⟨_, rfl⟩
      have HCE := Lib.hid (And.intro hC hE)
      clear hcell hrj hbr hC hE
      go_upto_region 11 with (go_at_call 8; (with_reducible refine (decode_any (HEt.out.below HBr.out) (HRj.out.rd.below HBr.out) (Nat.le_trans HRj.out.ln (by omega)) HRj.out.le).mono ?_); rintro r w8 ⟨v8, rfl, ho8, hb8⟩; rw [HCE.out.1] at ho8; rw [HCE.out.2]; have hat8 := ho8.at_; clear ho8; obtain ⟨a1, a2, a3, na1, na2, na3, rfl⟩ := few_at hat8)
      have HB8 := Lib.hid (ba1 (bt HBr.out hb8) (.cells #[.int .i64 C.P, .int .i64 C.F, .slice a1 C.ws.length na1, .slice a2 C.cs.length na2, .slice a3 C.ac.length na3] 30))
      have HC8 := Lib.hid (hat8.alloc (.cells #[.int .i64 C.P, .int .i64 C.F, .slice a1 C.ws.length na1, .slice a2 C.cs.length na2, .slice a3 C.ac.length na3] 30))
      have X8 := Blk.new w8 30 #[.int .i64 C.P, .int .i64 C.F, .slice a1 C.ws.length na1, .slice a2 C.cs.length na2, .slice a3 C.ac.length na3]
      clear hat8 hb8 kl
      generalize w8.alloc (.cells #[.int .i64 C.P, .int .i64 C.F, .slice a1 C.ws.length na1, .slice a2 C.cs.length na2, .slice a3 C.ac.length na3] 30) = V8 at *
      generalize w8.heap.size = g8 at *
      have kl : V8.cell? ⟨gl, j, none⟩ = some (.slice Aj lj.length cj) := by
        rw [(BL.out.bel HB8.out).cell]
        exact HCl.out
      go_upto_region 12 with (go_at_call 9; (with_reducible refine (rdecode_any (HRj.out.rd.below HB8.out) (Nat.le_trans HRj.out.ln (by omega)) HRj.out.le HRj.out.mx).mono ?_); rintro r w9 ⟨v9, rfl, ho9, hb9⟩; rw [HCE.out.1] at ho9; rw [HCE.out.2]; have hat9 := ho9.at_; clear ho9; obtain ⟨b1, b2, b3, nb1, nb2, nb3, rfl⟩ := few_at hat9)
      have HB9 := Lib.hid (ba1 (bt HB8.out hb9) (.cells #[.int .i64 C.P, .int .i64 C.F, .slice b1 C.ws.length nb1, .slice b2 C.cs.length nb2, .slice b3 C.ac.length nb3] 30))
      have HC9 := Lib.hid (hat9.alloc (.cells #[.int .i64 C.P, .int .i64 C.F, .slice b1 C.ws.length nb1, .slice b2 C.cs.length nb2, .slice b3 C.ac.length nb3] 30))
      have HC9' := Lib.hid ((HC8.out.below hb9).alloc (.cells #[.int .i64 C.P, .int .i64 C.F, .slice b1 C.ws.length nb1, .slice b2 C.cs.length nb2, .slice b3 C.ac.length nb3] 30))
      have X9 := Blk.new w9 30 #[.int .i64 C.P, .int .i64 C.F, .slice b1 C.ws.length nb1, .slice b2 C.cs.length nb2, .slice b3 C.ac.length nb3]
      have Y9 := (X8.bel hb9).alloc (.cells #[.int .i64 C.P, .int .i64 C.F, .slice b1 C.ws.length nb1, .slice b2 C.cs.length nb2, .slice b3 C.ac.length nb3] 30)
      clear hat9 hb9 kl X8 HC8 HB8 HBr
      generalize w9.alloc (.cells #[.int .i64 C.P, .int .i64 C.F, .slice b1 C.ws.length nb1, .slice b2 C.cs.length nb2, .slice b3 C.ac.length nb3] 30) = V9 at *
      generalize w9.heap.size = g9 at *
      have kl : V9.cell? ⟨gl, j, none⟩ = some (.slice Aj lj.length cj) := by
        rw [(BL.out.bel HB9.out).cell]
        exact HCl.out
      go_upto_region 13 with (go_at_call 10; (with_reducible refine (count_any (HEt.out.below HB9.out) (HRj.out.rd.below HB9.out) (Nat.le_trans HRj.out.ln (by omega)) HRj.out.le).mono ?_); rintro r w10 ⟨rfl, hb10⟩; rw [HCE.out.1, HCE.out.2])
      have HB10 := Lib.hid (bt HB9.out hb10)
      have HS := Lib.hid (rsame_any (HC9'.out.below hb10) (HC9.out.below hb10))
      have kx := (Y9.bel hb10).cell
      have ky := (X9.bel hb10).cell
      have Z9 := Y9.bel hb10
      have Z8 := X9.bel hb10
      clear hb10 X9 Y9 kl HB9
      go_wp2_with (go_at_call 11; (with_reducible refine HS.out.mono ?_); rintro r w11 ⟨rfl, hb11⟩; rw [sam_self]; have HB11 := Lib.hid (bt HB10.out hb11); clear kx ky; have kx := (Z9.bel hb11).cell; have ky := (Z8.bel hb11).cell)
      go_roundw
      case rel => exact ⟨j + 1, by go_num, by omega, HB11.out⟩
      case measure => simp [intOf] <;> omega
    · have f1 : ¬ ((j : Int) < 3) := by omega
      have HBz := Lib.hid (bt HB7.out hbr)
      clear hbr
      go_wp2_with fail
      go_ret
      exact ⟨rfl, HBz.out⟩
theorem walk {w : World} {A : Option Addr} {l : List UInt8} {c : Nat} (hg : Et w) (hr : W.Rd w A l) (hl : l.length ≤ c) (hc : c ≤ 9223372036854775807) :
    Calls Tryd.prog 3 #[.slice A l.length c] w fun e w' => e = .returned (.bool true) ∧ Below w.heap.size w w' := by
  by_cases h : l.length ≤ 200
  · exact short (p := l) hg rfl hr h hl hc h
  · exact long (p := l.take 200) hg (by simp; omega) (hr.take 200) (by simp; omega) hl hc (by omega)
end Go.Proofs.YtfbbgoahipejlabDoor.tableReads
