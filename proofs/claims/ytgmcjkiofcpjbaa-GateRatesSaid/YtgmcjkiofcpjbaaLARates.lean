/- GateRates, walked. -/
import Derived.Test.YtgmcjkiofcpjbaaAPut
import Derived.Test.YtgmcjkiofcpjbaaKAll
import Derived.Test.YtgmcjkiofcpjbaaKMost
namespace Go.Proofs.Ytgmcjkiofcpjbaa.gateRates
open Go.RowKit Go.Proofs.Ytgmcjkiofcpjbaa.G Go.Proofs.Ytgmcjkiofcpjbaa.L10 Go.Proofs.Ytgmcjkiofcpjbaa.C04 Go.Proofs.Ytgmcjkiofcpjbaa.A12
set_option maxRecDepth 100000
variable {w w' V V' : World} {g : Nat} {a : Ga} {y : Chn} {ks : Nat}
/-- Between the rounds: no message, as many tokens as there may be. -/
structure Rt (w V : World) (g ks : Nat) (a : Ga) (y : Chn) (rd n : Nat) : Prop where
  ex : ∃ r T, Gt w V g a ⟨r, [], T, rd, n⟩ ∧ (n : Int) + T ≤ a.C + a.R * rd
  bx : Blk V ks 23 #[.int .i64 y.k, .int .i64 y.f, .int .i64 y.t, .int .i64 y.w, .int .i64 y.r, .int .i64 y.la, .int .i64 y.d, .int .i64 y.h, .int .i64 y.li, .int .i64 y.ra, .int .i64 y.c]
theorem less_le {T : Int} (h : 0 ≤ T) : K11.less T ≤ T := by
  by_cases h0 : T = 0
  · rw [K11.less_zero h0]; omega
  · rw [K11.less_pos h0]; omega
theorem ctok_next {s : Gs} (h : Gt w V g a s) (b : Int) (hb : 0 ≤ b) (hb1 : b ≤ 1) (hN : s.N ≤ 1000) : K11.ctok a.R a.C s.T s.N (s.N + b) = min (s.T + b * a.R) a.C ∧ K11.crnd s.N (s.N + b) = s.N + b :=
  K11.tok_ahead h.bk.ok rfl hb (by omega) (by omega)
theorem oc_empty {s : Gs} (hs : s.d = []) (hf : Fit y a) (hy : GdC y) (z : Int) (h0 : 0 ≤ z) (h1 : z ≤ 2147483647) (r : Int) : oc a s 0 0 [z] r = (if K11.ctok a.R a.C s.T s.N r = 0 then 2 else 0) ∧ asks a s 0 0 [z] = true := by
  have e1 : jdg a.k 0 0 [z] = 0 := by rw [hf.ch]; exact jdg_one hy z h0 h1
  have e2 : room a.L a.P s.d 0 ≠ 0 := by rw [hs]; exact room_pos hf
  exact ⟨by unfold oc; rw [e1, if_neg (by omega), if_neg e2], decide_eq_true ⟨e1, e2⟩⟩
/-- Behind an Offer: the gate, no more than one message. -/
theorem of_state {W V : World} {s s' : Gs} {M : Pm} {T1 : Int} {rn n : Nat} {m' : MV} (h : OfW w W g a s M (if T1 = 0 then 2 else 0) true T1 rn m' s' V) (hd : s.d = []) (hq : s.q = n) : s'.d.drop 1 = [] ∧ s'.T = K11.less T1 ∧ s'.N = rn ∧ s'.q = (if T1 = 0 then (n : Int) else n + 1) := by
  refine ⟨?_, h.T, h.N, ?_⟩
  · have h1 := h.dp
    rw [hd] at h1
    have h2 := congrArg List.length h1
    rw [List.length_map] at h2
    have h3 : s'.d.length ≤ 1 := by
      rw [h2]
      split <;> simp [insP]
    exact List.eq_nil_of_length_eq_zero (by rw [List.length_drop]; omega)
  · have h1 := h.q
    rw [hq] at h1
    rw [h1]
    by_cases h0 : T1 = 0
    · rw [if_pos h0, if_neg (by decide), if_pos h0]
    · rw [if_neg h0, if_pos rfl, if_neg h0]
set_option maxHeartbeats 8000000 in
theorem walk (k : Chn) {w : World} {A : Option Addr} {l : List Int} {c : Nat} (hl : l.length ≤ c) (hc : c ≤ 9223372036854775807) (hr : Row w A (L10.iv l)) : Calls Try.prog 7 #[k.val, .slice A l.length c] w fun e w' => e = .returned (.bool true) ∧ Below w.heap.size w w' := by
  have HR := Lib.hid hr
  have hlm : l.length ≤ 9223372036854775807 := by omega
  clear hr hl hc
  have b0 := b01 w (.cells #[.int .i64 k.k, .int .i64 k.f, .int .i64 k.t, .int .i64 k.w, .int .i64 k.r, .int .i64 k.la, .int .i64 k.d, .int .i64 k.h, .int .i64 k.li, .int .i64 k.ra, .int .i64 k.c] 23)
  have HN := Lib.hid (Blk.new w 23 #[.int .i64 k.k, .int .i64 k.f, .int .i64 k.t, .int .i64 k.w, .int .i64 k.r, .int .i64 k.la, .int .i64 k.d, .int .i64 k.h, .int .i64 k.li, .int .i64 k.ra, .int .i64 k.c])
  have HB := Lib.hid b0
  have HGd := Lib.hid (fun V => good12_any k V)
  unfold Chn.val at *
  clear b0
  go_enter Try.func7, Try.ntmps7
  go_wp2_with fail
  refine (lives_any _).mono ?_
  rintro e w1 ⟨rfl, hb1⟩
  have HN1 := Lib.hid (HN.out.bel hb1)
  have HB1 := Lib.hid (bt HB.out hb1)
  obtain ⟨ks, hks⟩ : ∃ ks, w.heap.size = ks := ⟨_, rfl⟩
  have HKS : Hid (w.heap.size ≤ ks) := Nat.le_of_eq hks
  rw [hks] at HN1
  rw [hks]
  clear hb1 HN HB hks
  have q0 := HN1.out.cell
  go_wp2_with fail
  refine (HGd.out _).mono ?_
  rintro e w2 ⟨y, rfl, hy, hb2⟩
  have HY := Lib.hid hy
  have HN2 := Lib.hid (HN1.out.bel hb2)
  have HB2 := Lib.hid (bt HB1.out hb2)
  clear q0 hy hb2 HN1 HB1 HGd
  unfold Chn.val
  have q0 := HN2.out.cell
  have f0 := HN2.out.frozen
  go_upto_region 4 with fail
  have HN3 := Lib.hid (put11 HN2.out (.int .i64 y.k) (.int .i64 y.f) (.int .i64 y.t) (.int .i64 y.w) (.int .i64 y.r) (.int .i64 y.la) (.int .i64 y.d) (.int .i64 y.h) (.int .i64 y.li) (.int .i64 y.ra) (.int .i64 y.c))
  have HB3 := Lib.hid (bel11 HB2.out HKS.out (.int .i64 y.k) (.int .i64 y.f) (.int .i64 y.t) (.int .i64 y.w) (.int .i64 y.r) (.int .i64 y.la) (.int .i64 y.d) (.int .i64 y.h) (.int .i64 y.li) (.int .i64 y.ra) (.int .i64 y.c))
  clear q0 f0 HN2 HB2
  generalize (((((((((((w2.setCell ⟨ks, 0, none⟩ (.int .i64 y.k)).setCell ⟨ks, 1, none⟩ (.int .i64 y.f)).setCell ⟨ks, 2, none⟩ (.int .i64 y.t)).setCell ⟨ks, 3, none⟩ (.int .i64 y.w)).setCell ⟨ks, 4, none⟩ (.int .i64 y.r)).setCell ⟨ks, 5, none⟩ (.int .i64 y.la)).setCell ⟨ks, 6, none⟩ (.int .i64 y.d)).setCell ⟨ks, 7, none⟩ (.int .i64 y.h)).setCell ⟨ks, 8, none⟩ (.int .i64 y.li)).setCell ⟨ks, 9, none⟩ (.int .i64 y.ra)).setCell ⟨ks, 10, none⟩ (.int .i64 y.c)) = W3 at *
  have q0 := HN3.out.cell
  have HNw := Lib.hid (new_any y W3)
  unfold Chn.val at HNw
  go_wp2_with fail
  refine HNw.out.mono ?_
  rintro e w4 ⟨g, a, rfl, hg, hf⟩
  have HG := Lib.hid (hg.old HB3.out)
  have HF := Lib.hid hf
  have HN4 := Lib.hid (HN3.out.bel (hg.below (Below.refl _ _)).bl)
  clear q0 hg hf HN3 HNw
  have HI : Hid (Rt w w4 g ks a y 0 0) := by
    refine ⟨⟨_, _, HG.out, ?_⟩, HN4.out⟩
    show (0 : Int) + a.C ≤ a.C + a.R * 0
    omega
  have HBd := Lib.hid HG.out.bk.ok
  clear HG HN4 HB3
  go_wp2_with fail
  go_loopw [6, 7, 8] (fun rv nv iv V => ∃ (rd n i : Nat), rv = .int .i64 rd ∧ nv = .int .i64 n ∧ iv = .int .i64 i ∧ i ≤ l.length ∧ i ≤ 150 ∧ rd ≤ i ∧ n ≤ i ∧ Rt w V g ks a y rd n) (fun _ _ iv _ => l.length - (intOf iv).toNat)
  case atStart => exact ⟨0, 0, 0, rfl, rfl, rfl, Nat.zero_le _, by omega, Nat.le_refl _, Nat.le_refl _, HI.out⟩
  case round =>
    clear HI
    obtain ⟨rd, n, i, rfl, rfl, rfl, hi, hi2, hrd, hni, ⟨r, T, hg, hT⟩, hbx⟩ := hrel
    by_cases hgo : i < l.length ∧ i < 150
    · obtain ⟨hlt, hlt2⟩ := hgo
      obtain ⟨x, hx⟩ : ∃ x, l[i]? = some x := ⟨_, List.getElem?_eq_getElem hlt⟩
      obtain ⟨b0, o0, rfl, _, hc0⟩ := A12.ints_at (HR.out.below hg.bl) hx
      obtain ⟨b, hb, hb0, hb2⟩ : ∃ b, (IntKind.u64.wrap x).tmod 2 = b ∧ 0 ≤ b ∧ b < 2 := ⟨_, rfl, modU_bd x 2 (by decide)⟩
      have hlz : (i : Int) < l.length := by omega
      have hlz2 : (i : Int) < 150 := by omega
      have hi0 : (0 : Int) ≤ (i : Int) := by omega
      have HG := Lib.hid hg
      have HX := Lib.hid hbx
      have HT := Lib.hid hT
      clear hg hbx hT hx
      have HO := Lib.hid (offer_one HG.out 1 0 0 (i : Int) ((rd : Int) + b) (by show (0 : Int) ≤ (n : Int); omega) (by show (n : Int) ≤ 1000000; omega))
      obtain ⟨e1, e2⟩ := oc_empty (s := ⟨r, [], T, rd, n⟩) rfl HF.out HY.out 1 (by omega) (by omega) ((rd : Int) + b)
      obtain ⟨e3, e4⟩ := ctok_next HG.out b hb0 (by omega) (by show (rd : Int) ≤ 1000; omega)
      simp only at e1 e2 e3 e4
      rw [e3] at e1
      rw [e1, e2, e3, e4] at HO
      obtain ⟨nb, hnb⟩ : ∃ nb : Nat, b = nb := ⟨b.toNat, by omega⟩
      have hk0 := HG.out.bk.ok.t0
      have hr0 := HBd.out.r0
      have hr1 := HBd.out.r1
      have hc1 := HBd.out.c0
      have hcap := HBd.out.c1
      simp only at hk0
      have hbR : 0 ≤ b * a.R := Int.mul_nonneg hb0 hr0
      obtain ⟨T1, hT1, hT1a, hT1b⟩ : ∃ T1, min (T + b * a.R) a.C = T1 ∧ T1 ≤ T + b * a.R ∧ 0 ≤ T1 := ⟨_, rfl, by omega, by omega⟩
      rw [hT1] at HO
      have HM : Hid ((n : Int) + T1 ≤ a.C + a.R * ((rd + nb : Nat) : Int)) := by
        show (n : Int) + T1 ≤ a.C + a.R * ((rd + nb : Nat) : Int)
        rw [show ((rd + nb : Nat) : Int) = rd + b by rw [hnb]; rfl, Int.mul_add, Int.mul_comm a.R b]
        have := HT.out
        omega
      have HMo : Hid (∀ V, Calls Try.prog 32 #[.int .i64 y.ra, .int .i64 y.c, .int .i64 ((rd + nb : Nat) : Int)] V fun e w' => e = .returned (.int .i64 (a.C + a.R * ((rd + nb : Nat) : Int))) ∧ Below V.heap.size V w') := fun V => by
        have h := K11.rmost_any y.ra y.c ((rd + nb : Nat) : Int) V
        have f1 : a.R = y.ra := by rw [HF.out.r]; have := HY.out.ra; unfold K11.rof; omega
        have f2 : a.C = y.c := by rw [HF.out.c]; have := HY.out.c; unfold K11.cof; omega
        rw [K11.most_small (by have := HY.out.ra; omega) (by have := HY.out.ra; omega) (by have := HY.out.c; omega) (by have := HY.out.c; omega) (by omega) (by omega)] at h
        rw [f1, f2]
        exact h
      obtain ⟨rn, hrn⟩ : ∃ rn : Nat, rd + nb = rn := ⟨_, rfl⟩
      have hrz : (rd : Int) + b = (rn : Int) := by omega
      rw [hrn] at HM HMo
      rw [hrz] at HO
      have HB1 := Lib.hid hrz
      have hrl : rn ≤ i + 1 := by omega
      clear e1 e2 e3 e4 hT1 hT1a hbR hk0 hnb hrn
      by_cases h0 : T1 = 0
      · skip
        have hT0 : T1 = 0 := h0
        have e0 : (if T1 = 0 then (2 : Int) else 0) = 2 := if_pos h0
        have HE0 := Lib.hid e0
        clear e0
        have HLs : Hid ((n : Int) + K11.less T1 ≤ a.C + a.R * (rn : Int)) := by
          show (n : Int) + K11.less T1 ≤ a.C + a.R * (rn : Int)
          have := HM.out
          rw [K11.less_zero h0]; omega
        have HQ : Hid (∀ q : Int, q = (if T1 = 0 then (n : Int) else n + 1) → q = (n : Int)) := fun q hq => by rw [hq]; exact if_pos h0
        clear h0 hT0
        go_upto_region 10 with fail
        go_wp2_with fail
        refine HO.out.mono ?_
        rintro e w5 ⟨m, s', rfl, h5⟩
        rw [HE0.out]
        have HX5 := Lib.hid (h5.on.blk (HX.out.alloc (.cells #[.int .i64 1] 3)) ((HG.out.alloc (.cells #[.int .i64 1] 3)).off2 (HX.out.alloc (.cells #[.int .i64 1] 3)) (by decide) (by decide) (by decide) (by decide)))
        obtain ⟨s1, s2, s3, s4⟩ := of_state h5 rfl rfl
        have s5 := HQ.out _ s4
        have b6 := b01 w5 (.cells #[.slice m.a m.ws.length m.c, .int .i64 m.ln, .int .i64 m.st, .int .i64 m.lt, .int .i64 m.sq] 43)
        have HG6 := Lib.hid (h5.gt.below b6)
        have HX6 := Lib.hid (HX5.out.bel b6)
        have HSt := Lib.hid (And.intro s1 (And.intro s2 (And.intro s3 s5)))
        clear h5 b6 s1 s2 s3 s4 s5 HX5 HO
        unfold MV.val
        go_upto_region 13 with fail
        generalize w5.alloc (.cells #[.slice m.a m.ws.length m.c, .int .i64 m.ln, .int .i64 m.st, .int .i64 m.lt, .int .i64 m.sq] 43) = W6 at *
        have HTk := Lib.hid (A12.take_any HG6.out)
        unfold TbP MV.val at HTk
        go_wp2_with fail
        refine HTk.out.mono ?_
        rintro e w7 ⟨r7, rfl, h7⟩
        have HX7 := Lib.hid (h7.on.blk HX6.out (HG6.out.off2 HX6.out (by decide) (by decide) (by decide) (by decide)))
        have hg7 : Gt w w7 g a ⟨r7, [], K11.less T1, rn, (n : Int)⟩ := by
          have h := h7.gt
          rw [HSt.out.1, HSt.out.2.1, HSt.out.2.2.1, HSt.out.2.2.2] at h
          exact h
        have HG7 := Lib.hid hg7
        have HRt : Hid (∀ V, Below w7.heap.size w7 V → Rt w V g ks a y rn (n)) := fun V hV => ⟨⟨r7, K11.less T1, HG7.out.below hV, HLs.out⟩, HX7.out.bel hV⟩
        have HLn : Hid (∀ V, Below w7.heap.size w7 V → Calls Try.prog 26 #[.pointer (some ⟨g, 0, none⟩)] V fun e w' => e = .returned (.int .i64 0) ∧ V = w') := fun V hV => A12.len_any (HG7.out.below hV)
        have HSq : Hid (∀ V, Below w7.heap.size w7 V → Calls Try.prog 28 #[.pointer (some ⟨g, 0, none⟩)] V fun e w' => e = .returned (.int .i64 (n : Int)) ∧ V = w') := fun V hV => A12.seq_any (HG7.out.below hV)
        have hnm : ¬ (n : Int) > a.C + a.R * (rn : Int) := by have := HG7.out.bk.ok.t0; have h9 := HLs.out; simp only at this; omega
        have tq : ((n : Int) != (n : Int)) = false := by rw [bne_eq_false_iff_eq]
        have q0 := HX7.out.cell
        clear h7 hg7 HTk HG6 HX6 HM
        go_upto_region 14 with fail
        go_wp2_with (first
          | (go_at_call 32; (refine (HMo.out _).mono ?_); rintro e w8 ⟨rfl, hb8⟩)
          | (go_at_call 28; (refine (HSq.out _ hb8).mono ?_); rintro e w9 ⟨rfl, rfl⟩)
          | (go_at_call 26; (refine (HLn.out _ hb8).mono ?_); rintro e w9 ⟨rfl, rfl⟩))
        go_roundw
        case rel => exact ⟨rn, n, i + 1, rfl, rfl, by go_num, by omega, by omega, by omega, by omega, HRt.out _ hb8⟩
        case measure => simp [intOf] <;> omega
      · skip
        have e0 : (if T1 = 0 then (2 : Int) else 0) = 0 := if_neg h0
        have HE0 := Lib.hid e0
        clear e0
        have HLs : Hid (((n : Int) + 1) + K11.less T1 ≤ a.C + a.R * (rn : Int)) := by
          show ((n : Int) + 1) + K11.less T1 ≤ a.C + a.R * (rn : Int)
          have := HM.out
          rw [K11.less_pos h0]; omega
        have HQ : Hid (∀ q : Int, q = (if T1 = 0 then (n : Int) else n + 1) → q = ((n : Int) + 1)) := fun q hq => by rw [hq]; exact if_neg h0
        clear h0
        go_upto_region 10 with fail
        go_wp2_with fail
        refine HO.out.mono ?_
        rintro e w5 ⟨m, s', rfl, h5⟩
        rw [HE0.out]
        have HX5 := Lib.hid (h5.on.blk (HX.out.alloc (.cells #[.int .i64 1] 3)) ((HG.out.alloc (.cells #[.int .i64 1] 3)).off2 (HX.out.alloc (.cells #[.int .i64 1] 3)) (by decide) (by decide) (by decide) (by decide)))
        obtain ⟨s1, s2, s3, s4⟩ := of_state h5 rfl rfl
        have s5 := HQ.out _ s4
        have b6 := b01 w5 (.cells #[.slice m.a m.ws.length m.c, .int .i64 m.ln, .int .i64 m.st, .int .i64 m.lt, .int .i64 m.sq] 43)
        have HG6 := Lib.hid (h5.gt.below b6)
        have HX6 := Lib.hid (HX5.out.bel b6)
        have HSt := Lib.hid (And.intro s1 (And.intro s2 (And.intro s3 s5)))
        clear h5 b6 s1 s2 s3 s4 s5 HX5 HO
        unfold MV.val
        go_upto_region 13 with fail
        generalize w5.alloc (.cells #[.slice m.a m.ws.length m.c, .int .i64 m.ln, .int .i64 m.st, .int .i64 m.lt, .int .i64 m.sq] 43) = W6 at *
        have HTk := Lib.hid (A12.take_any HG6.out)
        unfold TbP MV.val at HTk
        go_wp2_with fail
        refine HTk.out.mono ?_
        rintro e w7 ⟨r7, rfl, h7⟩
        have HX7 := Lib.hid (h7.on.blk HX6.out (HG6.out.off2 HX6.out (by decide) (by decide) (by decide) (by decide)))
        have hg7 : Gt w w7 g a ⟨r7, [], K11.less T1, rn, ((n : Int) + 1)⟩ := by
          have h := h7.gt
          rw [HSt.out.1, HSt.out.2.1, HSt.out.2.2.1, HSt.out.2.2.2] at h
          exact h
        have HG7 := Lib.hid hg7
        have HRt : Hid (∀ V, Below w7.heap.size w7 V → Rt w V g ks a y rn (n + 1)) := fun V hV => ⟨⟨r7, K11.less T1, HG7.out.below hV, HLs.out⟩, HX7.out.bel hV⟩
        have HLn : Hid (∀ V, Below w7.heap.size w7 V → Calls Try.prog 26 #[.pointer (some ⟨g, 0, none⟩)] V fun e w' => e = .returned (.int .i64 0) ∧ V = w') := fun V hV => A12.len_any (HG7.out.below hV)
        have HSq : Hid (∀ V, Below w7.heap.size w7 V → Calls Try.prog 28 #[.pointer (some ⟨g, 0, none⟩)] V fun e w' => e = .returned (.int .i64 ((n : Int) + 1)) ∧ V = w') := fun V hV => A12.seq_any (HG7.out.below hV)
        have hnm : ¬ ((n : Int) + 1) > a.C + a.R * (rn : Int) := by have := HG7.out.bk.ok.t0; have h9 := HLs.out; simp only at this; omega
        have tq : (((n : Int) + 1) != ((n : Int) + 1)) = false := by rw [bne_eq_false_iff_eq]
        have q0 := HX7.out.cell
        clear h7 hg7 HTk HG6 HX6 HM
        go_upto_region 14 with fail
        go_wp2_with (first
          | (go_at_call 32; (refine (HMo.out _).mono ?_); rintro e w8 ⟨rfl, hb8⟩)
          | (go_at_call 28; (refine (HSq.out _ hb8).mono ?_); rintro e w9 ⟨rfl, rfl⟩)
          | (go_at_call 26; (refine (HLn.out _ hb8).mono ?_); rintro e w9 ⟨rfl, rfl⟩))
        go_roundw
        case rel => exact ⟨rn, n + 1, i + 1, rfl, by go_num, by go_num, by omega, by omega, by omega, by omega, HRt.out _ hb8⟩
        case measure => simp [intOf] <;> omega
    · have hgz : ¬ (i : Int) < l.length ∨ ¬ (i : Int) < 150 := by omega
      have HG := Lib.hid hg.bl
      clear hg hbx hT hgo
      rcases hgz with hgz | hgz
      · go_wp2_with fail
        go_ret
        exact ⟨rfl, HG.out⟩
      · by_cases hgz2 : (i : Int) < l.length
        · go_wp2_with fail
          go_ret
          exact ⟨rfl, HG.out⟩
        · go_wp2_with fail
          go_ret
          exact ⟨rfl, HG.out⟩
end Go.Proofs.Ytgmcjkiofcpjbaa.gateRates
