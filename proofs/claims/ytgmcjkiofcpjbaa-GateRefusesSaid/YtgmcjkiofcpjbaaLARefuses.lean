/- GateRefuses, walked. -/
import Derived.Test.YtgmcjkiofcpjbaaAPut
import Derived.Test.YtgmcjkiofcpjbaaAOf2
import Derived.Deep.CutBlock
namespace Go.Proofs.Ytgmcjkiofcpjbaa.gateRefuses
open Go.RowKit Go.Proofs.Ytgmcjkiofcpjbaa.G Go.Proofs.Ytgmcjkiofcpjbaa.L10 Go.Proofs.Ytgmcjkiofcpjbaa.C04 Go.Proofs.Ytgmcjkiofcpjbaa.A12
set_option maxRecDepth 100000
variable {w w' V V' : World} {g : Nat} {a : Ga}
/-- Between the rounds. -/
def Rf (w V : World) (g : Nat) (a : Ga) (i : Nat) : Prop := ∃ s, Gt w V g a s ∧ 0 ≤ s.q ∧ s.q ≤ i
def RfK (w V : World) (g kx : Nat) (a : Ga) (i : Nat) (sc : Array Value) : Prop := ∃ s, Gt w V g a s ∧ 0 ≤ s.q ∧ s.q ≤ i ∧ Blk V kx 40 sc
theorem tok_again {s : Gs} (hg : Gt w V g a s) (r : Int) : K11.ctok a.R a.C (K11.ctok a.R a.C s.T s.N r) (K11.crnd s.N r) r = K11.ctok a.R a.C s.T s.N r ∧ K11.crnd (K11.crnd s.N r) r = K11.crnd s.N r :=
  K11.come_same (hg.bk.ok.come r) (by unfold K11.crnd; omega)
/-- Behind an Offer, in the round that the bucket had come to: how many tokens it has in it. -/
theorem tok_after {s' : Gs} {T1 N1 r : Int} (hg : Gt w V g a s') (hr : Sat.cut r ≤ N1) (hT : s'.T = T1) (hN : s'.N = N1) : K11.ctok a.R a.C s'.T s'.N r = T1 := by
  have := (K11.come_same hg.bk.ok (show Sat.cut r ≤ s'.N by rw [hN]; exact hr)).1
  rw [this, hT]
set_option maxHeartbeats 16000000 in
theorem walk (k : Chn) {w : World} {A : Option Addr} {l : List A12.Sp} {c : Nat} (hl : l.length ≤ c) (hc : c ≤ 9223372036854775807) (hr : Row w A (A12.sps l)) (ho : ∀ (k : Nat) (y : A12.Sp), l[k]? = some y → A12.SpOk w y) : Calls Try.prog 5 #[k.val, .slice A l.length c] w fun e w' => e = .returned (.bool true) ∧ Below w.heap.size w w' := by
  have HR := Lib.hid (And.intro hr ho)
  have C1 := Lib.hid (fun V => A12.early_any (A := A) l.length c hl hc V)
  obtain ⟨n, hn⟩ : ∃ n, min l.length 80 = n := ⟨_, rfl⟩
  have hnl : n ≤ l.length ∧ n ≤ 80 := by omega
  have HNL := Lib.hid hnl
  unfold A12.EaPost at C1
  simp only [hn] at C1
  clear hr hl hc ho hn
  have b0 := b01 w (.cells #[.int .i64 k.k, .int .i64 k.f, .int .i64 k.t, .int .i64 k.w, .int .i64 k.r, .int .i64 k.la, .int .i64 k.d, .int .i64 k.h, .int .i64 k.li, .int .i64 k.ra, .int .i64 k.c] 23)
  have HN := Lib.hid (Blk.new w 23 #[.int .i64 k.k, .int .i64 k.f, .int .i64 k.t, .int .i64 k.w, .int .i64 k.r, .int .i64 k.la, .int .i64 k.d, .int .i64 k.h, .int .i64 k.li, .int .i64 k.ra, .int .i64 k.c])
  have HB := Lib.hid b0
  have HGd := Lib.hid (fun V => good12_any k V)
  unfold Chn.val at *
  clear b0
  go_enter Try.func5, Try.ntmps5
  go_wp2_with fail
  refine (lives_any _).mono ?_
  rintro e w1 ⟨rfl, hb1⟩
  have q0 := (HN.out.bel hb1).cell
  have HB1 := Lib.hid (bt HB.out hb1)
  clear hb1 HN HB
  go_wp2_with fail
  refine (HGd.out _).mono ?_
  rintro e w2 ⟨y, rfl, hy, hb2⟩
  have HB2 := Lib.hid (bt HB1.out hb2)
  have HNw := Lib.hid (A12.new_any y w2)
  unfold Chn.val at HNw ⊢
  clear q0 hy hb2 HB1 HGd
  go_wp2_with fail
  refine HNw.out.mono ?_
  rintro e w3 ⟨g, a, rfl, hg, hf⟩
  have HI : Hid (Rf w w3 g a 0) := ⟨_, hg.old HB2.out, Int.le_refl _, Int.le_refl _⟩
  clear hg hf HNw
  go_wp2_with fail
  refine (C1.out _).mono ?_
  rintro e w5 ⟨⟨c', rfl⟩, rfl⟩
  go_wp2_with fail
  go_loopw [6, 7] (fun rv iv V => ∃ (rd i : Nat), rv = .int .i64 rd ∧ iv = .int .i64 i ∧ i ≤ n ∧ rd ≤ 3 * i ∧ Rf w V g a i) (fun _ iv _ => n - (intOf iv).toNat)
  case atStart => exact ⟨0, 0, rfl, rfl, Nat.zero_le _, Nat.le_refl _, HI.out⟩
  case round =>
    clear HI
    obtain ⟨rd, i, rfl, rfl, hi, hrd, s, hg, hq0, hq1⟩ := hrel
    by_cases hlt : i < n
    · have hltz : (i : Int) < n := by omega
      have hi80 : i < 80 := by omega
      obtain ⟨u, hu⟩ : ∃ u, l[i]? = some u := ⟨_, List.getElem?_eq_getElem (by have := HNL.out.1; omega)⟩
      obtain ⟨gs, o, rfl, _, s0, s1, s2, s3, s4, s5⟩ := A12.sps_at (HR.out.1.below hg.bl) hu
      have hi0 : (0 : Int) ≤ (i : Int) := by omega
      have HU := Lib.hid (HR.out.2 i u hu)
      have CK := Lib.hid (A12.kind_any u)
      have CW := Lib.hid (fun V => A12.words_any u HU.out.le HU.out.top V)
      obtain ⟨kd, hkd⟩ : ∃ kd, modU u.k 8 = kd := ⟨_, rfl⟩
      rw [hkd] at CK
      unfold A12.Sp.val at CK CW
      obtain ⟨b, hb, hb0, hb2⟩ : ∃ b, (IntKind.u64.wrap u.r).tmod 3 = b ∧ 0 ≤ b ∧ b < 3 := ⟨_, rfl, modU_bd u.r 3 (by decide)⟩
      obtain ⟨rn, hrz⟩ : ∃ rn : Nat, (rd : Int) + b = (rn : Int) := ⟨((rd : Int) + b).toNat, by omega⟩
      have hrl : rn ≤ 3 * (i + 1) := by omega
      have b5 := b01 wr (.cells #[.int .i64 u.k, .int .i64 u.md, .int .i64 u.ln, .int .i64 u.n, .int .i64 u.r, .slice u.a u.ws.length u.c] 40)
      have HN := Lib.hid (Blk.new wr 40 #[.int .i64 u.k, .int .i64 u.md, .int .i64 u.ln, .int .i64 u.n, .int .i64 u.r, .slice u.a u.ws.length u.c])
      have HG := Lib.hid (hg.below b5)
      have HQ := Lib.hid (And.intro hq0 hq1)
      clear hg hu b5 hkd hq0 hq1
      go_upto_region 10 with fail
      obtain ⟨kx, hkx⟩ : ∃ kx, wr.heap.size = kx := ⟨_, rfl⟩
      rw [hkx] at HN
      rw [hkx]
      generalize wr.alloc (.cells #[.int .i64 u.k, .int .i64 u.md, .int .i64 u.ln, .int .i64 u.n, .int .i64 u.r, .slice u.a u.ws.length u.c] 40) = v at *
      clear hkx s0 s1 s2 s3 s4 s5
      have n0 := HN.out.cell
      go_wp2_with fail
      clear hb hrz hb0 hb2
      refine (CK.out _).mono ?_
      rintro e w6 ⟨rfl, hb6⟩
      have HG6 := Lib.hid (HG.out.below hb6)
      have HN6 := Lib.hid (HN.out.bel hb6)
      clear n0 hb6 HG HN CK
      go_upto_if 41 with fail
      go_cut [] (fun V => RfK w V g kx a i #[.int .i64 u.k, .int .i64 u.md, .int .i64 u.ln, .int .i64 u.n, .int .i64 u.r, .slice u.a u.ws.length u.c])
      case first =>
        by_cases hk5 : kd = 5
        · subst hk5
          have HTk := Lib.hid (A12.take_any HG6.out)
          unfold TbP MV.val at HTk
          go_wp2_with fail
          refine HTk.out.mono ?_
          rintro e w7 ⟨r7, rfl, h7⟩
          have HD : Hid (RfK w w7 g kx a i #[.int .i64 u.k, .int .i64 u.md, .int .i64 u.ln, .int .i64 u.n, .int .i64 u.r, .slice u.a u.ws.length u.c]) := ⟨_, h7.gt, HQ.out.1, HQ.out.2, h7.on.blk HN6.out (HG6.out.off2 HN6.out (by decide) (by decide) (by decide) (by decide))⟩
          clear h7
          go_wp2_with fail
          go_meet
          exact HD.out
        · have t5 : (kd == 5) = false := by simpa using hk5
          have HD : Hid (RfK w w6 g kx a i #[.int .i64 u.k, .int .i64 u.md, .int .i64 u.ln, .int .i64 u.n, .int .i64 u.r, .slice u.a u.ws.length u.c]) := ⟨_, HG6.out, HQ.out.1, HQ.out.2, HN6.out⟩
          clear hk5
          go_wp2_with fail
          go_meet
          exact HD.out
      case rest =>
        clear HG6 HN6 HQ
        obtain ⟨s1, hg, hq0, hq1, hx⟩ := hcut
        have HQ := Lib.hid (And.intro hq0 hq1)
        have HN := Lib.hid hx
        have HG := Lib.hid hg
        have hl24 := hg.len
        have HFl : Hid (∀ q, FG g a s1.r q → q < wc.heap.size) := fun q hf => hg.fg_lt hf
        clear hg hx hq0 hq1
        have CA := Lib.hid (all_own HG.out)
        go_wp2_with fail
        refine CA.out.mono ?_
        rintro e w7 ⟨A7, c7, l7, rfl, ht7, hp7, hb7⟩
        have hl7 : l7.length = s1.d.length := by
          have h := congrArg List.length hp7
          rw [List.length_map, List.length_map] at h
          exact h
        have HLe := Lib.hid hl7
        clear hl7
        have HL7 := Lib.hid ht7
        have HP7 := Lib.hid hp7
        have HG7 := Lib.hid (HG.out.below hb7)
        have HN7 := Lib.hid (HN.out.bel hb7)
        clear ht7 hp7 hb7 CA HG HN
        obtain ⟨hta, htb⟩ := tok_again HG7.out (rn : Int)
        have HC0 := Lib.hid (show Sat.cut (rn : Int) ≤ K11.crnd s1.N (rn : Int) by unfold K11.crnd; omega)
        have HK0 := Lib.hid (HG7.out.bk.ok.come (rn : Int))
        have CT := Lib.hid (A12.tokens_any HG7.out (rn : Int))
        unfold A12.TkPost at CT
        generalize K11.ctok a.R a.C s1.T s1.N (rn : Int) = T1 at *
        generalize K11.crnd s1.N (rn : Int) = N1 at *
        have HTA := Lib.hid (And.intro hta htb)
        clear hta htb
        go_wp2_with fail
        refine CT.out.mono ?_
        rintro e w8 ⟨rfl, hg8, ho8⟩
        have HL8 := Lib.hid (HL7.out.only ho8 HFl.out)
        have HG8 := Lib.hid hg8
        have HN8 := Lib.hid (ho8.blk HN7.out (HG7.out.off2 HN7.out (by decide) (by decide) (by decide) (by decide)))
        clear hg8 ho8 CT HG7 HN7
        go_wp2_with fail
        refine (A12.seq_any HG8.out).mono ?_
        rintro e w9 ⟨rfl, rfl⟩
        simp only
        have HW8 := HU.out.w8
        have HOf : Hid (∀ V, Below w8.heap.size w8 V → Calls Try.prog 18 #[.pointer (some ⟨g, 0, none⟩), .int .i64 u.md, .int .i64 u.ln, .slice u.a u.w8.length u.c, .int .i64 u.n, .int .i64 (rn : Int)] V (OfP w V g a ⟨s1.r, s1.d, T1, N1, s1.q⟩ (pm a u.w8 u.ln u.n (s1.q + 1)) (oc a ⟨s1.r, s1.d, T1, N1, s1.q⟩ u.md u.ln u.w8 (rn : Int)) (asks a ⟨s1.r, s1.d, T1, N1, s1.q⟩ u.md u.ln u.w8) T1 N1)) := fun V hV => by
          have h := A12.offer_any (HG8.out.below hV) (c := u.c) u.md u.ln u.n (rn : Int) ((HG8.out.below hV).ap_old HW8.1) HW8.2.1 HU.out.top HW8.2.2 (by have := HQ.out; show 0 ≤ s1.q; omega) (by have := HQ.out; show s1.q ≤ 1000000; omega)
          rw [HTA.out.1, HTA.out.2] at h
          exact h
        have HCd : Hid (∀ T, T = K11.ctok a.R a.C T1 N1 (rn : Int) → T = T1) := fun T h => h.trans HTA.out.1
        have HZ1 : Hid (oc a ⟨s1.r, s1.d, T1, N1, s1.q⟩ u.md u.ln u.w8 (rn : Int) = 0 → asks a ⟨s1.r, s1.d, T1, N1, s1.q⟩ u.md u.ln u.w8 = true ∧ T1 ≠ 0) := fun h => by
          have := oc_zero h
          simp only [HTA.out.1] at this
          exact this
        have HZ2 : Hid (oc a ⟨s1.r, s1.d, T1, N1, s1.q⟩ u.md u.ln u.w8 (rn : Int) ≠ 0 → asks a ⟨s1.r, s1.d, T1, N1, s1.q⟩ u.md u.ln u.w8 = false ∨ T1 = 0) := fun h => by
          have := oc_non h
          simp only [HTA.out.1] at this
          exact this
        have HM : Hid ((pm a u.w8 u.ln u.n (s1.q + 1)).sq = s1.q + 1) := rfl
        clear HW8
        generalize oc a ⟨s1.r, s1.d, T1, N1, s1.q⟩ u.md u.ln u.w8 (rn : Int) = code at *
        generalize asks a ⟨s1.r, s1.d, T1, N1, s1.q⟩ u.md u.ln u.w8 = ask at *
        generalize pm a u.w8 u.ln u.n (s1.q + 1) = M at *
        have HS : Hid (∀ V, Below w8.heap.size w8 V → ∀ i, V.cell? ⟨kx, i, none⟩ = (#[.int .i64 u.k, .int .i64 u.md, .int .i64 u.ln, .int .i64 u.n, .int .i64 u.r, .slice u.a u.ws.length u.c] : Array Value)[i]?) := fun V hV => (HN8.out.bel hV).cell
        have HKn : Hid (∀ V (m' : MV) (s' : Gs) (V' : World), Below w8.heap.size w8 V → OfW w V g a ⟨s1.r, s1.d, T1, N1, s1.q⟩ M code ask T1 N1 m' s' V' → Blk V' kx 40 #[.int .i64 u.k, .int .i64 u.md, .int .i64 u.ln, .int .i64 u.n, .int .i64 u.r, .slice u.a u.ws.length u.c]) := fun V m' s' V' hV h => h.on.blk (HN8.out.bel hV) ((HG8.out.below hV).off2 (HN8.out.bel hV) (by decide) (by decide) (by decide) (by decide))
        have hkx8 := HN8.out.lt
        have HNe : Hid (∀ q, w8.heap.size ≤ q → kx ≠ q) := fun q hq e => by omega
        go_upto_region 14 with fail
        go_cut [12, 13] (fun v0 v1 V => ∃ (km : Nat) (m' : MV) (s' : Gs), v0 = .pointer (some ⟨km, 0, none⟩) ∧ v1 = .int .i64 code ∧ Of2 w w8 g a ⟨s1.r, s1.d, T1, N1, s1.q⟩ M code ask T1 N1 m' s' km V)
        case first =>
          have S0 : Below w8.heap.size w8 w8.drew := (Below.refl _ _).drew
          go_region_held3 (fun V => ∀ i, V.cell? ⟨kx, i, none⟩ = (#[.int .i64 u.k, .int .i64 u.md, .int .i64 u.ln, .int .i64 u.n, .int .i64 u.r, .slice u.a u.ws.length u.c] : Array Value)[i]?) (first | (with_reducible exact HS.out _ S0) | (with_reducible exact HS.out _ (ba1 S0 _)) | (with_reducible exact HS.out _ ((b01 w8 _).drew)) | (with_reducible exact K9.cell) | (with_reducible exact (K9.alloc _).cell) | (with_reducible exact (bfar5 K9 hne _ _ _ _ _).cell) | fail)
            (first
              | (go_at_call 17; (with_reducible refine (CW.out _).mono ?_); rintro e w9 ⟨rfl, hb9⟩; first
                  | (have S0 := bt S0 hb9; have hz9 := S0.size)
                  | (have Zb := ((Blk.new w8 43 #[.slice none 0 0, .int .i64 0, .int .i64 0, .int .i64 0, .int .i64 0]).drewN 1).bel hb9; have S0 := bt ((b01 w8 _).drew) hb9; have hz9 := Nat.le_refl w8.heap.size; have hne := HNe.out _ hz9)
                  | fail)
              | (go_at_call 18; first
                  | ((with_reducible refine (HOf.out _ S0).mono ?_); rintro e w10 ⟨m', s', rfl, h10⟩; unfold MV.val; have S9 := S0; have K9 := HKn.out _ _ _ _ S0 h10; have zc := (h10.on.blk Zb (fun hf => by have := (HG8.out.below S0).fg_lt hf; have := HG8.out.fg_lt hf; omega)); have zf := zc.frozen; have zl := zc.lt; have zc := zc.cell)
                  | ((with_reducible refine (HOf.out _ S0).mono ?_); rintro e w10 ⟨m', s', rfl, h10⟩; unfold MV.val; have S9 := S0; have K9 := HKn.out _ _ _ _ S0 h10)
                  | ((with_reducible refine (HOf.out _ (ba1 S0 _)).mono ?_); rintro e w10 ⟨m', s', rfl, h10⟩; unfold MV.val; have Zb := Blk.new w9 43 #[.slice none 0 0, .int .i64 0, .int .i64 0, .int .i64 0, .int .i64 0]; have S9 := ba1 S0 (.cells #[.slice none 0 0, .int .i64 0, .int .i64 0, .int .i64 0, .int .i64 0] 43); have K9 := HKn.out _ _ _ _ S9 h10; have hne := HNe.out _ hz9; have zc := (h10.on.blk Zb (fun hf => by have := HG8.out.fg_lt hf; omega)); have zf := zc.frozen; have zl := zc.lt; have zc := zc.cell)
                  | fail)
              | fail)
          all_goals
            go_wp2_with fail
            go_meet
            first
            | with_reducible exact ⟨_, m', s', rfl, rfl, of2_new S9 h10⟩
            | with_reducible exact ⟨_, m', s', rfl, rfl, of2_set HG8.out S9 hz9 Zb h10⟩
            | fail
        case rest =>
          obtain ⟨km, m', s', rfl, rfl, h⟩ := hcut
          have HG9 := Lib.hid h.gt
          have HL9 := Lib.hid (HL8.out.only h.on HFl.out)
          have HM9 := Lib.hid h.bx
          have HNf := Lib.hid h.nf
          have HQ9 : Hid (0 ≤ s'.q ∧ s'.q ≤ ((i + 1 : Nat) : Int)) := by
            have h1 := h.q
            have := HQ.out
            show 0 ≤ s'.q ∧ s'.q ≤ ((i + 1 : Nat) : Int)
            rw [h1]
            (try dsimp only)
            split <;> omega
          have CA := Lib.hid (A12.all_any HG9.out)
          have hl10 := h.dp
          have hmp := h.mp
          have hqq := h.q
          have hTT := h.T
          have hNN := h.N
          clear h HL8 HG8 HN8 HKn HOf HS CW
          have HF := Lib.hid (And.intro hl10 (And.intro hmp (And.intro hqq (And.intro hTT hNN))))
          clear hl10 hmp hqq hTT hNN
          go_wp2_with fail
          refine CA.out.mono ?_
          rintro e w11 ⟨A11, c11, l11, rfl, hr11, hw11, hp11, hb11⟩
          have HG11 := Lib.hid (HG9.out.below hb11)
          have HL11 := Lib.hid (HL9.out.below hb11)
          have HM11 := Lib.hid (HM9.out.bel hb11)
          have HR11 := Lib.hid (And.intro hr11 hw11)
          have hl11 : l11.length = s'.d.length := by
            have h := congrArg List.length hp11
            rw [List.length_map, List.length_map] at h
            exact h
          have HLf := Lib.hid hl11
          clear hl11
          by_cases hc0 : code = 0
          · obtain ⟨hk1, hk2⟩ := HZ1.out hc0
            obtain ⟨f1, f2, f3, f4, f5⟩ := HF.out
            rw [if_pos hc0] at f1 f2 f3
            rw [if_pos hk1] at f4 f5
            rw [K11.less_pos hk2] at f4
            subst hc0
            have hd1 : l11.length = s1.d.length + 1 := by
              rw [HLf.out]
              have h := congrArg List.length f1
              rw [List.length_map, insp_len, List.length_map] at h
              exact h
            have hmq : m'.sq = s1.q + 1 := by
              have := congrArg Pm.sq f2
              exact this.trans HM.out
            have htk := tok_after HG11.out HC0.out f4 f5
            have CT := Lib.hid (A12.tokens_any HG11.out (rn : Int))
            unfold A12.TkPost at CT
            rw [htk] at CT
            have hlz : (l11.length : Int) = (l7.length : Int) + 1 := by have := HLe.out; omega
            have tl : ((l11.length : Int) != (l7.length : Int) + 1) = false := by rw [bne_eq_false_iff_eq]; omega
            have tq : (s'.q != s1.q + 1) = false := by rw [bne_eq_false_iff_eq]; exact f3
            have tm : (m'.sq != s1.q + 1) = false := by rw [bne_eq_false_iff_eq]; exact hmq
            have tt : (T1 - 1 != T1 - 1) = false := by simp
            have k0 := HK0.out.t0
            have k1 := HK0.out.t1
            have k2 := HK0.out.c1
            have hqb := HQ.out
            have hl7b : l7.length ≤ 24 := by have := HLe.out; omega
            clear hlz hmq htk f1 f2 f3 f4 f5 hk1 hk2 hd1 hp11 hr11 hw11 hb11 HF
            go_wp2_with fail
            refine CT.out.mono ?_
            rintro e w12 ⟨rfl, hg12, ho12⟩
            have HG12 := Lib.hid hg12
            have HM12 := Lib.hid (ho12.blk HM11.out HNf.out)
            have m4 := HM12.out.cell 4
            simp only [List.getElem?_toArray, List.getElem?_cons_zero, List.getElem?_cons_succ] at m4
            have HD : Hid (Rf w w12 g a (i + 1)) := ⟨_, hg12, HQ9.out.1, HQ9.out.2⟩
            clear hg12 ho12 CT
            go_wp2_with (go_at_call 28; (refine (A12.seq_any HG12.out).mono ?_); rintro e w13 ⟨rfl, rfl⟩)
            go_roundw
            case rel => exact ⟨rn, i + 1, rfl, by go_num, by omega, by omega, HD.out⟩
            case measure => simp [intOf] <;> omega
          · have hN : s'.T = T1 ∧ s'.N = N1 := by
              obtain ⟨f1, f2, f3, f4, f5⟩ := HF.out
              (try dsimp only at f4 f5)
              by_cases ha : ask = true
              · rw [if_pos ha] at f4 f5
                have h0 : T1 = 0 := by
                  rcases HZ2.out hc0 with h | h
                  · rw [ha] at h; cases h
                  · exact h
                rw [h0, K11.less_zero rfl] at f4
                exact ⟨by rw [f4, h0], f5⟩
              · rw [if_neg ha] at f4 f5
                exact ⟨f4, f5⟩
            obtain ⟨f1, f2, f3, _, _⟩ := HF.out
            rw [if_neg hc0] at f1 f2 f3
            (try dsimp only at f3)
            obtain ⟨ma, mc, hm'⟩ := pl_eq (show m'.pl = ⟨[], 0, 0, 0, 0⟩ from f2)
            subst hm'
            have htk := tok_after HG11.out HC0.out hN.1 hN.2
            have hsm : sames l7 l11 = true := decide_eq_true (by rw [HP7.out, hp11]; exact f1.symm)
            have CS := Lib.hid (rsame_any (c := c7) (d := c11) HL11.out.row.1 HR11.out.1 HL11.out.row.2 HR11.out.2 (by have := HLe.out; omega) (by have := HLf.out; have := HG9.out.len; omega))
            rw [hsm] at CS
            have CT : Hid (∀ V, Below w11.heap.size w11 V → Calls Try.prog 29 #[.pointer (some ⟨g, 0, none⟩), .int .i64 (rn : Int)] V (A12.TkPost w V g a s' T1 (K11.crnd s'.N (rn : Int)))) := fun V hV => by
              have h := A12.tokens_any (HG11.out.below hV) (rn : Int)
              rw [htk] at h
              exact h
            unfold A12.TkPost at CT
            have tq : (s'.q != s1.q) = false := by rw [bne_eq_false_iff_eq]; exact f3
            have tt : (T1 != T1) = false := by simp
            have tc : (code != 0) = true := by rw [bne_iff_ne]; exact hc0
            clear htk hsm f1 f2 f3 hN hp11 hr11 hw11 hb11 HF hc0
            go_wp2_with fail
            refine CS.out.mono ?_
            rintro e w12 ⟨rfl, hb12⟩
            have HM12 := Lib.hid (HM11.out.bel hb12)
            have HB12 := Lib.hid hb12
            clear hb12 CS
            go_wp2_with fail
            refine (CT.out _ HB12.out).mono ?_
            rintro e w13 ⟨rfl, hg13, ho13⟩
            have HG13 := Lib.hid hg13
            have HM13 := Lib.hid (ho13.blk HM12.out HNf.out)
            have m0 := HM13.out.cell 0
            have m4 := HM13.out.cell 4
            simp only [List.getElem?_toArray, List.getElem?_cons_zero, List.getElem?_cons_succ, List.length_nil] at m0 m4
            have HD : Hid (Rf w w13 g a (i + 1)) := ⟨_, hg13, HQ9.out.1, HQ9.out.2⟩
            clear hg13 ho13 CT
            go_wp2_with (go_at_call 28; (refine (A12.seq_any HG13.out).mono ?_); rintro e w14 ⟨rfl, rfl⟩)
            go_roundw
            case rel => exact ⟨rn, i + 1, rfl, by go_num, by omega, by omega, HD.out⟩
            case measure => simp [intOf] <;> omega
    · have HG := Lib.hid hg.bl
      clear hg
      have hltz : ¬ (i : Int) < n := by omega
      go_wp2_with fail
      go_ret
      exact ⟨rfl, HG.out⟩
end Go.Proofs.Ytgmcjkiofcpjbaa.gateRefuses
