/- WheelPlays: the walk. -/
import Derived.Test.YtoomdjkojddpdaaHR5
import Derived.Deep.CutBlock
namespace Go.Proofs.Ytoomdjkojddpdaa.hPlays
open Go.RowKit Go.Proofs.Ytoomdjkojddpdaa.G Go.Proofs.Ytoomdjkojddpdaa.Sat Go.Proofs.Ytoomdjkojddpdaa.H14
set_option maxRecDepth 100000
def intOf : Value → Int
  | .int _ a => a
  | _ => 0
/-- Both wheels, side by side: the program's in memory, the document's list r. -/
structure Bo (w V : World) (b : Nat) (r : Value) (l : List En) (s : Nat) : Prop where
  mw : Mw w V b l s
  tr : TR V r l
variable {w V V' : World} {b s : Nat} {r : Value} {l : List En}
theorem Bo.bel (h : Bo w V b r l s) (hb : Below V.heap.size V V') : Bo w V' b r l s := ⟨h.mw.bel hb, h.tr.kp (Kp.bel hb)⟩
theorem Bo.bw (h : Bo w V b r l s) : Below w.heap.size w V := h.mw.bw
theorem Kp.blk {g : Nat} {t : TypeId} {cs : Array Value} (k : Kp V V') (h : Blk V g t cs) (ht : t ≠ 57) : Blk V' g t cs := k.2 g t cs ht h
/-- What each round keeps, k steps being done. -/
def Lo (w V : World) (b : Nat) (r : Value) (k : Nat) : Prop := ∃ (l : List En) (s : Nat), Bo w V b r l s ∧ s ≤ k ∧ l.length ≤ k
/-- What each step leaves. -/
def Mid (w V : World) (b : Nat) (r : Value) (k kx : Nat) (kd key n : Int) : Prop := Lo w V b r (k + 1) ∧ Blk V kx 29 #[.int .i64 kd, .int .i64 key, .int .i64 n]
theorem len_can (l : List En) (k : Int) : (can l k).length ≤ l.length := List.length_filter_le _ _
theorem len_left (l : List En) (c : Int) : (left l c).length ≤ l.length := List.length_filter_le _ _
theorem fb_eq (l : List En) : fb l = decide (0 < l.length) := by cases l <;> simp [fb]
set_option maxHeartbeats 16000000 in
theorem walk {A : Option Addr} {c : Nat} {ps : List Sp} (w : World) (hR : Row w A (ps.flatMap Sp.cells)) (hl : ∀ (k : Nat) (y : Sp), ps[k]? = some y → Ir y.key) (hc : ps.length ≤ c) (hc2 : c ≤ 9223372036854775807) :
    Calls Try.prog 3 #[.slice A ps.length c] w fun e w' => e = .returned (.bool true) ∧ Below w.heap.size w w' := by
  have HR := Lib.hid hR
  have HL := Lib.hid hl
  obtain ⟨m, hm⟩ : ∃ m, min ps.length 80 = m := ⟨_, rfl⟩
  have HE := Lib.hid (fun V => early_m (A := A) (n := ps.length) (c := c) hc hc2 hm V)
  have HML : Hid (m ≤ ps.length) := by show _ ≤ _; omega
  have hm80 : m ≤ 80 := by omega
  clear hR hl hm
  go_enter Try.func3, Try.ntmps3
  go_wp2_with fail
  refine (lives_any _).mono ?_
  rintro e w1 ⟨rfl, hb1⟩
  have HB1 := Lib.hid hb1
  clear hb1
  go_wp2_with fail
  refine (new_m _).mono ?_
  rintro e w2 ⟨b, rfl, hM⟩
  have H0 : Hid (Lo w w2 b (.slice none 0 0) 0) := ⟨[], 0, ⟨hM.old HB1.out, .inl ⟨rfl, rfl⟩⟩, Nat.le_refl _, Nat.le_refl _⟩
  clear hM HB1
  go_wp2_with fail
  refine (HE.out _).mono ?_
  rintro e w4 ⟨⟨c', rfl⟩, rfl⟩
  go_wp2_with fail
  go_loopw [4, 5] (fun r i V => ∃ k : Nat, i = .int .i64 k ∧ k ≤ m ∧ Lo w V b r k) (fun _ i _ => m - (intOf i).toNat)
  case atStart => exact ⟨0, rfl, by omega, H0.out⟩
  case round =>
    obtain ⟨k, rfl, hk, hW⟩ := hrel
    have HW1 := Lib.hid hW
    clear hW H0
    by_cases hlt : k < m
    · obtain ⟨y, hy⟩ : ∃ y, ps[k]? = some y := ⟨_, List.getElem?_eq_getElem (by have := HML.out; omega)⟩
      have hyr := HL.out k y hy
      have hbw : Below w.heap.size w wr := by obtain ⟨l, s, h, _⟩ := HW1.out; exact h.bw
      obtain ⟨g, o, rfl, hg, c0, c1, c2⟩ := sps_at (HR.out.below hbw) hy
      obtain ⟨kd, yk, yn⟩ := y
      simp only at c0 c1 c2 hyr
      have HX := Lib.hid (Blk.new wr 29 #[.int .i64 kd, .int .i64 yk, .int .i64 yn])
      have HW2 : Hid (Lo w (wr.alloc (.cells #[.int .i64 kd, .int .i64 yk, .int .i64 yn] 29)) b u4 k) := by
        obtain ⟨l, s, h, h2⟩ := HW1.out
        exact ⟨l, s, h.bel (b01 _ _), h2⟩
      have HYR := Lib.hid hyr
      clear hy hbw hyr
      generalize hV : wr.alloc (.cells #[.int .i64 kd, .int .i64 yk, .int .i64 yn] 29) = W1 at HX HW2
      generalize hgx : wr.heap.size = gx at HX
      have x0 := HX.out.cell 0
      have x1 := HX.out.cell 1
      have x2 := HX.out.cell 2
      simp only [List.getElem?_toArray, List.getElem?_cons_zero, List.getElem?_cons_succ] at x0 x1 x2
      go_upto_region 11 with fail
      clear hV hgx c0 c1 c2 HW1
      go_wp2_with fail
      refine (kind_any kd yk yn _).mono ?_
      rintro e w5 ⟨rfl, hb5⟩
      have HX5 := Lib.hid (HX.out.bel hb5)
      have HW5 : Hid (Lo w w5 b u4 k) := by
        obtain ⟨l, s, h, h2⟩ := HW2.out
        exact ⟨l, s, h.bel hb5, h2⟩
      have HQ := Lib.hid (modU_bd kd 6 (by decide))
      generalize modU kd 6 = q at *
      clear hb5 x0 x1 x2 HX HW2
      have hk80 : k < 80 := by omega
      go_upto_block 2 with fail
      go_cut [4, 7] (fun r sm V => sm = .bool true ∧ Mid w V b r k gx kd yk yn)
      case first =>
        have x0 := HX5.out.cell 0
        have x1 := HX5.out.cell 1
        have x2 := HX5.out.cell 2
        simp only [List.getElem?_toArray, List.getElem?_cons_zero, List.getElem?_cons_succ] at x0 x1 x2
        rcases (show q = 0 ∨ q = 1 ∨ q = 2 ∨ q = 3 ∨ q = 4 ∨ q = 5 by have := HQ.out; omega) with rfl | rfl | rfl | rfl | rfl | rfl
        · obtain ⟨l, s, hB, hs, hll⟩ := HW5.out
          have HT := Lib.hid (rset_t hB.tr hB.mw.ok (by omega) yk yn)
          have HM5 := Lib.hid hB.mw
          have HSL := Lib.hid (set_len l s yk (cut yn))
          clear hB
          go_wp2_with fail
          refine HT.out.mono ?_
          rintro e w6 ⟨v6, rfl, ht6, hb6⟩
          have HM6 := Lib.hid (HM5.out.bel hb6)
          have HT6 := Lib.hid ht6
          have HX6 := Lib.hid (HX5.out.bel hb6)
          clear hb6 ht6 x0 x1 x2 HT
          have x1 := HX6.out.cell 1
          have x2 := HX6.out.cell 2
          simp only [List.getElem?_toArray, List.getElem?_cons_zero, List.getElem?_cons_succ] at x1 x2
          have HS := Lib.hid (set_m HM6.out HYR.out yn (by omega))
          generalize has l yk = y at *
          have ty : (y == y) = true := by simp
          go_wp2_with fail
          refine HS.out.mono ?_
          rintro e w7 ⟨rfl, hm7, hk7⟩
          have HF : Hid (Mid w w7 b v6 k gx kd yk yn) := ⟨⟨_, _, ⟨hm7, HT6.out.kp hk7⟩, by omega, by have := HSL.out; omega⟩, Kp.blk hk7 HX6.out (by decide)⟩
          clear hm7 hk7
          go_wp2_with fail
          go_meet
          exact ⟨rfl, HF.out⟩
        · obtain ⟨l, s, hB, hs, hll⟩ := HW5.out
          have HT := Lib.hid (rset_t hB.tr hB.mw.ok (by omega) yk yn)
          have HM5 := Lib.hid hB.mw
          have HSL := Lib.hid (set_len l s yk (cut yn))
          clear hB
          go_wp2_with fail
          refine HT.out.mono ?_
          rintro e w6 ⟨v6, rfl, ht6, hb6⟩
          have HM6 := Lib.hid (HM5.out.bel hb6)
          have HT6 := Lib.hid ht6
          have HX6 := Lib.hid (HX5.out.bel hb6)
          clear hb6 ht6 x0 x1 x2 HT
          have x1 := HX6.out.cell 1
          have x2 := HX6.out.cell 2
          simp only [List.getElem?_toArray, List.getElem?_cons_zero, List.getElem?_cons_succ] at x1 x2
          have HS := Lib.hid (set_m HM6.out HYR.out yn (by omega))
          generalize has l yk = y at *
          have ty : (y == y) = true := by simp
          go_wp2_with fail
          refine HS.out.mono ?_
          rintro e w7 ⟨rfl, hm7, hk7⟩
          have HF : Hid (Mid w w7 b v6 k gx kd yk yn) := ⟨⟨_, _, ⟨hm7, HT6.out.kp hk7⟩, by omega, by have := HSL.out; omega⟩, Kp.blk hk7 HX6.out (by decide)⟩
          clear hm7 hk7
          go_wp2_with fail
          go_meet
          exact ⟨rfl, HF.out⟩
        · obtain ⟨l, s, hB, hs, hll⟩ := HW5.out
          have HT := Lib.hid (rset_t hB.tr hB.mw.ok (by omega) yk yn)
          have HM5 := Lib.hid hB.mw
          have HSL := Lib.hid (set_len l s yk (cut yn))
          clear hB
          go_wp2_with fail
          refine HT.out.mono ?_
          rintro e w6 ⟨v6, rfl, ht6, hb6⟩
          have HM6 := Lib.hid (HM5.out.bel hb6)
          have HT6 := Lib.hid ht6
          have HX6 := Lib.hid (HX5.out.bel hb6)
          clear hb6 ht6 x0 x1 x2 HT
          have x1 := HX6.out.cell 1
          have x2 := HX6.out.cell 2
          simp only [List.getElem?_toArray, List.getElem?_cons_zero, List.getElem?_cons_succ] at x1 x2
          have HS := Lib.hid (set_m HM6.out HYR.out yn (by omega))
          generalize has l yk = y at *
          have ty : (y == y) = true := by simp
          go_wp2_with fail
          refine HS.out.mono ?_
          rintro e w7 ⟨rfl, hm7, hk7⟩
          have HF : Hid (Mid w w7 b v6 k gx kd yk yn) := ⟨⟨_, _, ⟨hm7, HT6.out.kp hk7⟩, by omega, by have := HSL.out; omega⟩, Kp.blk hk7 HX6.out (by decide)⟩
          clear hm7 hk7
          go_wp2_with fail
          go_meet
          exact ⟨rfl, HF.out⟩
        · obtain ⟨l, s, hB, hs, hll⟩ := HW5.out
          have HT := Lib.hid (rcancel_t hB.tr hB.mw.ok (by omega) yk)
          have HM5 := Lib.hid hB.mw
          have HSL := Lib.hid (len_can l yk)
          clear hB
          go_wp2_with fail
          refine HT.out.mono ?_
          rintro e w6 ⟨v6, rfl, ht6, hb6⟩
          have HM6 := Lib.hid (HM5.out.bel hb6)
          have HT6 := Lib.hid ht6
          have HX6 := Lib.hid (HX5.out.bel hb6)
          clear hb6 ht6 x0 x1 x2 HT
          have x1 := HX6.out.cell 1
          have x2 := HX6.out.cell 2
          simp only [List.getElem?_toArray, List.getElem?_cons_zero, List.getElem?_cons_succ] at x1 x2
          have HS := Lib.hid (cancel_m HM6.out HYR.out)
          generalize has l yk = y at *
          have ty : (y == y) = true := by simp
          go_wp2_with fail
          refine HS.out.mono ?_
          rintro e w7 ⟨rfl, hm7, hk7⟩
          have HF : Hid (Mid w w7 b v6 k gx kd yk yn) := ⟨⟨_, _, ⟨hm7, HT6.out.kp hk7⟩, by omega, by have := HSL.out; omega⟩, Kp.blk hk7 HX6.out (by decide)⟩
          clear hm7 hk7
          go_wp2_with fail
          go_meet
          exact ⟨rfl, HF.out⟩
        · obtain ⟨l, s, hB, hs, hll⟩ := HW5.out
          have HT := Lib.hid (rdue_t hB.tr hB.mw.ok (by omega) yn)
          have HM5 := Lib.hid hB.mw
          have HSL := Lib.hid (len_left l (cut yn))
          have HKL : Hid ((keys (H14.due l (cut yn))).length ≤ 1000000) := by show _ ≤ _; rw [len_keys]; exact Nat.le_trans (List.length_filter_le _ _) (by omega)
          clear hB
          go_wp2_with fail
          refine HT.out.mono ?_
          rintro e w6 ⟨v6, A6, c6, rfl, ht6, hr6, hb6⟩
          have HM6 := Lib.hid (HM5.out.bel hb6)
          have HT6 := Lib.hid ht6
          have HR6 := Lib.hid hr6
          have HX6 := Lib.hid (HX5.out.bel hb6)
          clear hb6 ht6 hr6 x0 x1 x2 HT
          have x1 := HX6.out.cell 1
          have x2 := HX6.out.cell 2
          simp only [List.getElem?_toArray, List.getElem?_cons_zero, List.getElem?_cons_succ] at x1 x2
          have HS := Lib.hid (due_m HM6.out (by omega) yn)
          generalize hkd : keys (H14.due l (cut yn)) = kds at *
          go_wp2_with fail
          refine HS.out.mono ?_
          rintro e w7 ⟨A7, c7, rfl, hr7, _, _, hm7, hk7⟩
          have HSA := Lib.hid (same_m (c := c7) (d := c6) hr7.1 (HR6.out.kp hk7).1 HKL.out HKL.out)
          have HF : Hid (Mid w w7 b v6 k gx kd yk yn) := ⟨⟨_, _, ⟨hm7, HT6.out.kp hk7⟩, by omega, by have := HSL.out; omega⟩, Kp.blk hk7 HX6.out (by decide)⟩
          have td : decide (kds = kds) = true := by simp
          rw [td] at HSA
          clear hm7 hk7 hr7 td
          go_wp2_with fail
          refine HSA.out.mono ?_
          rintro e w8 ⟨rfl, n8, rfl⟩
          go_wp2_with fail
          go_meet
          refine ⟨rfl, ?_⟩
          obtain ⟨⟨l9, s9, h9, h10⟩, h11⟩ := HF.out
          exact ⟨⟨l9, s9, h9.bel (bn (Below.refl _ _) n8), h10⟩, h11.drewN n8⟩
        · go_wp2_with fail
          go_meet
          obtain ⟨l, s, hB, hs, hll⟩ := HW5.out
          exact ⟨rfl, ⟨l, s, hB, by omega, by omega⟩, HX5.out⟩
      case rest =>
        obtain ⟨hsm, hmid⟩ := hcut
        subst hsm
        obtain ⟨⟨l, s, hB, hs, hll⟩, hX⟩ := hmid
        have HX9 := Lib.hid hX
        have HOK := Lib.hid hB.mw.ok
        have HT := Lib.hid hB.tr
        have HU := Lib.hid (until_m hB.mw HYR.out)
        have HLK : Hid (s ≤ k + 1 ∧ l.length ≤ k + 1) := ⟨hs, hll⟩
        have hl1000 : l.length ≤ 1000 := by omega
        obtain ⟨A9, c9, hv9, _⟩ := hB.tr.sl
        subst hv9
        have x1 := HX9.out.cell 1
        simp only [List.getElem?_toArray, List.getElem?_cons_zero, List.getElem?_cons_succ] at x1
        clear hB hX hs hll
        generalize hun : unt l yk = un at *
        generalize hha : has l yk = ha at *
        go_wp2_with fail
        refine HU.out.mono ?_
        rintro e w6 ⟨rfl, hm6, hk6⟩
        have HM6 := Lib.hid hm6
        have HT6 := Lib.hid (HT.out.kp hk6)
        have HX6 := Lib.hid (Kp.blk hk6 HX9.out (by decide))
        clear hm6 hk6 x1
        have x1 := HX6.out.cell 1
        simp only [List.getElem?_toArray, List.getElem?_cons_zero, List.getElem?_cons_succ] at x1
        have hru := runtil_t HT6.out HOK.out hl1000 yk
        rw [hun, hha] at hru
        have HRU := Lib.hid hru
        clear hru hun hha
        go_wp2_with fail
        refine HRU.out.mono ?_
        rintro e w7 ⟨rfl, rfl⟩
        clear x1
        have tu : (un != un) = false := by simp
        have ta : (ha != ha) = false := by simp
        have HKL : Hid ((keys l).length ≤ 1000000) := by show _ ≤ _; rw [len_keys]; omega
        have HKS : Hid (∀ V, Mw w V b l s → Calls Try.prog 23 #[.pointer (some ⟨b, 0, none⟩)] V (LP (keys l) w b l s V)) := fun V h => keys_m h (by omega)
        have HRK : Hid (∀ V, TR V (.slice A9 l.length c9) l → Calls Try.prog 24 #[.slice A9 l.length c9] V fun e V' => ∃ A c, e = .returned (.slice A (keys l).length c) ∧ Rw V' A (keys l) ∧ Below V.heap.size V V') := fun V h => rkeys_t h hl1000
        have HLN : Hid (∀ V, Mw w V b l s → Calls Try.prog 22 #[.pointer (some ⟨b, 0, none⟩)] V fun e V' => e = .returned (.int .i64 l.length) ∧ V = V') := fun V h => len_m h
        have HLO : Hid (∀ V, Bo w V b (.slice A9 l.length c9) l s → Lo w V b (.slice A9 l.length c9) (k + 1)) := fun V h => ⟨l, s, h, HLK.out⟩
        rcases Nat.eq_zero_or_pos l.length with h0 | h0
        · have hl0 : l = [] := List.eq_nil_of_length_eq_zero h0
          have HFI : Hid (Calls Try.prog 21 #[.pointer (some ⟨b, 0, none⟩)] w6 (MP (.tuple #[.int .i64 0, .int .i64 0, .bool false]) w b l s w6)) := by
            have := first_m HM6.out (by omega)
            rw [show fk l = 0 by rw [hl0]; rfl, show fu l = 0 by rw [hl0]; rfl, show fb l = false by rw [hl0]; rfl] at this
            exact this
          clear hl0 hl1000 HLK HOK
          rw [h0] at HRK HLN HLO HT6 ⊢
          clear h0
          generalize keys l = kds at *
          go_wp2_with fail
          refine HFI.out.mono ?_
          rintro e w7 ⟨rfl, hm7, hk7⟩
          have HM7 := Lib.hid hm7
          have HT7 := Lib.hid (HT6.out.kp hk7)
          clear hm7 hk7
          go_wp2_with fail
          refine (HLN.out _ HM7.out).mono ?_
          rintro e w8 ⟨rfl, rfl⟩
          go_wp2_with fail
          refine (HKS.out _ HM7.out).mono ?_
          rintro e w8 ⟨A8, c8, rfl, hr8, _, _, hm8, hk8⟩
          have HM8 := Lib.hid hm8
          have HR8 := Lib.hid hr8
          have HT8 := Lib.hid (HT7.out.kp hk8)
          clear hm8 hr8 hk8
          go_wp2_with fail
          refine (HRK.out _ HT8.out).mono ?_
          rintro e w9 ⟨A10, c10, rfl, hr9, hb9⟩
          have HSA := Lib.hid (same_m (c := c8) (d := c10) (HR8.out.kp (Kp.bel hb9)).1 hr9.1 HKL.out HKL.out)
          have HB9 : Hid (Bo w w9 b (.slice A9 0 c9) l s) := ⟨HM8.out.bel hb9, HT8.out.kp (Kp.bel hb9)⟩
          have td : decide (kds = kds) = true := by simp
          rw [td] at HSA
          clear hr9 hb9 td
          go_wp2_with fail
          refine HSA.out.mono ?_
          rintro e w10 ⟨rfl, n10, rfl⟩
          have HBB := Lib.hid (HB9.out.bel (bn (Below.refl _ _) n10))
          go_wp2_with fail
          go_roundw
          case rel => exact ⟨k + 1, by go_num, by omega, HLO.out _ HBB.out⟩
          case measure => simp [intOf]; omega
        · obtain ⟨x, t, hxt⟩ : ∃ x t, l = x :: t := by
            cases l with
            | nil => simp at h0
            | cons x t => exact ⟨x, t, rfl⟩
          have HFI : Hid (Calls Try.prog 21 #[.pointer (some ⟨b, 0, none⟩)] w6 (MP (.tuple #[.int .i64 x.k, .int .i64 x.u, .bool true]) w b l s w6)) := by
            have := first_m HM6.out (by omega)
            rw [show fk l = x.k by rw [hxt]; rfl, show fu l = x.u by rw [hxt]; rfl, show fb l = true by rw [hxt]; rfl] at this
            exact this
          have HX0 : Hid (l[0]? = some x) := by show _ = _; rw [hxt]; rfl
          have hL : (0 : Int) < (l.length : Int) := by omega
          have hL2 : 0 < l.length := h0
          have tL : ((l.length : Int) != (l.length : Int)) = false := by simp
          have tk : (x.k != x.k) = false := by simp
          have tz : (x.u != x.u) = false := by simp
          clear hxt hl1000 HLK HOK h0
          generalize keys l = kds at *
          generalize hLL : l.length = LL at *
          clear hLL
          go_wp2_with fail
          refine HFI.out.mono ?_
          rintro e w7 ⟨rfl, hm7, hk7⟩
          have HM7 := Lib.hid hm7
          have HT7 := Lib.hid (HT6.out.kp hk7)
          clear hm7 hk7
          go_wp2_with fail
          refine (HLN.out _ HM7.out).mono ?_
          rintro e w8 ⟨rfl, rfl⟩
          go_wp2_with fail
          refine (HKS.out _ HM7.out).mono ?_
          rintro e w8 ⟨A8, c8, rfl, hr8, _, _, hm8, hk8⟩
          have HM8 := Lib.hid hm8
          have HR8 := Lib.hid hr8
          have HT8 := Lib.hid (HT7.out.kp hk8)
          clear hm8 hr8 hk8
          go_wp2_with fail
          refine (HRK.out _ HT8.out).mono ?_
          rintro e w9 ⟨A10, c10, rfl, hr9, hb9⟩
          have HSA := Lib.hid (same_m (c := c8) (d := c10) (HR8.out.kp (Kp.bel hb9)).1 hr9.1 HKL.out HKL.out)
          have HB9 : Hid (Bo w w9 b (.slice A9 LL c9) l s) := ⟨HM8.out.bel hb9, HT8.out.kp (Kp.bel hb9)⟩
          have td : decide (kds = kds) = true := by simp
          rw [td] at HSA
          clear hr9 hb9 td
          go_wp2_with fail
          refine HSA.out.mono ?_
          rintro e w10 ⟨rfl, n10, rfl⟩
          have HBB := Lib.hid (HB9.out.bel (bn (Below.refl _ _) n10))
          obtain ⟨A11, c11, hv11, hrow⟩ := HBB.out.tr.sl
          injection hv11 with e1 e2 e3
          clear e2 e3
          subst e1
          obtain ⟨g3, o3, rfl, _, d0, d1⟩ := tcs_at hrow HX0.out
          simp only [Nat.zero_mul, Nat.add_zero] at d0 d1
          clear hrow
          go_wp2_with fail
          go_roundw
          case rel => exact ⟨k + 1, by go_num, by omega, HLO.out _ HBB.out⟩
          case measure => simp [intOf]; omega
    · obtain rfl : k = m := by omega
      have hbw : Below w.heap.size w wr := by obtain ⟨l, s, h, _⟩ := HW1.out; exact h.bw
      have HBW := Lib.hid hbw
      clear hbw
      go_wp2_with fail
      go_ret
      exact ⟨rfl, HBW.out⟩
end Go.Proofs.Ytoomdjkojddpdaa.hPlays
