/- The document's own Until and Nth: contracts. No conditions. -/
import Derived.Test.YtmfkapbllmfegaaDoorWn6
import Derived.Test.YtmfkapbllmfegaaDoorWn5
namespace Go.Proofs.YtmfkapbllmfegaaDoor.W13
open Go.RowKit Go.Proofs.YtmfkapbllmfegaaDoor.G Go.Proofs.YtmfkapbllmfegaaDoor.C04 Go.Proofs.YtmfkapbllmfegaaDoor.Sat
set_option maxRecDepth 100000

/-! ### Plain -/
theorem len_good {c : Cfg} {o : Int} (h : 0 < (phV c o).length) : flt c = none := by
  refine Classical.byContradiction fun hf => ?_
  rw [phv_bad hf] at h; cases h
theorem bef_nat {c : Cfg} {o now : Int} (hf : flt c = none) : (cut (befV c o now)).toNat = bq (own c.ws o) c.F.toNat (cut now).toNat := by
  have hl := bef_le c o now
  rw [cut_id _ hl.1 hl.2, befV, if_pos hf, Int.toNat_natCast]
/-- The next tick: the first from now on that is that owner's. -/
theorem unt_eq {c : Cfg} {o now : Int} (h : 0 < (phV c o).length) {n : Nat} (ho : own c.ws o (((cut now).toNat + n) % c.F.toNat) = true) (hn : ∀ i, i < n → own c.ws o (((cut now).toNat + i) % c.F.toNat) = false) : add now n = untV c o now := by
  have hf := len_good h
  have gd := gd_of hf
  have hF : 0 < c.F.toNat := by have := gd.f; omega
  have hc := cut_bd now
  have h' : 0 < (phs o c.ws).length := by rw [← phv_good hf]; exact h
  obtain ⟨t1, t2, t3⟩ := tth_next (gd_ch gd) hF h' (cut now).toNat
  obtain ⟨t4, _⟩ := tth_at (gd_ch gd) h' (bq (own c.ws o) c.F.toNat (cut now).toNat)
  have e : tth c.ws o c.F.toNat (bq (own c.ws o) c.F.toNat (cut now).toNat) = (cut now).toNat + n := by
    rcases Nat.lt_trichotomy (tth c.ws o c.F.toNat (bq (own c.ws o) c.F.toNat (cut now).toNat)) ((cut now).toNat + n) with hl | he | hl
    · have := hn (tth c.ws o c.F.toNat (bq (own c.ws o) c.F.toNat (cut now).toNat) - (cut now).toNat) (by omega)
      rw [show (cut now).toNat + (tth c.ws o c.F.toNat (bq (own c.ws o) c.F.toNat (cut now).toNat) - (cut now).toNat) = tth c.ws o c.F.toNat (bq (own c.ws o) c.F.toNat (cut now).toNat) by omega, t4] at this
      cases this
    · exact he
    · have := t3 ((cut now).toNat + n) (by omega) hl
      rw [ho] at this; cases this
  unfold untV nthV
  rw [if_pos h, bef_nat hf, e]
  unfold add
  have hn64 : n < 64 := by
    have := gd.f
    omega
  rw [cut_id (n : Int) (by omega) (by omega)]
  congr 1
  omega
theorem unt_some {c : Cfg} {o now : Int} (h : 0 < (phV c o).length) : ¬ ∀ i, i < 64 → own c.ws o (((cut now).toNat + i) % c.F.toNat) = false := fun hn => by
  have hf := len_good h
  have gd := gd_of hf
  have hF : 0 < c.F.toNat := by have := gd.f; omega
  have h' : 0 < (phs o c.ws).length := by rw [← phv_good hf]; exact h
  obtain ⟨t1, t2, t3⟩ := tth_next (gd_ch gd) hF h' (cut now).toNat
  obtain ⟨t4, _⟩ := tth_at (gd_ch gd) h' (bq (own c.ws o) c.F.toNat (cut now).toNat)
  have := hn (tth c.ws o c.F.toNat (bq (own c.ws o) c.F.toNat (cut now).toNat) - (cut now).toNat) (by have := gd.f; omega)
  rw [show (cut now).toNat + (tth c.ws o c.F.toNat (bq (own c.ws o) c.F.toNat (cut now).toNat) - (cut now).toNat) = tth c.ws o c.F.toNat (bq (own c.ws o) c.F.toNat (cut now).toNat) by omega, t4] at this
  cases this
theorem pha_step_nat {c : Cfg} (gd : Gd c) (now : Int) (k : Nat) : (pha now c.F + (k : Int)) % c.F = ((((cut now).toNat + k) % c.F.toNat : Nat) : Int) := by
  obtain ⟨_, e2, e3⟩ := tick_nat gd now
  have hf := gd.f
  have e4 : ((c.F.toNat : Nat) : Int) = c.F := by omega
  rw [e2, ← e4, ← Int.natCast_add, ← Int.natCast_emod]
  simp only [Int.toNat_natCast, Nat.mod_add_mod]
/-! ### Until -/
def InvU (w : World) (c : Cfg) (o : Int) (t b : Nat) (cs : Array Value) (i : Value) (wr : World) : Prop := ∃ k : Nat, i = .int .i64 k ∧ k ≤ 64 ∧ (∀ j, j < k → own c.ws o ((t + j) % c.F.toNat) = false) ∧ Below w.heap.size w wr ∧ Blk wr b 26 cs
theorem inv_step {w wr : World} {c : Cfg} {o : Int} {t b k : Nat} {cs : Array Value} (hk : k < 64) (h : ∀ j, j < k → own c.ws o ((t + j) % c.F.toNat) = false) (h1 : own c.ws o ((t + k) % c.F.toNat) = false) (hb : Below w.heap.size w wr) (hB : Blk wr b 26 cs) : InvU w c o t b cs (.int .i64 ((k : Int) + 1)) wr :=
  ⟨k + 1, by go_num, by omega, fun j hj => by
    by_cases e : j = k
    · subst e; exact h1
    · exact h j (by omega), hb, hB⟩
set_option maxHeartbeats 4000000 in
theorem runtil_any {w : World} {v : Value} {c : Cfg} (h : CfgAt w v c) (o now : Int) : Calls Tryd.prog 27 #[v, .int .i64 o, .int .i64 now] w fun e w' => e = .returned (.int .i64 (untV c o now)) ∧ Below w.heap.size w w' := by
  have h0 := h
  obtain ⟨A1, A2, A3, c1, c2, c3, rfl, h1, h2, h3, _⟩ := h
  clear h1 h2 h3
  have X0 := Blk.new w 26 #[.int .i64 c.P, .int .i64 c.F, .slice A1 c.ws.length c1, .slice A2 c.cs.length c2, .slice A3 c.ac.length c3]
  have hb0 := b01 w (.cells #[.int .i64 c.P, .int .i64 c.F, .slice A1 c.ws.length c1, .slice A2 c.cs.length c2, .slice A3 c.ac.length c3] 26)
  have HM := Lib.hid (rcount_any (h0.below hb0) o)
  have HC := Lib.hid h0
  clear h0
  by_cases hl : 0 < (phV c o).length
  · have hf := len_good hl
    have gd := gd_of hf
    have HF := Lib.hid gd
    have hF := gd.f
    have HU : Hid (∀ n : Nat, own c.ws o (((cut now).toNat + n) % c.F.toNat) = true → (∀ i, i < n → own c.ws o (((cut now).toNat + i) % c.F.toNat) = false) → add now n = untV c o now) := fun n a b => unt_eq hl a b
    have HN : Hid (¬ ∀ i, i < 64 → own c.ws o (((cut now).toNat + i) % c.F.toNat) = false) := unt_some hl
    have hpb := pha_bd now c.F
    rw [fr_of gd] at hpb
    have HT : Hid (∀ k : Nat, (pha now c.F + (k : Int)) % c.F = ((((cut now).toNat + k) % c.F.toNat : Nat) : Int)) := pha_step_nat gd now
    obtain ⟨uv, huv⟩ : ∃ x, untV c o now = x := ⟨_, rfl⟩
    rw [huv] at HU
    rw [huv]
    obtain ⟨t, ht⟩ : ∃ x, (cut now).toNat = x := ⟨_, rfl⟩
    rw [ht] at HU HN HT
    obtain ⟨ph, hph⟩ : ∃ x, pha now c.F = x := ⟨_, rfl⟩
    rw [hph] at hpb HT
    have CP : Hid (∀ V, Calls Tryd.prog 38 #[.int .i64 now, .int .i64 c.F] V fun e w' => e = .returned (.int .i64 ph) ∧ V = w') := fun V => by rw [← hph]; exact rpha_any _ _ _
    obtain ⟨m0, hm0⟩ : ∃ x, (phV c o).length = x := ⟨_, rfl⟩
    rw [hm0] at HM hl
    have tm : ((m0 : Int) == 0) = false := by simp; omega
    have hz : (c.F == 0) = false := by simp; omega
    clear hf gd huv ht hph hm0
    go_enter Tryd.func27, Tryd.ntmps27
    go_wp2_with fail
    refine HM.out.mono ?_
    rintro e W ⟨rfl, hb⟩
    have hbW := bt hb0 hb
    have hX := X0.bel hb
    clear X0 hb0 hb
    go_wp2_with fail
    go_loopw [7] (fun i wr => InvU w c o t w.heap.size #[.int .i64 c.P, .int .i64 c.F, .slice A1 c.ws.length c1, .slice A2 c.cs.length c2, .slice A3 c.ac.length c3] i wr) (fun i _ => 64 - (intOf i).toNat)
    case atStart => exact ⟨0, rfl, by omega, fun j hj => absurd hj (by omega), hbW, hX⟩
    case round =>
      clear hbW hX
      obtain ⟨k, rfl, hk, hn, hb, hB⟩ := hrel
      have Hn := Lib.hid hn
      clear hn
      by_cases hlt : k < 64
      · have hltz : (k : Int) < 64 := by omega
        have hs := HT.out k
        obtain ⟨a, b, hab, hd⟩ := who_two (whoW c.ws (((t + k) % c.F.toNat : Nat) : Int)) o
        have HD : Hid (own c.ws o ((t + k) % c.F.toNat) = (b && (a == o))) := hd
        have CA : Hid (∀ V, Below wr.heap.size wr V → Calls Tryd.prog 37 #[.agg #[.int .i64 c.P, .int .i64 c.F, .slice A1 c.ws.length c1, .slice A2 c.cs.length c2, .slice A3 c.ac.length c3], .int .i64 ((ph + (k : Int)) % c.F)] V fun e w' => e = .returned (.tuple #[.int .i64 a, .bool b]) ∧ Below V.heap.size V w') := fun V hV => by
          rw [hs, ← hab]; exact at_any ((HC.out.below hb).below hV) HF.out _
        have HBw := Lib.hid hb
        have HX := Lib.hid hB
        have HS : Hid (∀ V, Below wr.heap.size wr V → (∀ i, V.cell? ⟨w.heap.size, i, none⟩ = (#[.int .i64 c.P, .int .i64 c.F, .slice A1 c.ws.length c1, .slice A2 c.cs.length c2, .slice A3 c.ac.length c3] : Array Value)[i]?)) := fun V hV => (HX.out.bel hV).cell
        clear hs hab hd hb hB
        have tw1 : IntKind.i64.wrap (ph + (k : Int)) = ph + (k : Int) := by rw [IntKind.wrap_i64]; omega
        have tw2 : (ph + (k : Int)).tmod c.F = (ph + (k : Int)) % c.F := Int.tmod_eq_emod_of_nonneg (by omega)
        have tw3 : IntKind.i64.wrap ((ph + (k : Int)) % c.F) = (ph + (k : Int)) % c.F := by
          have h1 : 0 ≤ (ph + (k : Int)) % c.F := Int.emod_nonneg _ (by omega)
          have h2 : (ph + (k : Int)) % c.F < c.F := Int.emod_lt_of_pos _ (by omega)
          rw [IntKind.wrap_i64]; omega
        have tz : ¬ c.F = 0 := by omega
        go_upto_region 6 with fail
        have S0 : Below wr.heap.size wr wr.drew := (Below.refl _ _).drew
        go_region_held3 (fun V => (∀ i, V.cell? ⟨w.heap.size, i, none⟩ = (#[.int .i64 c.P, .int .i64 c.F, .slice A1 c.ws.length c1, .slice A2 c.cs.length c2, .slice A3 c.ac.length c3] : Array Value)[i]?)) (first | (with_reducible exact HS.out _ S0) | fail)
          (first
            | (go_at_call 38; (with_reducible refine (CP.out _).mono ?_); rintro e w5 ⟨rfl, rfl⟩)
            | (go_at_call 37; (with_reducible refine (CA.out _ S0).mono ?_); rintro e w5 ⟨rfl, hb5⟩; have S0 := bt S0 hb5)
            | fail)
        have hbn := bt HBw.out S0
        have hBn := HX.out.bel S0
        cases b with
        | false =>
          have h1 : own c.ws o ((t + k) % c.F.toNat) = false := HD.out
          go_wp2_with fail
          go_roundw
          case rel => exact inv_step hlt Hn.out h1 hbn hBn
          case measure => simp [intOf]; omega
        | true =>
          cases he : a == o with
          | false =>
            have h1 : own c.ws o ((t + k) % c.F.toNat) = false := HD.out.trans (by rw [he]; rfl)
            go_wp2_with fail
            go_roundw
            case rel => exact inv_step hlt Hn.out h1 hbn hBn
            case measure => simp [intOf]; omega
          | true =>
            have CD : Hid (∀ V, Calls Tryd.prog 40 #[.int .i64 now, .int .i64 k] V fun e w' => e = .returned (.int .i64 uv) ∧ V = w') := fun V => by
              rw [← HU.out k (HD.out.trans (by rw [he]; rfl)) Hn.out]; exact radd_any _ _ _
            go_wp2_with fail
            refine (CD.out _).mono ?_
            rintro e w6 ⟨rfl, rfl⟩
            go_wp2_with fail
            go_ret
            exact ⟨rfl, hbn⟩
      · obtain rfl : k = 64 := by omega
        exact (HN.out Hn.out).elim
  · have HW : Hid (untV c o now = -1) := by show untV c o now = -1; rw [untV, nthV, if_neg hl]
    have hz : (phV c o).length = 0 := by omega
    rw [hz] at HM
    clear hl hz
    go_enter Tryd.func27, Tryd.ntmps27
    go_wp2_with fail
    refine HM.out.mono ?_
    rintro e w1 ⟨rfl, hb⟩
    have HB1 := bt hb0 hb
    go_wp2_with fail
    go_ret
    exact ⟨by rw [HW.out]; rfl, HB1⟩
end Go.Proofs.YtmfkapbllmfegaaDoor.W13
