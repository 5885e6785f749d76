/- The walk of BucketBounds. -/
import Derived.Test.YtfbbgoahipejlaaKLive
import Derived.Test.YtfbbgoahipejlaaKArgs
namespace Go.Proofs.Ytfbbgoahipejlaa.bucketBounds
open Go.RowKit Go.Proofs.Ytfbbgoahipejlaa.G Go.Proofs.Ytfbbgoahipejlaa.Sat Go.Proofs.Ytfbbgoahipejlaa.K11
set_option maxRecDepth 100000
/-- Two buckets, side by side. -/
structure Two (w V : World) (a b : Nat) (R C T N S D U M : Int) : Prop where
  ma : Mine w V a R C T N
  mb : Mine w V b S D U M
  ne : a ≠ b
variable {w V V' : World} {a b : Nat} {R C T N S D U M : Int}
theorem Two.stepA {T' N' : Int} (h : Two w V a b R C T N S D U M) (hb : Bk V' a R C T' N') (ho : Ob a V V') : Two w V' a b R C T' N' S D U M :=
  ⟨h.ma.step hb ho, ⟨⟨Ob.blk h.mb.bk.blk ho h.ne.symm, h.mb.bk.ok⟩, h.mb.ge, Ob.to_below h.mb.bl ho h.mb.bl.size h.ma.ge⟩, h.ne⟩
theorem Two.stepB {T' N' : Int} (h : Two w V a b R C T N S D U M) (hb : Bk V' b S D T' N') (ho : Ob b V V') : Two w V' a b R C T N S D T' N' :=
  ⟨⟨⟨Ob.blk h.ma.bk.blk ho h.ne, h.ma.bk.ok⟩, h.ma.ge, Ob.to_below h.ma.bl ho h.ma.bl.size h.mb.ge⟩, h.mb.step hb ho, h.ne⟩
def ZPost (v : Value) (w : World) (a b : Nat) (R C T N S D U M : Int) (e : Ending) (w' : World) : Prop := e = .returned v ∧ Two w w' a b R C T N S D U M
theorem takeA (h : Two w V a b R C T N S D U M) (r : Int) : Calls Try.prog 15 #[.pointer (some ⟨a, 0, none⟩), .int .i64 r] V (ZPost (.bool (ctok R C T N r != 0)) w a b R C (less (ctok R C T N r)) (crnd N r) S D U M) :=
  (take_any h.ma.bk r).mono fun _ _ ⟨he, hb, ho⟩ => ⟨he, h.stepA hb ho⟩
theorem takeB (h : Two w V a b R C T N S D U M) (r : Int) : Calls Try.prog 15 #[.pointer (some ⟨b, 0, none⟩), .int .i64 r] V (ZPost (.bool (ctok S D U M r != 0)) w a b R C T N S D (less (ctok S D U M r)) (crnd M r)) :=
  (take_any h.mb.bk r).mono fun _ _ ⟨he, hb, ho⟩ => ⟨he, h.stepB hb ho⟩
theorem tokensA (h : Two w V a b R C T N S D U M) (r : Int) : Calls Try.prog 17 #[.pointer (some ⟨a, 0, none⟩), .int .i64 r] V (ZPost (.int .i64 (ctok R C T N r)) w a b R C (ctok R C T N r) (crnd N r) S D U M) :=
  (tokens_any h.ma.bk r).mono fun _ _ ⟨he, hb, ho⟩ => ⟨he, h.stepA hb ho⟩
/-- What is taken of the one, and of the other that has more. -/
structure Inv (R C T U y n m : Int) : Prop where
  i0 : 0 ≤ n
  i1 : n ≤ m
  i2 : n + T ≤ C + y
  i3 : T + n ≤ U + m
theorem inv_step {y n m x z T1 U1 : Int} (h : Inv R C T U y n m) (hC : C ≤ D) (hC1 : 1 ≤ C) (hT0 : 0 ≤ T) (hU0 : 0 ≤ U) (hx0 : 0 ≤ x) (hxz : x ≤ z) (e1 : T1 = min (T + x) C) (e2 : U1 = min (U + z) D) :
    Inv R C (less T1) (less U1) (y + x) (n + if T1 ≠ 0 then 1 else 0) (m + if U1 ≠ 0 then 1 else 0) := by
  obtain ⟨i0, i1, i2, i3⟩ := h
  have l1 : (T1 = 0 ∧ less T1 = 0 ∧ (if T1 ≠ 0 then (1 : Int) else 0) = 0) ∨ (T1 ≠ 0 ∧ less T1 = T1 - 1 ∧ (if T1 ≠ 0 then (1 : Int) else 0) = 1) := by
    by_cases h0 : T1 = 0
    · exact .inl ⟨h0, less_zero h0, if_neg (fun h => h h0)⟩
    · exact .inr ⟨h0, less_pos h0, if_pos h0⟩
  have l2 : (U1 = 0 ∧ less U1 = 0 ∧ (if U1 ≠ 0 then (1 : Int) else 0) = 0) ∨ (U1 ≠ 0 ∧ less U1 = U1 - 1 ∧ (if U1 ≠ 0 then (1 : Int) else 0) = 1) := by
    by_cases h0 : U1 = 0
    · exact .inl ⟨h0, less_zero h0, if_neg (fun h => h h0)⟩
    · exact .inr ⟨h0, less_pos h0, if_pos h0⟩
  generalize (if T1 ≠ 0 then (1 : Int) else 0) = f1 at *
  generalize (if U1 ≠ 0 then (1 : Int) else 0) = f2 at *
  generalize less T1 = L1 at *
  generalize less U1 = L2 at *
  rcases l1 with ⟨a1, a2, a3⟩ | ⟨a1, a2, a3⟩ <;> rcases l2 with ⟨b1, b2, b3⟩ | ⟨b1, b2, b3⟩ <;> constructor <;> omega
set_option maxHeartbeats 8000000 in
theorem walk (r c : Int) {w : World} {A : Option Addr} {l : List Sp} {n : Nat} (hl : l.length ≤ n) (hn : n ≤ 9223372036854775807) (hR : Row w A (l.flatMap pcell)) : Calls Try.prog 4 #[.int .i64 r, .int .i64 c, .slice A l.length n] w fun e w' => e = .returned (.bool true) ∧ Below w.heap.size w w' := by
  have HR := Lib.hid hR
  obtain ⟨m, hm⟩ : ∃ m, min l.length 100 = m := ⟨_, rfl⟩
  have HE := Lib.hid (fun V => early_m (A := A) hl hn hm V)
  have hml : m ≤ l.length := by omega
  have hmc : m ≤ 100 := by omega
  obtain ⟨r1, hr1⟩ : ∃ r1, (if 1000 < r then (1000 : Int) else r) = r1 := ⟨_, rfl⟩
  obtain ⟨r2, hr2⟩ : ∃ r2, (if r1 < -1000 then (-1000 : Int) else r1) = r2 := ⟨_, rfl⟩
  obtain ⟨c1, hc1⟩ : ∃ c1, (if 1000 < c then (1000 : Int) else c) = c1 := ⟨_, rfl⟩
  obtain ⟨c2, hc2⟩ : ∃ c2, (if c1 < -1000 then (-1000 : Int) else c1) = c2 := ⟨_, rfl⟩
  have hr3 : -1000 ≤ r2 ∧ r2 ≤ 1000 := by split at hr1 <;> split at hr2 <;> omega
  have hc3 : -1000 ≤ c2 ∧ c2 ≤ 1000 := by split at hc1 <;> split at hc2 <;> omega
  have HRS : Hid (rof r ≤ rof (r2 + 1)) := by show rof r ≤ rof (r2 + 1); unfold rof; split at hr1 <;> split at hr2 <;> omega
  have HCD : Hid (cof c ≤ cof (c2 + 1)) := by show cof c ≤ cof (c2 + 1); unfold cof; split at hc1 <;> split at hc2 <;> omega
  have HN := Lib.hid (fun V => new_m r c V)
  have HN2 := Lib.hid (fun V => new_m (r2 + 1) (c2 + 1) V)
  have HMo := Lib.hid (fun q V => most_any r c q V)
  have HO := Lib.hid (ok_new r c)
  have HO2 := Lib.hid (ok_new (r2 + 1) (c2 + 1))
  generalize rof r = R at *
  generalize cof c = C at *
  generalize rof (r2 + 1) = S at *
  generalize cof (c2 + 1) = D at *
  clear hm hR hl hn
  go_enter Try.func4, Try.ntmps4
  go_wp2_with fail
  refine (lives_any _).mono ?_
  rintro e w1 ⟨rfl, hb1⟩
  have HB1 := Lib.hid hb1
  clear hb1
  go_wp2_with fail
  refine (HN.out _).mono ?_
  rintro e w2 ⟨a, rfl, hM⟩
  have HMa := Lib.hid (hM.old HB1.out)
  clear hM
  go_wp2_with fail
  refine (HN2.out _).mono ?_
  rintro e w3 ⟨b, rfl, hM⟩
  have HM : Hid (Two w w3 a b R C C 0 S D D 0) := ⟨HMa.out.below hM.bl, hM.old HMa.out.bl, by have := HMa.out.bk.lt; have := hM.ge; omega⟩
  clear hM hr1 hr2 hc1 hc2
  go_wp2_with fail
  refine (HE.out _).mono ?_
  rintro e w4 ⟨⟨n', rfl⟩, rfl⟩
  go_wp2_with fail
  have HI : Hid (Inv R C C D (0 * R) 0 0) := ⟨by decide, by decide, by omega, by have := HCD.out; omega⟩
  go_loopw [9, 10, 11, 12] (fun rv nv mv iv V => ∃ (k : Nat) (rd x y T U : Int), rv = .int .i64 rd ∧ nv = .int .i64 x ∧ mv = .int .i64 y ∧ iv = .int .i64 k ∧ k ≤ m ∧ 0 ≤ rd ∧ rd ≤ 9 * k ∧ y ≤ k ∧ Two w V a b R C T rd S D U rd ∧ Inv R C T U (rd * R) x y) (fun _ _ _ iv _ => m - (intOf iv).toNat)
  case atStart => exact ⟨0, 0, 0, 0, C, D, rfl, rfl, rfl, rfl, by omega, by omega, by omega, by omega, HM.out, HI.out⟩
  case round =>
    obtain ⟨k, rd, x, y, T, U, rfl, rfl, rfl, rfl, hk, hrd0, hrd9, hyk, hM, hI⟩ := hrel
    have HM1 := Lib.hid hM
    have HI1 := Lib.hid hI
    clear hM HM HI hI
    by_cases hlt : k < m
    · have hl1 : (k : Int) < m := by omega
      obtain ⟨⟨sk, sr⟩, hu⟩ : ∃ u, l[k]? = some u := ⟨_, List.getElem?_eq_getElem (by omega)⟩
      obtain ⟨ab, ao, rfl, hab, hc0, hc1⟩ := sps_at (HR.out.below HM1.out.ma.bl) hu
      obtain ⟨q, hq, q0, q1⟩ := some_rest sr 1000 (by decide)
      obtain ⟨d, hd, d0, d9⟩ : ∃ d, q.tdiv 100 = d ∧ 0 ≤ d ∧ d ≤ 9 := ⟨_, rfl, by rw [Int.tdiv_eq_ediv_of_nonneg q0]; omega, by rw [Int.tdiv_eq_ediv_of_nonneg q0]; omega⟩
      clear hu hc0
      simp only at hc1
      have hta := tok_ahead HM1.out.ma.bk.ok (r := rd + d) rfl d0 (by omega) (by omega)
      have htb := tok_ahead HM1.out.mb.bk.ok (r := rd + d) rfl d0 (by omega) (by omega)
      obtain ⟨T1, hT1⟩ : ∃ T1, min (T + d * R) C = T1 := ⟨_, rfl⟩
      obtain ⟨U1, hU1⟩ : ∃ U1, min (U + d * S) D = U1 := ⟨_, rfl⟩
      rw [hT1] at hta
      rw [hU1] at htb
      have hx0 : 0 ≤ d * R := Int.mul_nonneg d0 HO.out.r0
      have hxz : d * R ≤ d * S := Int.mul_le_mul_of_nonneg_left HRS.out d0
      have HI2 := Lib.hid (inv_step HI1.out HCD.out HO.out.c0 HM1.out.ma.bk.ok.t0 HM1.out.mb.bk.ok.t0 hx0 hxz hT1.symm hU1.symm)
      obtain ⟨Q, hQ⟩ : ∃ Q, add C (mul R (rd + d)) = Q := ⟨_, rfl⟩
      have hQ2 : Q = C + (rd * R + d * R) := by
        have m0 : 0 ≤ R * (rd + d) := Int.mul_nonneg HO.out.r0 (by omega)
        have m1 : R * (rd + d) ≤ 64 * 10000 := Int.mul_le_mul HO.out.r1 (by omega) (by omega) (by omega)
        have o1 := HO.out.c0
        have o2 := HO.out.c1
        rw [← hQ, ← Int.add_mul]
        unfold add mul
        rw [cut_id R HO.out.r0 (by have := HO.out.r1; omega), cut_id (rd + d) (by omega) (by omega), cut_id _ m0 (by omega), cut_id _ m0 (by omega), cut_id C (by omega) (by omega), cut_id _ (by omega) (by omega), Int.mul_comm]
      have HA := Lib.hid (takeA HM1.out (rd + d))
      rw [hta.1, hta.2] at HA
      have HBt : Hid (∀ V, Two w V a b R C (less T1) (rd + d) S D U rd → Calls Try.prog 15 #[.pointer (some ⟨b, 0, none⟩), .int .i64 (rd + d)] V (ZPost (.bool (U1 != 0)) w a b R C (less T1) (rd + d) S D (less U1) (rd + d))) := fun V hV => by
        have := takeB hV (rd + d)
        rw [htb.1, htb.2] at this
        exact this
      have HTk : Hid (∀ V, Two w V a b R C (less T1) (rd + d) S D (less U1) (rd + d) → Calls Try.prog 17 #[.pointer (some ⟨a, 0, none⟩), .int .i64 (rd + d)] V (ZPost (.int .i64 (less T1)) w a b R C (less T1) (rd + d) S D (less U1) (rd + d))) := fun V hV => by
        have := tokensA hV (rd + d)
        have h8 := come_same hV.ma.bk.ok (r := rd + d) (by rw [cut_id (rd + d) (by omega) (by omega)]; omega)
        rw [h8.1, h8.2] at this
        exact this
      have HQ1 := Lib.hid hQ
      have HQ2 := Lib.hid hQ2
      have HQ3 : Hid ((rd + d) * R = rd * R + d * R) := Int.add_mul _ _ _
      have t9 : ((rd + d) != (rd + d)) = false := by simp
      clear hta htb hT1 hU1 hx0 hxz hQ hQ2
      generalize rd * R = y0 at *
      generalize d * R = y1 at *
      have hf1 : ((T1 != 0) = true ∧ (if T1 ≠ 0 then (1 : Int) else 0) = 1) ∨ ((T1 != 0) = false ∧ (if T1 ≠ 0 then (1 : Int) else 0) = 0) := by
        by_cases h0 : T1 = 0
        · exact .inr ⟨by rw [h0]; rfl, if_neg (fun h => h h0)⟩
        · exact .inl ⟨ne_true h0, if_pos h0⟩
      have hf2 : ((U1 != 0) = true ∧ (if U1 ≠ 0 then (1 : Int) else 0) = 1) ∨ ((U1 != 0) = false ∧ (if U1 ≠ 0 then (1 : Int) else 0) = 0) := by
        by_cases h0 : U1 = 0
        · exact .inr ⟨by rw [h0]; rfl, if_neg (fun h => h h0)⟩
        · exact .inl ⟨ne_true h0, if_pos h0⟩
      generalize (if T1 ≠ 0 then (1 : Int) else 0) = f1 at *
      generalize (if U1 ≠ 0 then (1 : Int) else 0) = f2 at *
      generalize (T1 != 0) = B1 at *
      generalize (U1 != 0) = B2 at *
      generalize less T1 = L1 at *
      generalize less U1 = L2 at *
      have HXQ : Hid (0 ≤ L1 → x + f1 ≤ Q) := fun h => by have := HI2.out.i2; have := HQ2.out; omega
      rcases hf1 with ⟨rfl, rfl⟩ | ⟨rfl, rfl⟩
      all_goals
        rcases hf2 with ⟨rfl, rfl⟩ | ⟨rfl, rfl⟩
      all_goals
        try simp only [Int.add_zero] at HI2 HXQ
        have i0 := HI2.out.i0
        have i1 := HI2.out.i1
        have i2 := HI2.out.i2
        have i3 := HI1.out.i0
        have i4 := HI1.out.i1
        have o1 := HO.out.c1
        go_wp2_with fail
        refine HA.out.mono ?_
        rintro e w5 ⟨rfl, hM⟩
        have HM5 := Lib.hid hM
        clear hM hc1 hq hd
        go_wp2_with fail
        refine (HBt.out _ HM5.out).mono ?_
        rintro e w6 ⟨rfl, hM⟩
        have HM6 := Lib.hid hM
        clear hM
        go_wp2_with fail
        refine (HTk.out _ HM6.out).mono ?_
        rintro e w7 ⟨rfl, hM⟩
        have HM7 := Lib.hid hM
        have k1 := hM.ma.bk.ok.t0
        have k2 := hM.ma.bk.ok.t1
        have HMq := Lib.hid (fun V => HMo.out (rd + d) V)
        rw [HQ1.out] at HMq
        have i5 := HXQ.out k1
        clear hM
        go_wp2_with (first
          | (go_at_call 23; refine (cap_any HM7.out.ma.bk).mono ?_; rintro e w' ⟨rfl, rfl⟩)
          | (go_at_call 24; refine (HMq.out _).mono ?_; rintro e w' ⟨rfl, rfl⟩)
          | (go_at_call 21; refine (round_any HM7.out.ma.bk).mono ?_; rintro e w' ⟨rfl, rfl⟩))
        go_roundw
        case rel => exact ⟨k + 1, rd + d, _, _, L1, L2, rfl, rfl, rfl, by go_num, by omega, by omega, by push_cast; omega, by push_cast; omega, HM7.out, by rw [HQ3.out]; exact HI2.out⟩
        case measure => simp [intOf] <;> omega
    · obtain rfl : k = m := by omega
      have g0 := HM1.out.ma.bk.ok.c0
      have g1 := HM1.out.ma.bk.ok.c1
      have g2 := HM1.out.ma.bk.ok.r0
      have g3 := HM1.out.ma.bk.ok.r1
      go_wp2_with (first
        | (go_at_call 23; refine (cap_any HM1.out.ma.bk).mono ?_; rintro e w' ⟨rfl, rfl⟩)
        | (go_at_call 22; refine (rate_any HM1.out.ma.bk).mono ?_; rintro e w' ⟨rfl, rfl⟩))
      go_ret
      exact ⟨rfl, HM1.out.ma.bl⟩
end Go.Proofs.Ytfbbgoahipejlaa.bucketBounds
