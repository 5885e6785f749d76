/- The walk of BucketSteps. -/
import Derived.Test.YtfbbgoahipejlaaKLive
import Derived.Test.YtfbbgoahipejlaaKArgs
namespace Go.Proofs.Ytfbbgoahipejlaa.bucketSteps
open Go.RowKit Go.Proofs.Ytfbbgoahipejlaa.G Go.Proofs.Ytfbbgoahipejlaa.Sat Go.Proofs.Ytfbbgoahipejlaa.K11
set_option maxRecDepth 100000
def lft (C : Int) (k : Nat) : Int := if (k : Int) < C then C - k else 0
theorem lft_next (C : Int) (k : Nat) : less (lft C k) = lft C (k + 1) := by
  unfold less lft
  split <;> split <;> split <;> omega
/-- Two buckets, side by side, and the three numbers. -/
structure Two (w V : World) (a b kx : Nat) (x y z R C Ta Na Tb Nb : Int) : Prop where
  ma : Mine w V a R C Ta Na
  mb : Mine w V b R C Tb Nb
  ne : a ≠ b
  bx : Blk V kx 46 #[.int .i64 x, .int .i64 y, .int .i64 z]
variable {w V V' : World} {a b kx : Nat} {x y z R C Ta Na Tb Nb : Int}
theorem Two.stepA {T N : Int} (h : Two w V a b kx x y z R C Ta Na Tb Nb) (hb : Bk V' a R C T N) (ho : Ob a V V') : Two w V' a b kx x y z R C T N Tb Nb :=
  ⟨h.ma.step hb ho, ⟨⟨Ob.blk h.mb.bk.blk ho h.ne.symm, h.mb.bk.ok⟩, h.mb.ge, Ob.to_below h.mb.bl ho h.mb.bl.size h.ma.ge⟩, h.ne, Ob.blk h.bx ho (h.bx.ne_ h.ma.bk.blk (by decide))⟩
theorem Two.stepB {T N : Int} (h : Two w V a b kx x y z R C Ta Na Tb Nb) (hb : Bk V' b R C T N) (ho : Ob b V V') : Two w V' a b kx x y z R C Ta Na T N :=
  ⟨⟨⟨Ob.blk h.ma.bk.blk ho h.ne, h.ma.bk.ok⟩, h.ma.ge, Ob.to_below h.ma.bl ho h.ma.bl.size h.mb.ge⟩, h.mb.step hb ho, h.ne, Ob.blk h.bx ho (h.bx.ne_ h.mb.bk.blk (by decide))⟩
def ZPost (v : Value) (w : World) (a b kx : Nat) (x y z R C Ta Na Tb Nb : Int) (e : Ending) (w' : World) : Prop := e = .returned v ∧ Two w w' a b kx x y z R C Ta Na Tb Nb
theorem takeA (h : Two w V a b kx x y z R C Ta Na Tb Nb) (r : Int) : Calls Try.prog 15 #[.pointer (some ⟨a, 0, none⟩), .int .i64 r] V (ZPost (.bool (ctok R C Ta Na r != 0)) w a b kx x y z R C (less (ctok R C Ta Na r)) (crnd Na r) Tb Nb) :=
  (take_any h.ma.bk r).mono fun _ _ ⟨he, hb, ho⟩ => ⟨he, h.stepA hb ho⟩
theorem takeB (h : Two w V a b kx x y z R C Ta Na Tb Nb) (r : Int) : Calls Try.prog 15 #[.pointer (some ⟨b, 0, none⟩), .int .i64 r] V (ZPost (.bool (ctok R C Tb Nb r != 0)) w a b kx x y z R C Ta Na (less (ctok R C Tb Nb r)) (crnd Nb r)) :=
  (take_any h.mb.bk r).mono fun _ _ ⟨he, hb, ho⟩ => ⟨he, h.stepB hb ho⟩
theorem tokensA (h : Two w V a b kx x y z R C Ta Na Tb Nb) (r : Int) : Calls Try.prog 17 #[.pointer (some ⟨a, 0, none⟩), .int .i64 r] V (ZPost (.int .i64 (ctok R C Ta Na r)) w a b kx x y z R C (ctok R C Ta Na r) (crnd Na r) Tb Nb) :=
  (tokens_any h.ma.bk r).mono fun _ _ ⟨he, hb, ho⟩ => ⟨he, h.stepA hb ho⟩
theorem tokensB (h : Two w V a b kx x y z R C Ta Na Tb Nb) (r : Int) : Calls Try.prog 17 #[.pointer (some ⟨b, 0, none⟩), .int .i64 r] V (ZPost (.int .i64 (ctok R C Tb Nb r)) w a b kx x y z R C Ta Na (ctok R C Tb Nb r) (crnd Nb r)) :=
  (tokens_any h.mb.bk r).mono fun _ _ ⟨he, hb, ho⟩ => ⟨he, h.stepB hb ho⟩
def tn (R C T i : Int) : Int := min (T + i * R) C
theorem tn_zero {T : Int} (h : T ≤ C) : tn R C T 0 = T := by unfold tn; omega
theorem tn_next {T : Int} (hR : 0 ≤ R) (i : Int) : min (tn R C T i + 1 * R) C = tn R C T (i + 1) := by
  unfold tn; rw [Int.one_mul, Int.add_mul, Int.one_mul]; omega
set_option maxHeartbeats 4000000 in
theorem walk (r c x y z : Int) (w : World) : Calls Try.prog 6 #[.int .i64 r, .int .i64 c, .agg #[.int .i64 x, .int .i64 y, .int .i64 z]] w fun e w' => e = .returned (.bool true) ∧ Below w.heap.size w w' := by
  obtain ⟨p, hp, p0, p1⟩ := some_rest x 70 (by decide)
  obtain ⟨q, hq, q0, q1⟩ := some_rest y 100 (by decide)
  obtain ⟨s, hs, s0, s1⟩ := some_rest z 100 (by decide)
  have HN := Lib.hid (fun V => new_m r c V)
  have HO := Lib.hid (ok_new r c)
  generalize rof r = R at *
  generalize cof c = C at *
  have HB0 := Lib.hid (b01 w (.cells #[.int .i64 x, .int .i64 y, .int .i64 z] 46))
  have HX0 := Lib.hid (Blk.new w 46 #[.int .i64 x, .int .i64 y, .int .i64 z])
  obtain ⟨kx, hkx⟩ : ∃ kx, w.heap.size = kx := ⟨_, rfl⟩
  rw [hkx] at HX0
  go_enter Try.func6, Try.ntmps6
  go_wp2_with fail
  refine (lives_any _).mono ?_
  rintro e w1 ⟨rfl, hb1⟩
  have HB1 := Lib.hid (bt HB0.out hb1)
  have HX1 := Lib.hid (HX0.out.bel hb1)
  clear hb1 hkx HB0 HX0
  go_wp2_with fail
  refine (HN.out _).mono ?_
  rintro e w2 ⟨a, rfl, hM⟩
  have HMa := Lib.hid (hM.old HB1.out)
  have HX2 := Lib.hid (HX1.out.bel hM.bl)
  clear hM
  go_wp2_with fail
  refine (HN.out _).mono ?_
  rintro e w3 ⟨b, rfl, hM⟩
  have HM : Hid (Two w w3 a b kx x y z R C C 0 C 0) := ⟨HMa.out.below hM.bl, hM.old HMa.out.bl, by have := HMa.out.bk.lt; have := hM.ge; omega, HX2.out.bel hM.bl⟩
  clear hM
  go_wp2_with fail
  have HM0 : Hid (∃ T, Two w w3 a b kx x y z R C T 0 T 0 ∧ T = lft C 0) := ⟨C, HM.out, by unfold lft; have := HO.out.c0; rw [if_pos (by omega)]; omega⟩
  go_loopw [9] (fun iv V => ∃ k : Nat, iv = .int .i64 k ∧ (k : Int) ≤ p ∧ ∃ T, Two w V a b kx x y z R C T 0 T 0 ∧ T = lft C k) (fun iv _ => 70 - (intOf iv).toNat)
  case atStart => exact ⟨0, rfl, by omega, HM0.out⟩
  case round =>
    obtain ⟨k, rfl, hk, T, hM, hT⟩ := hrel
    have HM1 := Lib.hid hM
    have k0 := hM.bx.cell 0
    have k1 := hM.bx.cell 1
    simp only [List.getElem?_toArray, List.getElem?_cons_zero, List.getElem?_cons_succ] at k0 k1
    clear hM HM HM0
    by_cases hlt : (k : Int) < p
    · have HA := Lib.hid (takeA HM1.out 0)
      have hcs := come_same HM1.out.ma.bk.ok (r := 0) (by decide)
      rw [hcs.1, hcs.2, hT, lft_next] at HA
      have HBt : Hid (∀ V, Two w V a b kx x y z R C (lft C (k + 1)) 0 T 0 → Calls Try.prog 15 #[.pointer (some ⟨b, 0, none⟩), .int .i64 0] V (ZPost (.bool (lft C k != 0)) w a b kx x y z R C (lft C (k + 1)) 0 (lft C (k + 1)) 0)) := fun V hV => by
        have := takeB hV 0
        rw [hcs.1, hcs.2, hT, lft_next] at this
        exact this
      rw [hT] at HBt
      clear hcs hT
      generalize (lft C k != 0) = bo at *
      go_wp2_with fail
      refine HA.out.mono ?_
      rintro e w5 ⟨rfl, hM⟩
      have HM5 := Lib.hid hM
      clear hM k0 k1
      go_wp2_with fail
      refine (HBt.out _ HM5.out).mono ?_
      rintro e w6 ⟨rfl, hM⟩
      have HM6 := Lib.hid hM
      clear hM
      go_wp2_with fail
      go_roundw
      case rel => exact ⟨k + 1, by go_num, by omega, _, HM6.out, rfl⟩
      case measure => simp [intOf] <;> omega
    · clear hT
      go_wp2_with fail
      have HM7 : Hid (∃ Tb Nb, Two w wr a b kx x y z R C T 0 Tb Nb ∧ ((((0 : Nat) : Int) = 0 ∧ Tb = T ∧ Nb = 0) ∨ (0 < ((0 : Nat) : Int) ∧ Tb = tn R C T (((0 : Nat) : Int) - 1) ∧ Nb = ((0 : Nat) : Int) - 1))) := ⟨T, 0, HM1.out, .inl ⟨rfl, rfl, rfl⟩⟩
      clear k0 k1
      go_loopw [11] (fun iv V => ∃ i : Nat, iv = .int .i64 i ∧ (i : Int) ≤ q + 1 ∧ ∃ Tb Nb, Two w V a b kx x y z R C T 0 Tb Nb ∧ (((i : Int) = 0 ∧ Tb = T ∧ Nb = 0) ∨ (0 < (i : Int) ∧ Tb = tn R C T ((i : Int) - 1) ∧ Nb = (i : Int) - 1))) (fun iv _ => 102 - (intOf iv).toNat)
      case atStart => exact ⟨0, rfl, by omega, HM7.out⟩
      case round =>
        obtain ⟨i, rfl, hi, Tb, Nb, hM, hc⟩ := hrel
        have HM8 := Lib.hid hM
        have k2 := hM.bx.cell 2
        simp only [List.getElem?_toArray, List.getElem?_cons_zero, List.getElem?_cons_succ] at k2
        have HC := Lib.hid hc
        clear hM HM7 HM1 hc
        have HTC := Lib.hid HM8.out.ma.bk.ok.t1
        have HR0 := Lib.hid HO.out.r0
        by_cases hle : (i : Int) ≤ q
        · have HB5 := Lib.hid (tokensB HM8.out (i : Int))
          have hst : ctok R C Tb Nb (i : Int) = tn R C T (i : Int) ∧ crnd Nb (i : Int) = (i : Int) := by
            rcases HC.out with ⟨h1, h2, h3⟩ | ⟨h1, h2, h3⟩
            · rw [h1, h2, h3, tn_zero HTC.out]
              exact come_same HM8.out.ma.bk.ok (by decide)
            · have := tok_ahead HM8.out.mb.bk.ok (r := (i : Int)) (d := 1) (by omega) (by omega) (by omega) (by omega)
              rw [this.1, this.2, h2, tn_next HR0.out, show (i : Int) - 1 + 1 = i by omega]
              exact ⟨rfl, rfl⟩
          rw [hst.1, hst.2] at HB5
          clear hst k2
          go_wp2_with fail
          refine HB5.out.mono ?_
          rintro e w9 ⟨rfl, hM⟩
          have HM9 := Lib.hid hM
          clear hM
          go_wp2_with fail
          go_roundw
          case rel => exact ⟨i + 1, by go_num, by push_cast; omega, _, _, HM9.out, .inr ⟨by push_cast; omega, by rw [show ((i + 1 : Nat) : Int) - 1 = i by push_cast; omega], by push_cast; omega⟩⟩
          case measure => simp [intOf] <;> omega
        · have hst : Tb = tn R C T q ∧ Nb = q := by
            rcases HC.out with ⟨h1, h2, h3⟩ | ⟨h1, h2, h3⟩
            · omega
            · have : (i : Int) - 1 = q := by omega
              rw [this] at h2 h3
              exact ⟨h2, h3⟩
          obtain ⟨rfl, rfl⟩ := hst
          have HA5 := Lib.hid (tokensA HM8.out Nb)
          have h5 := tok_ahead HM8.out.ma.bk.ok (r := Nb) (d := Nb) (by omega) (by omega) (by omega) (by omega)
          rw [h5.1, h5.2, show min (T + Nb * R) C = tn R C T Nb from rfl] at HA5
          clear h5
          generalize tn R C T Nb = U at *
          go_wp2_with fail
          refine HA5.out.mono ?_
          rintro e w9 ⟨rfl, hM⟩
          have HM9 := Lib.hid hM
          have k2 := hM.bx.cell 2
          simp only [List.getElem?_toArray, List.getElem?_cons_zero, List.getElem?_cons_succ] at k2
          have HB9 := Lib.hid (tokensB hM Nb)
          have h9 := come_same hM.mb.bk.ok (r := Nb) (by rw [cut_id Nb q0 (by omega)]; omega)
          rw [h9.1, h9.2] at HB9
          have HA9 : Hid (∀ V, Two w V a b kx x y z R C U Nb U Nb → Calls Try.prog 17 #[.pointer (some ⟨a, 0, none⟩), .int .i64 (Nb - s - 1)] V (ZPost (.int .i64 U) w a b kx x y z R C U Nb U Nb)) := fun V hV => by
            have := tokensA hV (Nb - s - 1)
            have h10 := come_same hV.ma.bk.ok (r := Nb - s - 1) (by
              rcases Int.lt_or_le (Nb - s - 1) 0 with h11 | h11
              · rw [cut_lo _ (by omega)]; omega
              · rw [cut_id _ h11 (by omega)]; omega)
            rw [h10.1, h10.2] at this
            exact this
          clear hM h9
          clear HC HM8 HA5 hi hle
          go_wp2_with (first
            | (go_at_call 17; (with_reducible refine HB9.out.mono ?_); rintro e w10 ⟨rfl, hM⟩; have HM10 := Lib.hid hM; have k3 := hM.bx.cell 2; simp only [List.getElem?_toArray, List.getElem?_cons_zero, List.getElem?_cons_succ] at k3; clear hM)
            | (go_at_call 17; (with_reducible refine (HA9.out _ HM10.out).mono ?_); rintro e w11 ⟨rfl, hM⟩; have HM11 := Lib.hid hM; clear hM)
            | (go_at_call 21; refine (round_any HM11.out.ma.bk).mono ?_; rintro e w' ⟨rfl, rfl⟩))
          go_ret
          exact ⟨rfl, HM11.out.ma.bl⟩
end Go.Proofs.Ytfbbgoahipejlaa.bucketSteps
