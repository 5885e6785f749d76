/- The walk of RingOdd (written by gen_rodd.py). -/
import Derived.Test.YtpoidnajhcjmcaaDoorRLive
namespace Go.Proofs.YtpoidnajhcjmcaaDoor.ringOdd
open Go.RowKit Go.Proofs.YtpoidnajhcjmcaaDoor.G Go.Proofs.YtpoidnajhcjmcaaDoor.Cell Go.Proofs.YtpoidnajhcjmcaaDoor.R8 Go.Proofs.YtpoidnajhcjmcaaDoor.Ob
set_option maxRecDepth 100000
variable {w : World} {A : Option Addr} {l : List Int}
def InvO (w0 : World) (l : List Int) (m0 : Bool) (v i : Value) (V : World) : Prop := ∃ k : Nat, i = .int .i64 k ∧ k ≤ l.length ∧ v = .bool (m0 && allOk (l.take k)) ∧ V = w0
set_option maxHeartbeats 4000000 in
theorem short {n : Int} {l0 : Nat} {cp : Nat} {wb : Bool} (hn : n ≤ 9223372036854775807) (hr : Row w A (iv' l)) (hl : l.length ≤ cp) (hc : cp ≤ 9223372036854775807) (h10 : l.length = l0) (h11 : l.length ≤ 10) (hl0 : l0 ≤ 10) (hcc : l0 ≤ cp) :
    Calls Tryd.prog 10 #[.int .i64 n, .slice A l0 cp, .bool wb] w fun e w' => e = .returned (.bool true) ∧ Below w.heap.size w w' := by
  have HR := Lib.hid hr
  clear hr
  obtain ⟨W1, W6⟩ := fW_bd n
  obtain ⟨W, hW⟩ : ∃ W, fW n = W := ⟨_, rfl⟩
  have HWn := Lib.hid hW
  rw [hW] at W1 W6
  have H10 := Lib.hid h10
  clear hW h10
  go_enter Tryd.func10, Tryd.ntmps10
  go_wp2_with fail
  refine (lives_any _).mono ?_
  rintro e w1 ⟨rfl, hb1⟩
  go_wp2_with fail
  refine (rnew_any 2 n (by omega) hn).mono ?_
  rintro e w2 ⟨br, rfl, hr2, hb2⟩
  rw [HWn.out, show fD 2 = 2 from rfl] at hr2
  have HR2 := Lib.hid hr2
  have HB2 := Lib.hid (bt hb1 hb2)
  have hsz1 := hb1.size
  clear hr2 hb1 hb2
  unfold P
  go_upto_region 5 with fail
  go_wp2_with fail
  refine (rwords_any HR2.out).mono ?_
  rintro e w' ⟨rfl, rfl⟩
  rw [show (s0 2 W).W = W from rfl]
  obtain ⟨m0, hm0⟩ : ∃ m : Bool, (((l0 : Nat) : Int) == (W : Int)) = m := ⟨_, rfl⟩
  have hm0' : ((l0 : Int) == (W : Int)) = m0 := hm0
  have HM0 := Lib.hid hm0
  go_wp2_with fail
  clear hm0 hm0'
  go_loopw [8, 9] (fun v i V => InvO w2 l m0 v i V) (fun _ i _ => l.length - (intOf i).toNat)
  case atStart => exact ⟨0, rfl, by omega, by simp [allOk], rfl⟩
  case round =>
    obtain ⟨k, rfl, hk, rfl, rfl⟩ := hrel
    have h10 := H10.out
    by_cases hlt : k < l.length
    · obtain ⟨b, o, rfl, hb, hc⟩ := row_at (HR.out.below HB2.out) hlt
      have hst := allOk_step hlt
      obtain ⟨z, hz⟩ : ∃ z, nth l k = z := ⟨_, rfl⟩
      rw [hz] at hc hst
      have hk1 : (k : Int) < l0 := by omega
      have hk2 : (k : Int) < cp := by omega
      cases hm : (m0 && allOk (l.take k)) with
      | false =>
        have HN : Hid ((m0 && allOk (l.take (k + 1))) = false) := by show (m0 && allOk (l.take (k + 1))) = false; rw [hst, ← Bool.and_assoc, hm]; rfl
        clear hst hm hz
        go_wp2_with fail
        go_roundw
        case rel => exact ⟨k + 1, by go_num, by omega, by first | (rw [HN.out]; done) | (rw [HN.out]; simp; omega), rfl⟩
        case measure => simp [intOf]; omega
      | true =>
        by_cases z0 : z < 0
        · have HN : Hid ((m0 && allOk (l.take (k + 1))) = false) := by
            show (m0 && allOk (l.take (k + 1))) = false
            rw [hst, ← Bool.and_assoc, hm]; simp [okV]; omega
          clear hst hm hz
          go_wp2_with fail
          go_roundw
          case rel => exact ⟨k + 1, by go_num, by omega, by first | (rw [HN.out]; done) | (rw [HN.out]; simp; omega), rfl⟩
          case measure => simp [intOf]; omega
        · by_cases z1 : 2147483647 < z
          · have HN : Hid ((m0 && allOk (l.take (k + 1))) = false) := by
              show (m0 && allOk (l.take (k + 1))) = false
              rw [hst, ← Bool.and_assoc, hm]; simp [okV]; omega
            clear hst hm hz
            go_wp2_with fail
            go_roundw
            case rel => exact ⟨k + 1, by go_num, by omega, by first | (rw [HN.out]; done) | (rw [HN.out]; simp; omega), rfl⟩
            case measure => simp [intOf]; omega
          · have HN : Hid ((m0 && allOk (l.take (k + 1))) = true) := by
              show (m0 && allOk (l.take (k + 1))) = true
              rw [hst, ← Bool.and_assoc, hm]; simp [okV]; omega
            have z0' : 0 ≤ z := by omega
            have z1' : z ≤ 2147483647 := by omega
            clear hst hm hz z0 z1
            go_wp2_with fail
            go_roundw
            case rel => exact ⟨k + 1, by go_num, by omega, by first | (rw [HN.out]; done) | (rw [HN.out]; simp; omega), rfl⟩
            case measure => simp [intOf]; omega
    · have hkl : k = l.length := by omega
      have hmay : (m0 && allOk (l.take k)) = may (s0 2 W) l := by
        rw [hkl, List.take_length]
        unfold may
        congr 1
        rw [← HM0.out, Bool.eq_iff_iff, beq_iff_eq, decide_eq_true_eq]
        show _ ↔ l.length = W
        omega
      have hkn : (k : Int) = l0 := by omega
      rw [hmay]
      have HWr := Lib.hid (push_any (cp := cp) HR2.out (HR.out.below HB2.out))
      rw [h10] at HWr
      clear hmay hkl hlt hk
      cases hm : may (s0 2 W) l with
      | true =>
        have eC : uCode (s0 2 W) l = 0 := by unfold uCode; rw [hm]; rfl
        rw [eC] at HWr
        have HLf : Hid ((uBegin (s0 2 W) l).pu.isSome = true) := by show (uBegin (s0 2 W) l).pu.isSome = true; unfold uBegin; rw [hm]; rfl
        clear hm h10 eC
        go_wp2_with fail
        refine HWr.out.mono ?_
        rintro e w5 ⟨rfl, hr5, hO5⟩
        have HB5 := Lib.hid (Only.to_below HB2.out hO5 (fun q hq => Nat.le_trans hsz1 hq) HB2.out.size)
        have HR5 := Lib.hid hr5
        clear hr5 hO5
        go_wp2_with fail
        refine (reset_nil _).mono ?_
        rintro e w' ⟨rfl, rfl⟩
        go_wp2_with fail
        refine (step_nil wb _).mono ?_
        rintro e w' ⟨rfl, rfl⟩
        go_wp2_with fail
        refine (ubusy_any HR5.out).mono ?_
        rintro e w' ⟨rfl, rfl⟩
        rw [HLf.out]
        go_wp2_with fail
        refine (push_nil).mono ?_
        rintro e w' ⟨rfl, rfl⟩
        go_wp2_with fail
        refine (pop_nil).mono ?_
        rintro e w' ⟨rfl, rfl⟩
        go_wp2_with fail
        refine (drop_nil wb _).mono ?_
        rintro e w' ⟨rfl, rfl⟩
        go_wp2_with fail
        refine (busy_nil wb _).mono ?_
        rintro e w' ⟨rfl, rfl⟩
        go_wp2_with fail
        refine count_nil.mono ?_
        rintro e w' ⟨rfl, rfl⟩
        go_wp2_with fail
        refine places_nil.mono ?_
        rintro e w' ⟨rfl, rfl⟩
        go_wp2_with fail
        refine words_nil.mono ?_
        rintro e w' ⟨rfl, rfl⟩
        go_wp2_with fail
        refine cells_nil.mono ?_
        rintro e w' ⟨rfl, rfl⟩
        go_wp2_with fail
        go_ret
        exact ⟨rfl, HB5.out⟩

      | false =>
        have eC : uCode (s0 2 W) l = 3 := by unfold uCode; rw [hm]; rfl
        have eB : uBegin (s0 2 W) l = s0 2 W := by unfold uBegin; rw [hm]; rfl
        rw [eC, eB] at HWr
        have HLf : Hid ((s0 2 W).pu.isSome = false) := rfl
        clear hm h10 eC eB
        go_wp2_with fail
        refine HWr.out.mono ?_
        rintro e w5 ⟨rfl, hr5, hO5⟩
        have HB5 := Lib.hid (Only.to_below HB2.out hO5 (fun q hq => Nat.le_trans hsz1 hq) HB2.out.size)
        have HR5 := Lib.hid hr5
        clear hr5 hO5
        go_wp2_with fail
        refine (reset_nil _).mono ?_
        rintro e w' ⟨rfl, rfl⟩
        go_wp2_with fail
        refine (step_nil wb _).mono ?_
        rintro e w' ⟨rfl, rfl⟩
        go_wp2_with fail
        refine (ubusy_any HR5.out).mono ?_
        rintro e w' ⟨rfl, rfl⟩
        rw [HLf.out]
        go_wp2_with fail
        refine (push_nil).mono ?_
        rintro e w' ⟨rfl, rfl⟩
        go_wp2_with fail
        refine (pop_nil).mono ?_
        rintro e w' ⟨rfl, rfl⟩
        go_wp2_with fail
        refine (drop_nil wb _).mono ?_
        rintro e w' ⟨rfl, rfl⟩
        go_wp2_with fail
        refine (busy_nil wb _).mono ?_
        rintro e w' ⟨rfl, rfl⟩
        go_wp2_with fail
        refine count_nil.mono ?_
        rintro e w' ⟨rfl, rfl⟩
        go_wp2_with fail
        refine places_nil.mono ?_
        rintro e w' ⟨rfl, rfl⟩
        go_wp2_with fail
        refine words_nil.mono ?_
        rintro e w' ⟨rfl, rfl⟩
        go_wp2_with fail
        refine cells_nil.mono ?_
        rintro e w' ⟨rfl, rfl⟩
        go_wp2_with fail
        go_ret
        exact ⟨rfl, HB5.out⟩

set_option maxHeartbeats 4000000 in
theorem long {n : Int} {l0 : Nat} {cp : Nat} {wb : Bool} (hn : n ≤ 9223372036854775807) (hr : Row w A (iv' l)) (hl : l.length ≤ cp) (hc : cp ≤ 9223372036854775807) (h10 : l.length = 10) (h11 : l.length ≤ 10) (hl0 : 10 < l0) (hcc : l0 ≤ cp) :
    Calls Tryd.prog 10 #[.int .i64 n, .slice A l0 cp, .bool wb] w fun e w' => e = .returned (.bool true) ∧ Below w.heap.size w w' := by
  have HR := Lib.hid hr
  clear hr
  obtain ⟨W1, W6⟩ := fW_bd n
  obtain ⟨W, hW⟩ : ∃ W, fW n = W := ⟨_, rfl⟩
  have HWn := Lib.hid hW
  rw [hW] at W1 W6
  have H10 := Lib.hid h10
  clear hW h10
  go_enter Tryd.func10, Tryd.ntmps10
  go_wp2_with fail
  refine (lives_any _).mono ?_
  rintro e w1 ⟨rfl, hb1⟩
  go_wp2_with fail
  refine (rnew_any 2 n (by omega) hn).mono ?_
  rintro e w2 ⟨br, rfl, hr2, hb2⟩
  rw [HWn.out, show fD 2 = 2 from rfl] at hr2
  have HR2 := Lib.hid hr2
  have HB2 := Lib.hid (bt hb1 hb2)
  have hsz1 := hb1.size
  clear hr2 hb1 hb2
  unfold P
  go_upto_region 5 with fail
  go_wp2_with fail
  refine (rwords_any HR2.out).mono ?_
  rintro e w' ⟨rfl, rfl⟩
  rw [show (s0 2 W).W = W from rfl]
  obtain ⟨m0, hm0⟩ : ∃ m : Bool, (((10 : Nat) : Int) == (W : Int)) = m := ⟨_, rfl⟩
  have hm0' : ((10 : Int) == (W : Int)) = m0 := hm0
  have HM0 := Lib.hid hm0
  go_wp2_with fail
  clear hm0 hm0'
  go_loopw [8, 9] (fun v i V => InvO w2 l m0 v i V) (fun _ i _ => l.length - (intOf i).toNat)
  case atStart => exact ⟨0, rfl, by omega, by simp [allOk], rfl⟩
  case round =>
    obtain ⟨k, rfl, hk, rfl, rfl⟩ := hrel
    have h10 := H10.out
    by_cases hlt : k < l.length
    · obtain ⟨b, o, rfl, hb, hc⟩ := row_at (HR.out.below HB2.out) hlt
      have hst := allOk_step hlt
      obtain ⟨z, hz⟩ : ∃ z, nth l k = z := ⟨_, rfl⟩
      rw [hz] at hc hst
      have hk1 : (k : Int) < 10 := by omega
      have hk2 : (k : Int) < cp := by omega
      cases hm : (m0 && allOk (l.take k)) with
      | false =>
        have HN : Hid ((m0 && allOk (l.take (k + 1))) = false) := by show (m0 && allOk (l.take (k + 1))) = false; rw [hst, ← Bool.and_assoc, hm]; rfl
        clear hst hm hz
        go_wp2_with fail
        go_roundw
        case rel => exact ⟨k + 1, by go_num, by omega, by first | (rw [HN.out]; done) | (rw [HN.out]; simp; omega), rfl⟩
        case measure => simp [intOf]; omega
      | true =>
        by_cases z0 : z < 0
        · have HN : Hid ((m0 && allOk (l.take (k + 1))) = false) := by
            show (m0 && allOk (l.take (k + 1))) = false
            rw [hst, ← Bool.and_assoc, hm]; simp [okV]; omega
          clear hst hm hz
          go_wp2_with fail
          go_roundw
          case rel => exact ⟨k + 1, by go_num, by omega, by first | (rw [HN.out]; done) | (rw [HN.out]; simp; omega), rfl⟩
          case measure => simp [intOf]; omega
        · by_cases z1 : 2147483647 < z
          · have HN : Hid ((m0 && allOk (l.take (k + 1))) = false) := by
              show (m0 && allOk (l.take (k + 1))) = false
              rw [hst, ← Bool.and_assoc, hm]; simp [okV]; omega
            clear hst hm hz
            go_wp2_with fail
            go_roundw
            case rel => exact ⟨k + 1, by go_num, by omega, by first | (rw [HN.out]; done) | (rw [HN.out]; simp; omega), rfl⟩
            case measure => simp [intOf]; omega
          · have HN : Hid ((m0 && allOk (l.take (k + 1))) = true) := by
              show (m0 && allOk (l.take (k + 1))) = true
              rw [hst, ← Bool.and_assoc, hm]; simp [okV]; omega
            have z0' : 0 ≤ z := by omega
            have z1' : z ≤ 2147483647 := by omega
            clear hst hm hz z0 z1
            go_wp2_with fail
            go_roundw
            case rel => exact ⟨k + 1, by go_num, by omega, by first | (rw [HN.out]; done) | (rw [HN.out]; simp; omega), rfl⟩
            case measure => simp [intOf]; omega
    · have hkl : k = l.length := by omega
      have hmay : (m0 && allOk (l.take k)) = may (s0 2 W) l := by
        rw [hkl, List.take_length]
        unfold may
        congr 1
        rw [← HM0.out, Bool.eq_iff_iff, beq_iff_eq, decide_eq_true_eq]
        show _ ↔ l.length = W
        omega
      have hkn : (k : Int) = 10 := by omega
      rw [hmay]
      have HWr := Lib.hid (push_any (cp := cp) HR2.out (HR.out.below HB2.out))
      rw [h10] at HWr
      clear hmay hkl hlt hk
      cases hm : may (s0 2 W) l with
      | true =>
        have eC : uCode (s0 2 W) l = 0 := by unfold uCode; rw [hm]; rfl
        rw [eC] at HWr
        have HLf : Hid ((uBegin (s0 2 W) l).pu.isSome = true) := by show (uBegin (s0 2 W) l).pu.isSome = true; unfold uBegin; rw [hm]; rfl
        clear hm h10 eC
        go_wp2_with fail
        refine HWr.out.mono ?_
        rintro e w5 ⟨rfl, hr5, hO5⟩
        have HB5 := Lib.hid (Only.to_below HB2.out hO5 (fun q hq => Nat.le_trans hsz1 hq) HB2.out.size)
        have HR5 := Lib.hid hr5
        clear hr5 hO5
        go_wp2_with fail
        refine (reset_nil _).mono ?_
        rintro e w' ⟨rfl, rfl⟩
        go_wp2_with fail
        refine (step_nil wb _).mono ?_
        rintro e w' ⟨rfl, rfl⟩
        go_wp2_with fail
        refine (ubusy_any HR5.out).mono ?_
        rintro e w' ⟨rfl, rfl⟩
        rw [HLf.out]
        go_wp2_with fail
        refine (push_nil).mono ?_
        rintro e w' ⟨rfl, rfl⟩
        go_wp2_with fail
        refine (pop_nil).mono ?_
        rintro e w' ⟨rfl, rfl⟩
        go_wp2_with fail
        refine (drop_nil wb _).mono ?_
        rintro e w' ⟨rfl, rfl⟩
        go_wp2_with fail
        refine (busy_nil wb _).mono ?_
        rintro e w' ⟨rfl, rfl⟩
        go_wp2_with fail
        refine count_nil.mono ?_
        rintro e w' ⟨rfl, rfl⟩
        go_wp2_with fail
        refine places_nil.mono ?_
        rintro e w' ⟨rfl, rfl⟩
        go_wp2_with fail
        refine words_nil.mono ?_
        rintro e w' ⟨rfl, rfl⟩
        go_wp2_with fail
        refine cells_nil.mono ?_
        rintro e w' ⟨rfl, rfl⟩
        go_wp2_with fail
        go_ret
        exact ⟨rfl, HB5.out⟩

      | false =>
        have eC : uCode (s0 2 W) l = 3 := by unfold uCode; rw [hm]; rfl
        have eB : uBegin (s0 2 W) l = s0 2 W := by unfold uBegin; rw [hm]; rfl
        rw [eC, eB] at HWr
        have HLf : Hid ((s0 2 W).pu.isSome = false) := rfl
        clear hm h10 eC eB
        go_wp2_with fail
        refine HWr.out.mono ?_
        rintro e w5 ⟨rfl, hr5, hO5⟩
        have HB5 := Lib.hid (Only.to_below HB2.out hO5 (fun q hq => Nat.le_trans hsz1 hq) HB2.out.size)
        have HR5 := Lib.hid hr5
        clear hr5 hO5
        go_wp2_with fail
        refine (reset_nil _).mono ?_
        rintro e w' ⟨rfl, rfl⟩
        go_wp2_with fail
        refine (step_nil wb _).mono ?_
        rintro e w' ⟨rfl, rfl⟩
        go_wp2_with fail
        refine (ubusy_any HR5.out).mono ?_
        rintro e w' ⟨rfl, rfl⟩
        rw [HLf.out]
        go_wp2_with fail
        refine (push_nil).mono ?_
        rintro e w' ⟨rfl, rfl⟩
        go_wp2_with fail
        refine (pop_nil).mono ?_
        rintro e w' ⟨rfl, rfl⟩
        go_wp2_with fail
        refine (drop_nil wb _).mono ?_
        rintro e w' ⟨rfl, rfl⟩
        go_wp2_with fail
        refine (busy_nil wb _).mono ?_
        rintro e w' ⟨rfl, rfl⟩
        go_wp2_with fail
        refine count_nil.mono ?_
        rintro e w' ⟨rfl, rfl⟩
        go_wp2_with fail
        refine places_nil.mono ?_
        rintro e w' ⟨rfl, rfl⟩
        go_wp2_with fail
        refine words_nil.mono ?_
        rintro e w' ⟨rfl, rfl⟩
        go_wp2_with fail
        refine cells_nil.mono ?_
        rintro e w' ⟨rfl, rfl⟩
        go_wp2_with fail
        go_ret
        exact ⟨rfl, HB5.out⟩

theorem walk {w : World} {n : Int} {A : Option Addr} {l : List Int} {cp : Nat} {wb : Bool} (hn : n ≤ 9223372036854775807) (hr : Row w A (iv' l)) (hl : l.length ≤ cp) (hc : cp ≤ 9223372036854775807) :
    Calls Tryd.prog 10 #[.int .i64 n, .slice A l.length cp, .bool wb] w fun e w' => e = .returned (.bool true) ∧ Below w.heap.size w w' := by
  by_cases h : l.length ≤ 10
  · exact short (l := l) (l0 := l.length) hn hr hl hc rfl h h hl
  · have e : iv' (l.take 10) = (iv' l).take 10 := by simp [iv']
    exact long (l := l.take 10) (l0 := l.length) hn (by rw [e]; exact hr.take 10) (by simp; omega) hc (by simp; omega) (by simp; omega) (by omega) hl
end Go.Proofs.YtpoidnajhcjmcaaDoor.ringOdd
