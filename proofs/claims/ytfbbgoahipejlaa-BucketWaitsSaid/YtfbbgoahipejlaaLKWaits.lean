/- The walk of BucketWaits. -/
import Derived.Test.YtfbbgoahipejlaaKLive
namespace Go.Proofs.Ytfbbgoahipejlaa.bucketWaits
open Go.RowKit Go.Proofs.Ytfbbgoahipejlaa.G Go.Proofs.Ytfbbgoahipejlaa.Sat Go.Proofs.Ytfbbgoahipejlaa.K11
set_option maxRecDepth 100000
def lft (C : Int) (k : Nat) : Int := if (k : Int) < C then C - k else 0
theorem lft_bd (C : Int) (k : Nat) (h : 0 ≤ C) : 0 ≤ lft C k ∧ lft C k ≤ C := by unfold lft; split <;> omega
theorem lft_next (C : Int) (k : Nat) : less (lft C k) = lft C (k + 1) := by
  unfold less lft
  split <;> split <;> split <;> omega
set_option maxHeartbeats 4000000 in
theorem walk (r c n : Int) {w : World} : Calls Try.prog 5 #[.int .i64 r, .int .i64 c, .int .i64 n] w fun e w' => e = .returned (.bool true) ∧ Below w.heap.size w w' := by
  obtain ⟨q, hq, q0, q1⟩ := some_rest n 1000000 (by decide)
  have HN := Lib.hid (fun V => new_m r c V)
  have HO := Lib.hid (ok_new r c)
  generalize rof r = R at *
  generalize cof c = C at *
  go_enter Try.func5, Try.ntmps5
  go_wp2_with fail
  refine (lives_any _).mono ?_
  rintro e w1 ⟨rfl, hb1⟩
  have HB1 := Lib.hid hb1
  clear hb1
  go_wp2_with fail
  refine (HN.out _).mono ?_
  rintro e w2 ⟨b, rfl, hM⟩
  have HM : Hid (∃ T N, Mine w w2 b R C T N ∧ ctok R C T N q = lft C 0 ∧ crnd N q = q) := by
    refine ⟨_, _, hM.old HB1.out, ?_, ?_⟩
    · rw [full_tok HO.out]; unfold lft; have := HO.out.c0; rw [if_pos (by omega)]; omega
    · unfold crnd; rw [cut_id q q0 (by omega)]; omega
  clear hM
  go_wp2_with fail
  clear hq
  go_loopw [9] (fun iv V => ∃ k : Nat, iv = .int .i64 k ∧ k ≤ 70 ∧ ∃ T N, Mine w V b R C T N ∧ ctok R C T N q = lft C k ∧ crnd N q = q) (fun iv _ => 70 - (intOf iv).toNat)
  case atStart => exact ⟨0, rfl, by omega, HM.out⟩
  case round =>
    obtain ⟨k, rfl, hk, T, N, hM, c1, c2⟩ := hrel
    have HM1 := Lib.hid hM
    clear hM HM
    by_cases hlt : k < 70
    · have hl1 : (k : Int) < 70 := by omega
      have HT := Lib.hid (take_m HM1.out q)
      rw [c1, c2, lft_next] at HT
      clear c1 c2
      generalize (lft C k != 0) = bo at *
      go_wp2_with fail
      refine HT.out.mono ?_
      rintro e w5 ⟨rfl, hM⟩
      have HM5 : Hid (∃ T N, Mine w w5 b R C T N ∧ ctok R C T N q = lft C (k + 1) ∧ crnd N q = q) := ⟨_, _, hM, (come_same hM.bk.ok (by rw [cut_id q q0 (by omega)]; omega)).1, by unfold crnd; rw [cut_id q q0 (by omega)]; omega⟩
      clear hM
      go_wp2_with fail
      go_roundw
      case rel => exact ⟨k + 1, by go_num, by omega, HM5.out⟩
      case measure => simp [intOf] <;> omega
    · obtain rfl : k = 70 := by omega
      have hz : lft C 70 = 0 := by unfold lft; have := HO.out.c1; rw [if_neg (by omega)]
      have HT := Lib.hid (wait_m HM1.out q)
      rw [c1, c2, hz] at HT
      clear c1 c2 hz
      by_cases hR0 : R = 0
      · subst hR0
        rw [wt_no (by decide) (.inl rfl)] at HT
        go_wp2_with fail
        refine HT.out.mono ?_
        rintro e w5 ⟨rfl, hM⟩
        have hcs := come_same hM.bk.ok (r := q) (by rw [cut_id q q0 (by omega)]; omega)
        have HT5 := Lib.hid (tokens_m hM q)
        rw [hcs.1, hcs.2] at HT5
        clear hcs hM
        go_wp2_with fail
        refine HT5.out.mono ?_
        rintro e w6 ⟨rfl, hM⟩
        have HM6 := Lib.hid hM
        have hcs := tok_ahead hM.bk.ok (r := q + 1000) rfl (by omega) (by omega) (by omega)
        have HT6 := Lib.hid (tokens_m hM (q + 1000))
        have h6 : min (0 + 1000 * 0) C = 0 := by have := HO.out.c0; omega
        rw [hcs.1, hcs.2, h6] at HT6
        clear hcs hM h6
        go_wp2_with (first
          | (go_at_call 22; refine (rate_any HM6.out.bk).mono ?_; rintro e w' ⟨rfl, rfl⟩)
          | (go_at_call 17; refine HT6.out.mono ?_; rintro e w7 ⟨rfl, hM⟩; have HM7 := Lib.hid hM; clear hM))
        go_ret
        exact ⟨rfl, HM7.out.bl⟩
      · have hRp : 0 < R := by have := HO.out.r0; omega
        have t1 : decide (R > 0) = true := decide_eq_true hRp
        rw [wt_next (by decide) (fun h => h.elim hR0 (by omega))] at HT
        clear hR0
        obtain ⟨mn, hmn, hmn'⟩ : ∃ mn, min R C = mn ∧ ((R ≤ C ∧ mn = R) ∨ (C < R ∧ mn = C)) := ⟨_, rfl, by omega⟩
        have hmp : mn ≠ 0 := by have := HO.out.c0; omega
        go_wp2_with fail
        refine HT.out.mono ?_
        rintro e w5 ⟨rfl, hM⟩
        have hcs := come_same hM.bk.ok (r := q) (by rw [cut_id q q0 (by omega)]; omega)
        have HT5 := Lib.hid (tokens_m hM q)
        rw [hcs.1, hcs.2] at HT5
        clear hcs hM
        go_wp2_with fail
        refine HT5.out.mono ?_
        rintro e w6 ⟨rfl, hM⟩
        have HM6 := Lib.hid hM
        have hcs := tok_ahead hM.bk.ok (r := q + 1) rfl (by omega) (by omega) (by omega)
        have HT6 := Lib.hid (tokens_m hM (q + 1))
        have h6 : min (0 + 1 * R) C = mn := by rw [Int.one_mul, Int.zero_add]; exact hmn
        rw [hcs.1, hcs.2, h6] at HT6
        have HT7 : Hid (∀ V, Mine w V b R C mn (q + 1) → Calls Try.prog 15 #[.pointer (some ⟨b, 0, none⟩), .int .i64 (q + 1)] V (MPost (.bool true) w b R C (less mn) (q + 1))) := fun V hV => by
          have := take_m hV (q + 1)
          have h8 := come_same hV.bk.ok (r := q + 1) (by rw [cut_id (q + 1) (by omega) (by omega)]; omega)
          rw [h8.1, h8.2, ne_true hmp] at this
          exact this
        clear hcs hM h6 hmn hmp HT5 HT
        rcases hmn' with ⟨h8, rfl⟩ | ⟨h8, rfl⟩
        all_goals
          go_wp2_with (first
            | (go_at_call 22; refine (rate_any HM7.out.bk).mono ?_; rintro e w' ⟨rfl, rfl⟩)
            | (go_at_call 22; refine (rate_any HM6.out.bk).mono ?_; rintro e w' ⟨rfl, rfl⟩)
            | (go_at_call 23; refine (cap_any HM7.out.bk).mono ?_; rintro e w' ⟨rfl, rfl⟩)
            | (go_at_call 15; refine (HT7.out _ HM7.out).mono ?_; rintro e w8 ⟨rfl, hM⟩; have HM8 := Lib.hid hM; clear hM)
            | (go_at_call 17; refine HT6.out.mono ?_; rintro e w7 ⟨rfl, hM⟩; have HM7 := Lib.hid hM; clear hM))
          go_ret
          exact ⟨rfl, HM8.out.bl⟩
end Go.Proofs.Ytfbbgoahipejlaa.bucketWaits
