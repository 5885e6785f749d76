/- The walk of BucketResets. -/
import Derived.Test.YtfbbgoahipejlaaKLive
import Derived.Test.YtfbbgoahipejlaaKArgs
import Derived.Deep.DrawnRows
namespace Go.Proofs.Ytfbbgoahipejlaa.bucketResets
open Go.RowKit Go.Proofs.Ytfbbgoahipejlaa.G Go.Proofs.Ytfbbgoahipejlaa.Sat Go.Proofs.Ytfbbgoahipejlaa.K11
set_option maxRecDepth 100000
set_option maxHeartbeats 4000000 in
theorem walk (r c : Int) {w : World} {A : Option Addr} {l : List Sp} {n : Nat} (hl : l.length ≤ n) (hn : n ≤ 9223372036854775807) (hR : Row w A (l.flatMap pcell)) : Calls Try.prog 7 #[.int .i64 r, .int .i64 c, .slice A l.length n] w fun e w' => e = .returned (.bool true) ∧ Below w.heap.size w w' := by
  have HR := Lib.hid hR
  obtain ⟨m, hm⟩ : ∃ m, min l.length 100 = m := ⟨_, rfl⟩
  have HE := Lib.hid (fun V => early_m (A := A) hl hn hm V)
  have hml : m ≤ l.length := by omega
  have hmc : m ≤ 100 := by omega
  have HN := Lib.hid (fun V => new_m r c V)
  generalize rof r = R at *
  generalize cof c = C at *
  clear hm hR hl hn
  go_enter Try.func7, Try.ntmps7
  go_wp2_with fail
  refine (lives_any _).mono ?_
  rintro e w1 ⟨rfl, hb1⟩
  have HB1 := Lib.hid hb1
  clear hb1
  go_wp2_with fail
  refine (HN.out _).mono ?_
  rintro e w2 ⟨b, rfl, hM⟩
  have HM : Hid (∃ T N, Mine w w2 b R C T N) := ⟨_, _, hM.old HB1.out⟩
  clear hM
  go_wp2_with fail
  refine (HE.out _).mono ?_
  rintro e w3 ⟨⟨n', rfl⟩, rfl⟩
  go_wp2_with fail
  go_loopw [8] (fun iv V => ∃ k : Nat, iv = .int .i64 k ∧ k ≤ m ∧ ∃ T N, Mine w V b R C T N) (fun iv _ => m - (intOf iv).toNat)
  case atStart => exact ⟨0, rfl, by omega, HM.out⟩
  case round =>
    obtain ⟨k, rfl, hk, T, N, hM⟩ := hrel
    have HM1 := Lib.hid hM
    clear hM HM
    by_cases hlt : k < m
    · have hl1 : (k : Int) < m := by omega
      obtain ⟨⟨x, y⟩, hu⟩ : ∃ u, l[k]? = some u := ⟨_, List.getElem?_eq_getElem (by omega)⟩
      obtain ⟨ab, ao, rfl, hab, hc0, hc1⟩ := sps_at (HR.out.below HM1.out.bl) hu
      have HT := Lib.hid (take_m HM1.out y)
      clear hu hc0
      go_wp2_with fail
      refine HT.out.mono ?_
      rintro e w5 ⟨rfl, hM⟩
      have HM5 : Hid (∃ T N, Mine w w5 b R C T N) := ⟨_, _, hM⟩
      clear hM
      go_wp2_with fail
      go_roundw
      case rel => exact ⟨k + 1, by go_num, by omega, HM5.out⟩
      case measure => simp [intOf] <;> omega
    · obtain rfl : k = m := by omega
      go_wp2_with fail
      refine (round_any HM1.out.bk).mono ?_
      rintro e w5 ⟨rfl, rfl⟩
      have HS := Lib.hid (reset_m HM1.out N)
      rw [(come_same HM1.out.bk.ok (by rw [cut_id N HM1.out.bk.ok.n0 HM1.out.bk.ok.n1]; omega)).2] at HS
      go_wp2_with fail
      refine HS.out.mono ?_
      rintro e w6 ⟨rfl, hM6⟩
      have HM6 := Lib.hid hM6
      clear hM6 HM1 HS
      go_wp2_with fail
      refine (reset_nil 1 _).mono ?_
      rintro e w7 ⟨rfl, rfl⟩
      go_wp2_with fail
      refine (wait_nil 1 _).mono ?_
      rintro e w7 ⟨rfl, rfl⟩
      have HT := Lib.hid (tokens_m HM6.out N)
      have hcs := come_same HM6.out.bk.ok (r := N) (by rw [cut_id N HM6.out.bk.ok.n0 HM6.out.bk.ok.n1]; omega)
      rw [hcs.1, hcs.2] at HT
      clear hcs
      go_wp2_with fail
      refine HT.out.mono ?_
      rintro e w8 ⟨rfl, hM8⟩
      have HM8 := Lib.hid hM8
      clear hM8 HM6 HT
      go_wp2_with (first
        | (go_at_call 23; refine (cap_any HM8.out.bk).mono ?_; rintro e w' ⟨rfl, rfl⟩)
        | (go_at_call 23; refine (cap_nil _).mono ?_; rintro e w' ⟨rfl, rfl⟩)
        | (go_at_call 21; refine (round_any HM8.out.bk).mono ?_; rintro e w' ⟨rfl, rfl⟩)
        | (go_at_call 21; refine (round_nil _).mono ?_; rintro e w' ⟨rfl, rfl⟩)
        | (go_at_call 22; refine (rate_nil _).mono ?_; rintro e w' ⟨rfl, rfl⟩)
        | (go_at_call 17; refine (tokens_nil _ _).mono ?_; rintro e w' ⟨rfl, rfl⟩)
        | (go_at_call 15; refine (take_nil _ _).mono ?_; rintro e w' ⟨rfl, rfl⟩))
      go_ret
      exact ⟨rfl, HM8.out.bl⟩
end Go.Proofs.Ytfbbgoahipejlaa.bucketResets
