/- How a message is judged, by the program and by the document: contracts against one plain function. -/
import Derived.Test.YtgmcjkiofcpjbaaA0
import Derived.Test.YtgmcjkiofcpjbaaKind
namespace Go.Proofs.Ytgmcjkiofcpjbaa.A12
open Go.RowKit Go.Proofs.Ytgmcjkiofcpjbaa.G Go.Proofs.Ytgmcjkiofcpjbaa.L10 Go.Proofs.Ytgmcjkiofcpjbaa.C04
set_option maxRecDepth 100000
variable {w w' : World}
theorem row_iv {A : Option Addr} {ws : List Int} (h : Row w A (L10.iv ws)) {k : Nat} {z : Int} (hz : ws[k]? = some z) : ∃ b o : Nat, A = some ⟨b, o, none⟩ ∧ w.cell? ⟨b, o + k, none⟩ = some (.int .i64 z) := by
  have hk := (List.getElem?_eq_some_iff.1 hz).1
  obtain ⟨b, o, e, _, hc⟩ := h (by rw [iv_len]; omega)
  exact ⟨b, o, e, hc k _ (by simp [L10.iv, hz])⟩
set_option maxHeartbeats 1000000 in
theorem maybe_any {A : Option Addr} {c : Nat} {ws : List Int} (hr : Row w A (L10.iv ws)) (hl : ws.length ≤ 1000) (m : Int) : Calls Try.prog 56 #[.slice A ws.length c, .int .i64 m] w fun e w' => e = .returned (.bool (mayb ws m)) ∧ w = w' := by
  by_cases h0 : ws.length = 0
  · have e0 : mayb ws m = false := mayb_len (.inl h0)
    rw [e0]
    have t0 : ((ws.length : Int) == 0) = true := by rw [beq_iff_eq]; omega
    go_enter Try.func56, Try.ntmps56
    go_wp2_with fail
    go_ret
    exact ⟨rfl, rfl⟩
  · have t0 : ((ws.length : Int) == 0) = false := by rw [beq_eq_false_iff_ne]; omega
    by_cases h1 : (ws.length : Int) > m
    · have e0 : mayb ws m = false := mayb_len (.inr (by omega))
      rw [e0]
      go_enter Try.func56, Try.ntmps56
      go_wp2_with fail
      go_ret
      exact ⟨rfl, rfl⟩
    · have HR := Lib.hid hr
      have HY : Hid (ws.all wok = true → mayb ws m = true) := fun h => mayb_yes (by omega) (by omega) h
      obtain ⟨z, hz⟩ : ∃ z, mayb ws m = z := ⟨_, rfl⟩
      have HZ := Lib.hid hz
      rw [hz]
      clear hz hr
      go_enter Try.func56, Try.ntmps56
      go_wp2_with fail
      go_loopw [18] (fun i V => ∃ k : Nat, i = .int .i64 k ∧ k ≤ ws.length ∧ (ws.take k).all wok = true ∧ V = w) (fun i _ => ws.length - (intOf i).toNat)
      case atStart => exact ⟨0, rfl, by omega, rfl, rfl⟩
      case round =>
        obtain ⟨k, rfl, hk, ha, rfl⟩ := hrel
        by_cases hlt : k < ws.length
        · obtain ⟨x, hx⟩ : ∃ x, ws[k]? = some x := ⟨_, List.getElem?_eq_getElem hlt⟩
          obtain ⟨b, o, rfl, hc⟩ := row_iv HR.out hx
          have hkz : (k : Int) < ws.length := by omega
          have HA := Lib.hid (And.intro ha hx)
          clear ha hx
          by_cases hx0 : x < 0
          · have ez : false = z := by rw [← HZ.out]; exact (mayb_no (all_no HA.out.2 (decide_eq_false (by omega)))).symm
            subst ez
            go_wp2_with fail
            go_ret
            exact ⟨rfl, rfl⟩
          · by_cases hx1 : x > 2147483647
            · have ez : false = z := by rw [← HZ.out]; exact (mayb_no (all_no HA.out.2 (decide_eq_false (by omega)))).symm
              subst ez
              go_wp2_with fail
              go_ret
              exact ⟨rfl, rfl⟩
            · have HS := Lib.hid (all_snoc HA.out.1 HA.out.2 (decide_eq_true (by omega)))
              go_wp2_with fail
              go_roundw
              case rel => exact ⟨k + 1, by go_num, by omega, HS.out, by trivial⟩
              case measure => simp [intOf] <;> omega
        · have hkz : ¬ (k : Int) < ws.length := by omega
          have ez : true = z := by rw [← HZ.out]; exact (HY.out (by rw [← ha, List.take_of_length_le (by omega)])).symm
          subst ez
          go_wp2_with fail
          go_ret
          exact ⟨rfl, rfl⟩
def JdPost (v : Int) (w : World) (e : Ending) (w' : World) : Prop := e = .returned (.int .i64 v) ∧ Below w.heap.size w w'
set_option maxHeartbeats 2000000 in
theorem judge_any {A : Option Addr} {c : Nat} {ws : List Int} (k : Chn) (mode lane : Int) (hr : Row w A (L10.iv ws)) (hl : ws.length ≤ 1000) : Calls Try.prog 30 #[k.val, .int .i64 mode, .int .i64 lane, .slice A ws.length c] w (JdPost (jdg k mode lane ws) w) := by
  obtain ⟨J, hJ⟩ : ∃ J, jdg k mode lane ws = J := ⟨_, rfl⟩
  have HJ := Lib.hid hJ
  rw [hJ]
  clear hJ
  have b1 := b01 w (.cells #[.int .i64 k.k, .int .i64 k.f, .int .i64 k.t, .int .i64 k.w, .int .i64 k.r, .int .i64 k.la, .int .i64 k.d, .int .i64 k.h, .int .i64 k.li, .int .i64 k.ra, .int .i64 k.c] 23)
  have HB := Lib.hid b1
  have HM := Lib.hid (maybe_any (c := c) (hr.below b1) hl k.w)
  clear hr b1
  unfold Chn.val
  by_cases h0 : mode = 0
  · subst h0
    by_cases h1 : k.k = 1
    · have t1 : (k.k != 1) = false := by rw [bne_eq_false_iff_eq]; exact h1
      by_cases h2 : lane < 0
      · have e : 3 = J := by rw [← HJ.out]; exact (jdg_lane rfl h1 (decide_eq_false (by omega))).symm
        subst e
        clear h1
        go_enter Try.func30, Try.ntmps30
        go_wp2_with fail
        go_ret
        exact ⟨rfl, HB.out⟩
      · by_cases h3 : lane ≥ k.la
        · have e : 3 = J := by rw [← HJ.out]; exact (jdg_lane rfl h1 (decide_eq_false (by omega))).symm
          subst e
          clear h1
          go_enter Try.func30, Try.ntmps30
          go_wp2_with fail
          go_ret
          exact ⟨rfl, HB.out⟩
        · cases hm : mayb ws k.w with
          | true =>
            have e : 0 = J := by rw [← HJ.out]; exact (jdg_ok rfl h1 (decide_eq_true (by omega)) hm).symm
            subst e
            rw [hm] at HM
            clear h1 hm
            go_enter Try.func30, Try.ntmps30
            go_wp2_with fail
            refine HM.out.mono ?_
            rintro e w1 ⟨rfl, rfl⟩
            go_wp2_with fail
            go_ret
            exact ⟨rfl, HB.out⟩
          | false =>
            have e : 3 = J := by rw [← HJ.out]; exact (jdg_words rfl h1 hm).symm
            subst e
            rw [hm] at HM
            clear h1 hm
            go_enter Try.func30, Try.ntmps30
            go_wp2_with fail
            refine HM.out.mono ?_
            rintro e w1 ⟨rfl, rfl⟩
            go_wp2_with fail
            go_ret
            exact ⟨rfl, HB.out⟩
    · have t1 : (k.k != 1) = true := by rw [bne_iff_ne]; exact h1
      have e : 4 = J := by rw [← HJ.out]; exact (jdg_kind rfl h1).symm
      subst e
      clear h1
      go_enter Try.func30, Try.ntmps30
      go_wp2_with fail
      go_ret
      exact ⟨rfl, HB.out⟩
  · have t0 : (mode != 0) = true := by rw [bne_iff_ne]; exact h0
    have e : 5 = J := by rw [← HJ.out]; exact (jdg_mode h0).symm
    subst e
    clear h0
    go_enter Try.func30, Try.ntmps30
    go_wp2_with fail
    go_ret
    exact ⟨rfl, HB.out⟩
end Go.Proofs.Ytgmcjkiofcpjbaa.A12
