/- How a message is judged, by the document: a contract. -/
import Derived.Test.YtmfkapbllmfegaaAAll
namespace Go.Proofs.Ytmfkapbllmfegaa.A12
open Go.RowKit Go.Proofs.Ytmfkapbllmfegaa.G Go.Proofs.Ytmfkapbllmfegaa.L10 Go.Proofs.Ytmfkapbllmfegaa.C04
set_option maxRecDepth 100000
variable {w w' : World}
set_option maxHeartbeats 4000000 in
theorem rjudge_any {A : Option Addr} {c : Nat} {ws : List Int} (k : Chn) (mode lane : Int) (hr : Row w A (L10.iv ws)) (hl : ws.length ≤ 1000) : Calls Try.prog 30 #[k.val, .int .i64 mode, .int .i64 lane, .slice A ws.length c] w (JdPost (jdg k mode lane ws) w) := by
  obtain ⟨J, hJ⟩ : ∃ J, jdg k mode lane ws = J := ⟨_, rfl⟩
  have HJ := Lib.hid hJ
  rw [hJ]
  clear hJ
  have b1 := b01 w (.cells #[.int .i64 k.k, .int .i64 k.f, .int .i64 k.t, .int .i64 k.w, .int .i64 k.r, .int .i64 k.la, .int .i64 k.d, .int .i64 k.h, .int .i64 k.li, .int .i64 k.ra, .int .i64 k.c] 23)
  have HB := Lib.hid b1
  have HR := Lib.hid (hr.below b1)
  clear hr b1
  unfold Chn.val
  by_cases h0 : mode = 0
  · subst h0
    by_cases h1 : k.k = 1
    · have t1 : (k.k != 1) = false := by rw [bne_eq_false_iff_eq]; exact h1
      have HK := Lib.hid h1
      clear h1
      by_cases h2 : lane < 0
      · have e : 3 = J := by rw [← HJ.out]; exact (jdg_lane rfl HK.out (decide_eq_false (by omega))).symm
        subst e
        go_enter Try.func30, Try.ntmps30
        go_wp2_with fail
        go_ret
        exact ⟨rfl, HB.out⟩
      · by_cases h3 : lane ≥ k.la
        · have e : 3 = J := by rw [← HJ.out]; exact (jdg_lane rfl HK.out (decide_eq_false (by omega))).symm
          subst e
          go_enter Try.func30, Try.ntmps30
          go_wp2_with fail
          go_ret
          exact ⟨rfl, HB.out⟩
        · by_cases h4 : (ws.length : Int) < 1
          · have e : 3 = J := by rw [← HJ.out]; exact (jdg_words rfl HK.out (mayb_len (.inl (by omega)))).symm
            subst e
            go_enter Try.func30, Try.ntmps30
            go_wp2_with fail
            go_ret
            exact ⟨rfl, HB.out⟩
          · by_cases h5 : (ws.length : Int) > k.w
            · have e : 3 = J := by rw [← HJ.out]; exact (jdg_words rfl HK.out (mayb_len (.inr (by omega)))).symm
              subst e
              go_enter Try.func30, Try.ntmps30
              go_wp2_with fail
              go_ret
              exact ⟨rfl, HB.out⟩
            · have HY : Hid (ws.all wok = true → 0 = J) := fun h => by rw [← HJ.out]; exact (jdg_ok rfl HK.out (decide_eq_true (by omega)) (mayb_yes (by omega) (by omega) h)).symm
              have HNo : Hid (ws.all wok = false → 3 = J) := fun h => by rw [← HJ.out]; exact (jdg_words rfl HK.out (mayb_no h)).symm
              clear HJ
              go_enter Try.func30, Try.ntmps30
              go_wp2_with fail
              obtain ⟨kx, hkx⟩ : ∃ kx, w.heap.size = kx := ⟨_, rfl⟩
              rw [hkx]
              clear hkx
              generalize w.alloc (.cells #[.int .i64 k.k, .int .i64 k.f, .int .i64 k.t, .int .i64 k.w, .int .i64 k.r, .int .i64 k.la, .int .i64 k.d, .int .i64 k.h, .int .i64 k.li, .int .i64 k.ra, .int .i64 k.c] 23) = W at *
              go_loopw [9] (fun i V => ∃ k : Nat, i = .int .i64 k ∧ k ≤ ws.length ∧ (ws.take k).all wok = true ∧ V = W) (fun i _ => ws.length - (intOf i).toNat)
              case atStart => exact ⟨0, rfl, by omega, rfl, rfl⟩
              case round =>
                obtain ⟨j, rfl, hj, ha, hV⟩ := hrel
                obtain rfl : W = wr := hV.symm
                by_cases hlt : j < ws.length
                · obtain ⟨x, hx⟩ : ∃ x, ws[j]? = some x := ⟨_, List.getElem?_eq_getElem hlt⟩
                  obtain ⟨b, o, rfl, hc⟩ := row_iv HR.out hx
                  have hjz : (j : Int) < ws.length := by omega
                  have hj0 : (0 : Int) ≤ (j : Int) := by omega
                  have HA := Lib.hid (And.intro ha hx)
                  clear ha hx
                  by_cases hx0 : x < 0
                  · have ez := HNo.out (all_no HA.out.2 (decide_eq_false (by omega)))
                    subst ez
                    go_wp2_with fail
                    go_ret
                    exact ⟨rfl, HB.out⟩
                  · by_cases hx1 : x > 2147483647
                    · have ez := HNo.out (all_no HA.out.2 (decide_eq_false (by omega)))
                      subst ez
                      go_wp2_with fail
                      go_ret
                      exact ⟨rfl, HB.out⟩
                    · have HS := Lib.hid (all_snoc HA.out.1 HA.out.2 (decide_eq_true (by omega)))
                      go_wp2_with fail
                      go_roundw
                      case rel => exact ⟨j + 1, by go_num, by omega, HS.out, by trivial⟩
                      case measure => simp [intOf] <;> omega
                · have hjz : ¬ (j : Int) < ws.length := by omega
                  have ez := HY.out (by rw [← ha, List.take_of_length_le (by omega)])
                  subst ez
                  go_wp2_with fail
                  go_ret
                  exact ⟨rfl, HB.out⟩
    · have t1 : (k.k != 1) = true := by rw [bne_iff_ne]; exact h1
      have e : 4 = J := by rw [← HJ.out]; exact (jdg_kind rfl h1).symm
      subst e
      clear h1
      go_enter Try.func30, Try.ntmps30
      go_wp2_with fail
      go_ret
      exact ⟨rfl, HB.out⟩
  · have t0 : (mode != 0) = true := by rw [bne_iff_ne]; exact h0
    have e : 5 = J := by rw [← HJ.out]; exact (jdg_mode h0).symm
    subst e
    clear h0
    go_enter Try.func30, Try.ntmps30
    go_wp2_with fail
    go_ret
    exact ⟨rfl, HB.out⟩
end Go.Proofs.Ytmfkapbllmfegaa.A12
