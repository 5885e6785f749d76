/- Phases and rounds of a tick: contracts of package sat's calls and of the document's own answers. No conditions. -/
import Derived.Test.YtmfkapbllmfegaaDoorS1
namespace Go.Proofs.YtmfkapbllmfegaaDoor.Sat
open Go.ChangeShapes Go.WideShapes Go.ChangeAt Go.RowKit Go.Proofs.YtmfkapbllmfegaaDoor.G

theorem ticks_any (n : Int) (w : World) : Calls Tryd.prog 45 #[.int .i64 n] w fun e w' => e = .returned (.int .i64 (fr n)) ∧ w = w' := by
  go_enter Tryd.func45, Tryd.ntmps45
  go_wp2_with (go_at_call 51; refine (within_any _ _ _ _).mono ?_; rintro e w' ⟨rfl, rfl⟩)
  go_ret
  exact ⟨rfl, rfl⟩

theorem pha_any (n f : Int) (w : World) : Calls Tryd.prog 32 #[.int .i64 n, .int .i64 f] w fun e w' => e = .returned (.int .i64 (pha n f)) ∧ w = w' := by
  have ha := cut_bd n
  have hb := fr_bd f
  go_enter Tryd.func32, Tryd.ntmps32
  go_wp2_with (first | (go_at_call 44; refine (cut_any _ _).mono ?_; rintro e w' ⟨rfl, rfl⟩) | (go_at_call 45; refine (ticks_any _ _).mono ?_; rintro e w' ⟨rfl, rfl⟩))
  go_ret
  exact ⟨rfl, rfl⟩

theorem rou_any (n f : Int) (w : World) : Calls Tryd.prog 30 #[.int .i64 n, .int .i64 f] w fun e w' => e = .returned (.int .i64 (rou n f)) ∧ w = w' := by
  have ha := cut_bd n
  have hb := fr_bd f
  have hc : 0 ≤ cut n / fr f ∧ cut n / fr f ≤ 4611686018427387904 := ⟨Int.ediv_nonneg ha.1 (by omega), Int.le_trans (Int.ediv_le_self _ ha.1) ha.2⟩
  go_enter Tryd.func30, Tryd.ntmps30
  go_wp2_with (first | (go_at_call 44; refine (cut_any _ _).mono ?_; rintro e w' ⟨rfl, rfl⟩) | (go_at_call 45; refine (ticks_any _ _).mono ?_; rintro e w' ⟨rfl, rfl⟩))
  go_ret
  exact ⟨rfl, rfl⟩

theorem rfr_any (n : Int) (w : World) : Calls Tryd.prog 50 #[.int .i64 n] w fun e w' => e = .returned (.int .i64 (fr n)) ∧ w = w' := by
  by_cases h1 : n < 1
  · go_enter Tryd.func50, Tryd.ntmps50
    go_wp2
    go_ret
    exact ⟨ret_int (wit_lo (by omega)).symm, rfl⟩
  · by_cases h2 : 64 < n
    · go_enter Tryd.func50, Tryd.ntmps50
      go_wp2
      go_ret
      exact ⟨ret_int (wit_hi (by omega) (by omega)).symm, rfl⟩
    · go_enter Tryd.func50, Tryd.ntmps50
      go_wp2
      go_ret
      exact ⟨ret_int (wit_in (by omega) (by omega)).symm, rfl⟩

theorem rpha_any (n f : Int) (w : World) : Calls Tryd.prog 38 #[.int .i64 n, .int .i64 f] w fun e w' => e = .returned (.int .i64 (pha n f)) ∧ w = w' := by
  have ha := cut_bd n
  have hb := fr_bd f
  go_enter Tryd.func38, Tryd.ntmps38
  go_wp2_with (first | (go_at_call 43; refine (rcut_any _ _).mono ?_; rintro e w' ⟨rfl, rfl⟩) | (go_at_call 50; refine (rfr_any _ _).mono ?_; rintro e w' ⟨rfl, rfl⟩))
  go_ret
  exact ⟨rfl, rfl⟩

theorem rrou_any (n f : Int) (w : World) : Calls Tryd.prog 42 #[.int .i64 n, .int .i64 f] w fun e w' => e = .returned (.int .i64 (rou n f)) ∧ w = w' := by
  have ha := cut_bd n
  have hb := fr_bd f
  have hc : 0 ≤ cut n / fr f ∧ cut n / fr f ≤ 4611686018427387904 := ⟨Int.ediv_nonneg ha.1 (by omega), Int.le_trans (Int.ediv_le_self _ ha.1) ha.2⟩
  go_enter Tryd.func42, Tryd.ntmps42
  go_wp2_with (first | (go_at_call 43; refine (rcut_any _ _).mono ?_; rintro e w' ⟨rfl, rfl⟩) | (go_at_call 50; refine (rfr_any _ _).mono ?_; rintro e w' ⟨rfl, rfl⟩))
  go_ret
  exact ⟨rfl, rfl⟩

end Go.Proofs.YtmfkapbllmfegaaDoor.Sat
