/- The document's own Lanes, by value: Room: a contract. -/
import Derived.Test.YtfbbgoahipejlaaQL2
namespace Go.Proofs.Ytfbbgoahipejlaa.L10
open Go.RowKit Go.Proofs.Ytfbbgoahipejlaa.G Go.Sort
set_option maxRecDepth 100000
variable {w w' : World} {b L P : Nat} {r : Value} {d : List MV}
theorem rroom_any {A : Option Addr} {c : Nat} (hr : Row w A (mvs d)) (hd : d.length ≤ 1000) (hP : P ≤ 8) (l : Int) : Calls Try.prog 44 #[.agg #[.int .i64 L, .int .i64 P, .slice A d.length c], .int .i64 l] w fun e w' => e = .returned (.int .i64 (room L P d l)) ∧ Below w.heap.size w w' := by
  have b1 := b01 w (.cells #[.int .i64 L, .int .i64 P, .slice A d.length c] 53)
  cases hl : isL L l with
  | false =>
    have e0 : room L P d l = 0 := by unfold room; rw [hl]; rfl
    rw [e0]
    rcases isL_not hl with h | h
    · clear hr hl e0
      have HB := Lib.hid b1
      clear b1
      go_enter Try.func44, Try.ntmps44
      go_wp2_with fail
      go_ret
      exact ⟨rfl, HB.out⟩
    · by_cases h0 : l < 0
      · clear hr hl e0 h
        have HB := Lib.hid b1
        clear b1
        go_enter Try.func44, Try.ntmps44
        go_wp2_with fail
        go_ret
        exact ⟨rfl, HB.out⟩
      · clear hr hl e0
        have HB := Lib.hid b1
        clear b1
        go_enter Try.func44, Try.ntmps44
        go_wp2_with fail
        go_ret
        exact ⟨rfl, HB.out⟩
  | true =>
    have hl2 := isL_of hl
    obtain ⟨R, hR⟩ : ∃ R, room L P d l = R := ⟨_, rfl⟩
    obtain ⟨F, hF⟩ : ∃ F, d.filter (fun m => m.ln == l) = F := ⟨_, rfl⟩
    have hRF : (P : Int) - F.length = R := by rw [← hR, ← hF]; unfold room; rw [hl, if_pos rfl, cnt_of]
    have hFl : F.length ≤ 1000 := by rw [← hF]; exact Nat.le_trans (List.length_filter_le _ _) hd
    rw [hR]
    have hw : IntKind.i64.wrap R = R := by rw [IntKind.wrap_i64]; omega
    have HB := Lib.hid b1
    have N := Blk.new w 53 #[.int .i64 L, .int .i64 P, .slice A d.length c]
    have HN := Lib.hid N
    obtain ⟨kx, hkx⟩ : ∃ kx, w.heap.size = kx := ⟨_, rfl⟩
    rw [hkx] at HN
    have HKX := Lib.hid hkx
    have C := Lib.hid (fun V (hV : Below w.heap.size w V) => rof_any (c := c) (L : Int) (P : Int) (hr.below hV) hd l)
    rw [hF] at C
    clear hr hl hR hF b1 N hkx
    go_enter Try.func44, Try.ntmps44
    go_wp2_with fail
    rw [HKX.out]
    generalize w.alloc (.cells #[.int .i64 L, .int .i64 P, .slice A d.length c] 53) = v at *
    have S0 : Below v.heap.size v v.drew := (Below.refl _ _).drew
    have HM : Hid (∀ V, Below v.heap.size v V → V.cell? ⟨kx, 1, none⟩ = some (.int .i64 P) ∧ V.cell? ⟨kx, 0, none⟩ = some (.int .i64 L) ∧ V.cell? ⟨kx, 0 + 1, none⟩ = some (.int .i64 P) ∧ V.cell? ⟨kx, 0 + 2, none⟩ = some (.slice A d.length c)) := fun V hV => by
      have q := (HN.out.bel hV).cell
      exact ⟨by rw [q]; rfl, by rw [q]; rfl, by rw [q]; rfl, by rw [q]; rfl⟩
    obtain ⟨x0, x1, x2, x3⟩ := HM.out _ S0
    have CO := Lib.hid (C.out _ (bt HB.out S0))
    clear C
    go_region_law
      (first
        | ((rw [if_pos (by simp [Region.wanted])]; go_simp; go_at_call 46; (with_reducible refine CO.out.mono ?_); rintro e w5 ⟨A5, c5, rfl, ho5, hb5⟩; have S5 := Lib.hid (bt S0 hb5); obtain ⟨y0, y1, y2, y3⟩ := HM.out _ S5.out; clear ho5 hb5)))
    all_goals
      go_wp2_with fail
      go_ret
      exact ⟨rfl, bt HB.out S5.out⟩
end Go.Proofs.Ytfbbgoahipejlaa.L10
