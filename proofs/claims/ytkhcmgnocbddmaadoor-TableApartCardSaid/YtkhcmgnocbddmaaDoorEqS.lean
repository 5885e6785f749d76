/- Two windows, two channels, compared; slices.Equal of windows and of channels: contracts. -/
import Derived.Test.YtkhcmgnocbddmaaDoorEq
import Derived.Test.YtkhcmgnocbddmaaDoorKind
namespace Go.Proofs.YtkhcmgnocbddmaaDoor.C04
open Go.RowKit Go.Proofs.YtkhcmgnocbddmaaDoor.G

def Win.val (x : Win) : Value := .agg #[.int .i64 x.o, .int .i64 x.s, .int .i64 x.l]
theorem run_eqw (x y : Win) (w : World) : (Op.equalIn 10000 54 x.val y.val).run Tryd.prog w = .ok (decide (x = y)) w := by
  have hu : Tryd.prog.underlying 54 = some (.struct (Tryd.prog.fieldsOf 54)) := by kernel_rfl
  have hp : Tryd.prog.stoodInHeld 54 = false := by kernel_rfl
  have u3 := Tryd.underlying3
  unfold Win.val
  obtain ⟨a, b, c⟩ := x
  obtain ⟨a', b', c'⟩ := y
  rw [run_equalIn_struct w 9999 54 _ _ hu hp]
  by_cases h1 : a = a' <;> by_cases h2 : b = b' <;> by_cases h3 : c = c' <;> simp [go_sem, h1, h2, h3]
theorem run_neqw (x y : Win) (w : World) : (binOp .neq 54 x.val y.val).run Tryd.prog w = .ok (.bool (!decide (x = y))) w := by
  have h := run_eqw x y w
  unfold Win.val at h ⊢
  rw [run_neq_struct, h]; rfl
theorem run_eqc (x y : Chn) (w : World) : (Op.equalIn 10000 56 x.val y.val).run Tryd.prog w = .ok (decide (x = y)) w := by
  have hu : Tryd.prog.underlying 56 = some (.struct (Tryd.prog.fieldsOf 56)) := by kernel_rfl
  have hp : Tryd.prog.stoodInHeld 56 = false := by kernel_rfl
  have u3 := Tryd.underlying3
  unfold Chn.val
  obtain ⟨a0, a1, a2, a3, a4, a5, a6, a7, a8, a9, a10⟩ := x
  obtain ⟨b0, b1, b2, b3, b4, b5, b6, b7, b8, b9, b10⟩ := y
  rw [run_equalIn_struct w 9999 56 _ _ hu hp]
  by_cases h0 : a0 = b0
  case neg => simp [go_sem, h0]
  by_cases h1 : a1 = b1
  case neg => simp [go_sem, h0, h1]
  by_cases h2 : a2 = b2
  case neg => simp [go_sem, h0, h1, h2]
  by_cases h3 : a3 = b3
  case neg => simp [go_sem, h0, h1, h2, h3]
  by_cases h4 : a4 = b4
  case neg => simp [go_sem, h0, h1, h2, h3, h4]
  by_cases h5 : a5 = b5
  case neg => simp [go_sem, h0, h1, h2, h3, h4, h5]
  by_cases h6 : a6 = b6
  case neg => simp [go_sem, h0, h1, h2, h3, h4, h5, h6]
  by_cases h7 : a7 = b7
  case neg => simp [go_sem, h0, h1, h2, h3, h4, h5, h6, h7]
  by_cases h8 : a8 = b8
  case neg => simp [go_sem, h0, h1, h2, h3, h4, h5, h6, h7, h8]
  by_cases h9 : a9 = b9
  case neg => simp [go_sem, h0, h1, h2, h3, h4, h5, h6, h7, h8, h9]
  by_cases h10 : a10 = b10
  case neg => simp [go_sem, h0, h1, h2, h3, h4, h5, h6, h7, h8, h9, h10]
  simp [go_sem, h0, h1, h2, h3, h4, h5, h6, h7, h8, h9, h10]
theorem run_neqc (x y : Chn) (w : World) : (binOp .neq 56 x.val y.val).run Tryd.prog w = .ok (.bool (!decide (x = y))) w := by
  have h := run_eqc x y w
  unfold Chn.val at h ⊢
  rw [run_neq_struct, h]; rfl
set_option maxHeartbeats 1000000 in
theorem eqw_any {w : World} {A B : Option Addr} {c d : Nat} {l r : List Win} (ha : Row w A (wvs l)) (hb : Row w B (wvs r)) (hc : l.length ≤ 9223372036854775807) (hd : r.length ≤ 9223372036854775807) :
    Calls Tryd.prog 72 #[.slice A l.length c, .slice B r.length d] w (QPost (eqb l r) w) := by
  unfold eqb
  have HA := Lib.hid ha
  have HB := Lib.hid hb
  clear ha hb
  by_cases hl : l.length = r.length
  · have HL := Lib.hid hl
    have t0 : ((l.length : Int) != (r.length : Int)) = false := by rw [bne_eq_false_iff_eq]; omega
    clear hl
    go_enter Tryd.func72, Tryd.ntmps72
    go_wp2
    go_loopw [13] (fun i wr => InvE w l r i wr) (fun i _ => l.length - (intOf i).toNat)
    case atStart => exact ⟨0, 0, rfl, by omega, rfl, rfl⟩
    case round =>
      obtain ⟨k, m, rfl, hk, ht, hw⟩ := hrel
      have HT := Lib.hid ht
      have HW := Lib.hid hw
      clear ht hw
      by_cases hlt : k < l.length
      · obtain ⟨x, hx, _⟩ := drop_cons hlt
        obtain ⟨y, hy, _⟩ := drop_cons (l := r) (k := k) (by rw [← HL.out]; exact hlt)
        obtain ⟨b1, o1, rfl, _, g1, g2, g3⟩ := row_win (w := wr) (by rw [HW.out]; exact HA.out.drewN m) hx
        obtain ⟨b2, o2, rfl, _, i1, i2, i3⟩ := row_win (w := wr) (by rw [HW.out]; exact HB.out.drewN m) hy
        have HX := Lib.hid hx
        have HY := Lib.hid hy
        have hr : (k : Int) < (r.length : Int) := by have := HL.out; omega
        have f0 : (0 : Int) ≤ (k : Int) := by omega
        clear hx hy HA HB
        by_cases hxy : x = y
        · have t1 : ∀ W, (binOp .neq 54 x.val y.val).run Tryd.prog W = .ok (.bool false) W := fun W => by rw [run_neqw, decide_eq_true hxy]; rfl
          have HN := Lib.hid hxy; clear hxy
          unfold Win.val at t1
          go_wp2
          go_quiet (fail)
          go_wp2
          go_roundw
          case rel => exact ⟨k + 1, m + nq, by go_num, by omega, drop_eq hlt HL.out HT.out HX.out HY.out HN.out, by rw [HW.out, World.drewN_drewN]⟩
          case measure => simp [intOf]; omega
        · have t1 : ∀ W, (binOp .neq 54 x.val y.val).run Tryd.prog W = .ok (.bool true) W := fun W => by rw [run_neqw, decide_eq_false hxy]; rfl
          unfold Win.val at t1
          have HN := Lib.hid hxy; clear hxy
          go_wp2
          go_quiet (fail)
          go_wp2
          go_ret
          refine ⟨?_, m + nq, by rw [HW.out, World.drewN_drewN]⟩
          have : ¬ l = r := by
            intro e
            have h1 := HX.out; rw [e, HY.out] at h1
            exact HN.out (Option.some.inj h1).symm
          rw [decide_eq_false this]; rfl
      · go_wp2
        go_ret
        refine ⟨?_, m, HW.out⟩
        have h1 := HT.out
        rw [List.take_of_length_le (by omega), List.take_of_length_le (by have := HL.out; omega)] at h1
        rw [decide_eq_true h1]; rfl
  · have HD : Hid (decide (l = r) = false) := by show decide (l = r) = false; exact decide_eq_false (fun e => hl (by rw [e]))
    have t0 : ((l.length : Int) != (r.length : Int)) = true := by rw [bne_iff_ne]; omega
    clear hl
    go_enter Tryd.func72, Tryd.ntmps72
    go_wp2
    go_ret
    exact ⟨by rw [HD.out]; rfl, 0, rfl⟩
set_option maxHeartbeats 1000000 in
theorem eqc_any {w : World} {A B : Option Addr} {c d : Nat} {l r : List Chn} (ha : Row w A (cvs l)) (hb : Row w B (cvs r)) (hc : l.length ≤ 9223372036854775807) (hd : r.length ≤ 9223372036854775807) :
    Calls Tryd.prog 73 #[.slice A l.length c, .slice B r.length d] w (QPost (eqb l r) w) := by
  unfold eqb
  have HA := Lib.hid ha
  have HB := Lib.hid hb
  clear ha hb
  by_cases hl : l.length = r.length
  · have HL := Lib.hid hl
    have t0 : ((l.length : Int) != (r.length : Int)) = false := by rw [bne_eq_false_iff_eq]; omega
    clear hl
    go_enter Tryd.func73, Tryd.ntmps73
    go_wp2
    go_loopw [13] (fun i wr => InvE w l r i wr) (fun i _ => l.length - (intOf i).toNat)
    case atStart => exact ⟨0, 0, rfl, by omega, rfl, rfl⟩
    case round =>
      obtain ⟨k, m, rfl, hk, ht, hw⟩ := hrel
      have HT := Lib.hid ht
      have HW := Lib.hid hw
      clear ht hw
      by_cases hlt : k < l.length
      · obtain ⟨x, hx, _⟩ := drop_cons hlt
        obtain ⟨y, hy, _⟩ := drop_cons (l := r) (k := k) (by rw [← HL.out]; exact hlt)
        obtain ⟨b1, o1, rfl, _, g0, g1, g2, g3, g4, g5, g6, g7, g8, g9, g10⟩ := row_chn (w := wr) (by rw [HW.out]; exact HA.out.drewN m) hx
        obtain ⟨b2, o2, rfl, _, i0, i1, i2, i3, i4, i5, i6, i7, i8, i9, i10⟩ := row_chn (w := wr) (by rw [HW.out]; exact HB.out.drewN m) hy
        have HX := Lib.hid hx
        have HY := Lib.hid hy
        have hr : (k : Int) < (r.length : Int) := by have := HL.out; omega
        have f0 : (0 : Int) ≤ (k : Int) := by omega
        clear hx hy HA HB
        by_cases hxy : x = y
        · have t1 : ∀ W, (binOp .neq 56 x.val y.val).run Tryd.prog W = .ok (.bool false) W := fun W => by rw [run_neqc, decide_eq_true hxy]; rfl
          have HN := Lib.hid hxy; clear hxy
          unfold Chn.val at t1
          go_wp2
          go_quiet (fail)
          go_wp2
          go_roundw
          case rel => exact ⟨k + 1, m + nq, by go_num, by omega, drop_eq hlt HL.out HT.out HX.out HY.out HN.out, by rw [HW.out, World.drewN_drewN]⟩
          case measure => simp [intOf]; omega
        · have t1 : ∀ W, (binOp .neq 56 x.val y.val).run Tryd.prog W = .ok (.bool true) W := fun W => by rw [run_neqc, decide_eq_false hxy]; rfl
          unfold Chn.val at t1
          have HN := Lib.hid hxy; clear hxy
          go_wp2
          go_quiet (fail)
          go_wp2
          go_ret
          refine ⟨?_, m + nq, by rw [HW.out, World.drewN_drewN]⟩
          have : ¬ l = r := by
            intro e
            have h1 := HX.out; rw [e, HY.out] at h1
            exact HN.out (Option.some.inj h1).symm
          rw [decide_eq_false this]; rfl
      · go_wp2
        go_ret
        refine ⟨?_, m, HW.out⟩
        have h1 := HT.out
        rw [List.take_of_length_le (by omega), List.take_of_length_le (by have := HL.out; omega)] at h1
        rw [decide_eq_true h1]; rfl
  · have HD : Hid (decide (l = r) = false) := by show decide (l = r) = false; exact decide_eq_false (fun e => hl (by rw [e]))
    have t0 : ((l.length : Int) != (r.length : Int)) = true := by rw [bne_iff_ne]; omega
    clear hl
    go_enter Tryd.func73, Tryd.ntmps73
    go_wp2
    go_ret
    exact ⟨by rw [HD.out]; rfl, 0, rfl⟩
end Go.Proofs.YtkhcmgnocbddmaaDoor.C04
