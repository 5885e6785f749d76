/- A ring: the accesses of a pop. -/
import Derived.Test.YtpoidnajhcjmcaaDoorRAcc2
namespace Go.Proofs.YtpoidnajhcjmcaaDoor.R8
open Go.RowKit Go.Proofs.YtpoidnajhcjmcaaDoor.G Go.Proofs.YtpoidnajhcjmcaaDoor.Cell Go.Proofs.YtpoidnajhcjmcaaDoor.Ob
set_option maxRecDepth 100000
variable {w w' : World} {br bm gm W D : Nat} {u o : Sv} {m : List Int} {c : Int} {F : Nat → Prop}
theorem otail_any (hh : Blk w br 132 (hd D W bm u o)) (hm : MemAt w bm gm m c) (hl : 2 ≤ m.length ∧ m.length ≤ 4096) (c0 : 0 ≤ c) (c1 : c ≤ 1099511627776) :
    Calls Tryd.prog 90 #[P br] w (AP br bm gm D W u { o with t := .int .i64 (nth m 1) } m (c + 1) w (fnV 117 br) 0) := by
  have HG := Lib.hid (get_any (i := 1) hh hm hl.2 c0 c1 1 rfl (by omega))
  have HH := Lib.hid hh
  have HM := Lib.hid hm
  clear hh hm hl c0 c1
  unfold P at HG
  unfold AP P fnV P
  go_enter Tryd.func90, Tryd.ntmps90
  go_wp2_with (go_at_call 115; refine HG.out.mono ?_; rintro e w1 ⟨rfl, hm', hk'⟩; have R1 := hd_keep HH.out HM.out hk'; have k1 := R1.cell; have f1 := R1.frozen; have z1 := R1.lt; unfold hd P at k1)
  refine bodyPost_ret (v := .tuple #[.func (.func 117) #[.pointer (some ⟨br, 0, none⟩)] #[], .int .i64 0]) (by simp [results, Tryd.results90, go_sem]) rfl ⟨rfl, mem_far hm' R1 _ _, R1.set_ 10 _, (keep3s hk' _ _)⟩
theorem ohead_full (hh : Blk w br 132 (hd D W bm u o)) (hm : MemAt w bm gm m c) (hl : 2 ≤ m.length ∧ m.length ≤ 4096) (c0 : 0 ≤ c) (c1 : c ≤ 1099511627776) (hD : 1 ≤ D ∧ D ≤ 8) {h : Int} (hu : o.t = .int .i64 h) (h1 : inD D h) (h2 : inD D (nth m 0)) (hf : held D (nth m 0) h = 0) :
    Calls Tryd.prog 117 #[P br] w (AP br bm gm D W u { o with h := .int .i64 (nth m 0) } m (c + 1) w .nilFunc 2) := by
  have HG := Lib.hid (get_any (i := 0) hh hm hl.2 c0 c1 0 rfl (by omega))
  have HH := Lib.hid hh
  have HM := Lib.hid hm
  have HE : Hid (∀ V, Blk V br 132 (hd D W bm u { o with h := .int .i64 (nth m 0) }) → Calls Tryd.prog 96 #[P br, .int .i64 (nth m 0), .int .i64 h] V fun e w' => e = .returned (.int .i64 0) ∧ V = w') := fun V hV => by
    have := held_any hV hD h2 h1
    rwa [hf] at this
  have HU := Lib.hid hu
  clear hh hm hl c0 c1 h1 h2 hf hu hD
  obtain ⟨z, hz⟩ : ∃ z, nth m 0 = z := ⟨_, rfl⟩
  rw [hz] at HG HE ⊢
  clear hz
  unfold P at HG HE
  unfold AP P
  go_enter Tryd.func117, Tryd.ntmps117
  go_wp2_with (go_at_call 115; refine HG.out.mono ?_; rintro e w1 ⟨rfl, hm', hk'⟩; have R1 := hd_keep HH.out HM.out hk'; have f1 := R1.frozen; have k1 := R1.cell; have z1 := R1.lt; unfold hd P at k1)
  have R2 := R1.set_ 9 (.int .i64 z)
  have HR : Hid (Blk (w1.setCell ⟨br, 9, none⟩ (.int .i64 z)) br 132 (hd D W bm u { o with h := .int .i64 z })) := R2
  have k2 := HR.out.cell
  unfold hd P at k2
  simp only [HU.out] at k2
  have HMF := Lib.hid (mem_far hm' R1 9 (.int .i64 z))
  have HO := Lib.hid (keep3s (o := br) hk' 9 (.int .i64 z))
  clear k1 f1 R2 hm' hk'
  generalize w1.setCell ⟨br, 9, none⟩ (.int .i64 z) = w2 at *
  go_quiet ((go_at_call 96; exact quiet_left (HE.out _ (HR.out.drewN _))))
  go_wp2
  exact bodyPost_ret (v := .tuple #[.nilFunc, .int .i64 2]) (by simp [results, Tryd.results117, go_sem]) rfl ⟨rfl, mem_drewN HMF.out _, HR.out.drewN _, HO.out.drewN _⟩
theorem ohead_go (hh : Blk w br 132 (hd D W bm u o)) (hm : MemAt w bm gm m c) (hl : 2 ≤ m.length ∧ m.length ≤ 4096) (c0 : 0 ≤ c) (c1 : c ≤ 1099511627776) (hD : 1 ≤ D ∧ D ≤ 8) {h : Int} (hu : o.t = .int .i64 h) (h1 : inD D h) (h2 : inD D (nth m 0)) (hf : held D (nth m 0) h ≠ 0) :
    Calls Tryd.prog 117 #[P br] w (AP br bm gm D W u { o with h := .int .i64 (nth m 0) } m (c + 1) w (fnV 124 br) 0) := by
  have HG := Lib.hid (get_any (i := 0) hh hm hl.2 c0 c1 0 rfl (by omega))
  have HH := Lib.hid hh
  have HM := Lib.hid hm
  have HE : Hid (∀ V, Blk V br 132 (hd D W bm u { o with h := .int .i64 (nth m 0) }) → Calls Tryd.prog 96 #[P br, .int .i64 (nth m 0), .int .i64 h] V fun e w' => e = .returned (.int .i64 (held D (nth m 0) h)) ∧ V = w') := fun V hV => by
    have := held_any hV hD h2 h1
    exact this
  have HU := Lib.hid hu
  obtain ⟨q, hq⟩ : ∃ q, held D (nth m 0) h = q := ⟨_, rfl⟩
  have t0 : (q == 0) = false := by rw [beq_eq_false_iff_ne, ← hq]; exact hf
  rw [hq] at HE
  clear hq
  clear hh hm hl c0 c1 h1 h2 hf hu hD
  obtain ⟨z, hz⟩ : ∃ z, nth m 0 = z := ⟨_, rfl⟩
  rw [hz] at HG HE ⊢
  clear hz
  unfold P at HG HE
  unfold AP P fnV P
  go_enter Tryd.func117, Tryd.ntmps117
  go_wp2_with (go_at_call 115; refine HG.out.mono ?_; rintro e w1 ⟨rfl, hm', hk'⟩; have R1 := hd_keep HH.out HM.out hk'; have f1 := R1.frozen; have k1 := R1.cell; have z1 := R1.lt; unfold hd P at k1)
  have R2 := R1.set_ 9 (.int .i64 z)
  have HR : Hid (Blk (w1.setCell ⟨br, 9, none⟩ (.int .i64 z)) br 132 (hd D W bm u { o with h := .int .i64 z })) := R2
  have k2 := HR.out.cell
  unfold hd P at k2
  simp only [HU.out] at k2
  have HMF := Lib.hid (mem_far hm' R1 9 (.int .i64 z))
  have HO := Lib.hid (keep3s (o := br) hk' 9 (.int .i64 z))
  clear k1 f1 R2 hm' hk'
  generalize w1.setCell ⟨br, 9, none⟩ (.int .i64 z) = w2 at *
  go_quiet ((go_at_call 96; exact quiet_left (HE.out _ (HR.out.drewN _))))
  go_wp2
  exact bodyPost_ret (v := .tuple #[.func (.func 124) #[.pointer (some ⟨br, 0, none⟩)] #[], .int .i64 0]) (by simp [results, Tryd.results117, go_sem]) rfl ⟨rfl, mem_drewN HMF.out _, HR.out.drewN _, HO.out.drewN _⟩
theorem olast_any (hh : Blk w br 132 (hd D W bm u o)) (hm : MemAt w bm gm m c) (hl : 2 ≤ m.length ∧ m.length ≤ 4096) (c0 : 0 ≤ c) (c1 : c ≤ 1099511627776) (hD : 1 ≤ D ∧ D ≤ 8) {h : Int} (hu : o.h = .int .i64 h) (h1 : inD D h) :
    Calls Tryd.prog 130 #[P br] w (AP br bm gm D W u o (m.set 0 (nx D h)) (c + 1) w .nilFunc 0) := by
  have hn := nx_in hD.1 h
  unfold inD at hn
  have HB := Lib.hid (behind_any hh hD h1)
  have HG := Lib.hid (put_any (i := 0) hh hm hl.2 c0 c1 0 rfl (by omega) (nx D h) (okV_mk (by omega) (by omega)))
  have HH := Lib.hid hh
  have HM := Lib.hid hm
  have k0 := hh.cell
  unfold hd P at k0
  simp only [hu] at k0
  clear hh hm hl c0 c1 h1 hD hn hu
  generalize nx D h = q at *
  unfold P at HG HB
  unfold AP P
  go_enter Tryd.func130, Tryd.ntmps130
  go_wp2_with (first
    | (go_at_call 135; refine HB.out.mono ?_; rintro e w1 ⟨rfl, rfl⟩)
    | (go_at_call 127; refine HG.out.mono ?_; rintro e w1 ⟨rfl, hm', hk'⟩))
  exact bodyPost_ret (v := .tuple #[.nilFunc, .int .i64 0]) (by simp [results, Tryd.results130, go_sem]) rfl ⟨rfl, hm', hd_keep HH.out HM.out hk', keep3 hk'⟩
end Go.Proofs.YtpoidnajhcjmcaaDoor.R8
