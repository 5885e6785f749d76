/- A ring: the accesses of a push. -/
import Derived.Test.YtpoidnajhcjmcaaDoorRAcc
namespace Go.Proofs.YtpoidnajhcjmcaaDoor.R8
open Go.RowKit Go.Proofs.YtpoidnajhcjmcaaDoor.G Go.Proofs.YtpoidnajhcjmcaaDoor.Cell Go.Proofs.YtpoidnajhcjmcaaDoor.Ob
set_option maxRecDepth 100000
variable {w w' : World} {br bm gm W D : Nat} {u o : Sv} {m : List Int} {c : Int} {F : Nat → Prop}
/-- What an access leaves: the memory, the ring's struct. -/
def AP (br bm gm D W : Nat) (u o : Sv) (m : List Int) (c : Int) (w : World) (nv : Value) (n : Int) (e : Ending) (w' : World) : Prop :=
  e = .returned (.tuple #[nv, .int .i64 n]) ∧ MemAt w' bm gm m c ∧ Blk w' br 132 (hd D W bm u o) ∧ Only (O3 bm gm br) w w'
theorem hd_keep (hh : Blk w br 132 (hd D W bm u o)) (hm : MemAt w bm gm m c) (hk : Keep bm gm w w') : Blk w' br 132 (hd D W bm u o) :=
  Blk.keep hh hk (hh.ne_ hm.head (by decide)) (hh.ne_ hm.words (by decide))
theorem mem_far (hm : MemAt w bm gm m c) (hh : Blk w br 132 (hd D W bm u o)) (i : Nat) (v : Value) : MemAt (w.setCell ⟨br, i, none⟩ v) bm gm m c :=
  ⟨hm.head.far (p := ⟨br, i, none⟩) (Ne.symm (hh.ne_ hm.head (by decide))) v, hm.words.far (p := ⟨br, i, none⟩) (Ne.symm (hh.ne_ hm.words (by decide))) v⟩
theorem uhead_any (hh : Blk w br 132 (hd D W bm u o)) (hm : MemAt w bm gm m c) (hl : 2 ≤ m.length ∧ m.length ≤ 4096) (c0 : 0 ≤ c) (c1 : c ≤ 1099511627776) :
    Calls Tryd.prog 89 #[P br] w (AP br bm gm D W { u with h := .int .i64 (nth m 0) } o m (c + 1) w (fnV 116 br) 0) := by
  have HG := Lib.hid (get_any (i := 0) hh hm hl.2 c0 c1 0 rfl (by omega))
  have HH := Lib.hid hh
  have HM := Lib.hid hm
  clear hh hm hl c0 c1
  unfold P at HG
  unfold AP P fnV P
  go_enter Tryd.func89, Tryd.ntmps89
  go_wp2_with (go_at_call 115; refine HG.out.mono ?_; rintro e w1 ⟨rfl, hm', hk'⟩; have R1 := hd_keep HH.out HM.out hk'; have k1 := R1.cell; have f1 := R1.frozen; have z1 := R1.lt; unfold hd P at k1)
  refine bodyPost_ret (v := .tuple #[.func (.func 116) #[.pointer (some ⟨br, 0, none⟩)] #[], .int .i64 0]) (by simp [results, Tryd.results89, go_sem]) rfl ⟨rfl, mem_far hm' R1 _ _, R1.set_ 4 _, (keep3s hk' _ _)⟩
theorem utail_full (hh : Blk w br 132 (hd D W bm u o)) (hm : MemAt w bm gm m c) (hl : 2 ≤ m.length ∧ m.length ≤ 4096) (c0 : 0 ≤ c) (c1 : c ≤ 1099511627776) (hD : 1 ≤ D ∧ D ≤ 8) {h : Int} (hu : u.h = .int .i64 h) (h1 : inD D h) (h2 : inD D (nth m 1)) (hf : held D h (nth m 1) = (D : Int)) :
    Calls Tryd.prog 116 #[P br] w (AP br bm gm D W { u with t := .int .i64 (nth m 1) } o m (c + 1) w .nilFunc 2) := by
  have HG := Lib.hid (get_any (i := 1) hh hm hl.2 c0 c1 1 rfl (by omega))
  have HH := Lib.hid hh
  have HM := Lib.hid hm
  have HE : Hid (∀ V, Blk V br 132 (hd D W bm { u with t := .int .i64 (nth m 1) } o) → Calls Tryd.prog 96 #[P br, .int .i64 h, .int .i64 (nth m 1)] V fun e w' => e = .returned (.int .i64 D) ∧ V = w') := fun V hV => by
    have := held_any hV hD h1 h2
    rwa [hf] at this
  have HU := Lib.hid hu
  clear hh hm hl c0 c1 h1 h2 hf hu hD
  obtain ⟨z, hz⟩ : ∃ z, nth m 1 = z := ⟨_, rfl⟩
  rw [hz] at HG HE ⊢
  clear hz
  unfold P at HG HE
  unfold AP P
  go_enter Tryd.func116, Tryd.ntmps116
  go_wp2_with (go_at_call 115; refine HG.out.mono ?_; rintro e w1 ⟨rfl, hm', hk'⟩; have R1 := hd_keep HH.out HM.out hk'; have f1 := R1.frozen; have k1 := R1.cell; have z1 := R1.lt; unfold hd P at k1)
  have R2 := R1.set_ 5 (.int .i64 z)
  have HR : Hid (Blk (w1.setCell ⟨br, 5, none⟩ (.int .i64 z)) br 132 (hd D W bm { u with t := .int .i64 z } o)) := R2
  have k2 := HR.out.cell
  unfold hd P at k2
  simp only [HU.out] at k2
  have HMF := Lib.hid (mem_far hm' R1 5 (.int .i64 z))
  have HO := Lib.hid (keep3s (o := br) hk' 5 (.int .i64 z))
  clear k1 f1 R2 hm' hk'
  generalize w1.setCell ⟨br, 5, none⟩ (.int .i64 z) = w2 at *
  go_quiet ((go_at_call 96; exact quiet_left (HE.out _ (HR.out.drewN _))))
  go_wp2
  exact bodyPost_ret (v := .tuple #[.nilFunc, .int .i64 2]) (by simp [results, Tryd.results116, go_sem]) rfl ⟨rfl, mem_drewN HMF.out _, HR.out.drewN _, HO.out.drewN _⟩
theorem utail_go (hh : Blk w br 132 (hd D W bm u o)) (hm : MemAt w bm gm m c) (hl : 2 ≤ m.length ∧ m.length ≤ 4096) (c0 : 0 ≤ c) (c1 : c ≤ 1099511627776) (hD : 1 ≤ D ∧ D ≤ 8) {h : Int} (hu : u.h = .int .i64 h) (h1 : inD D h) (h2 : inD D (nth m 1)) (hf : held D h (nth m 1) ≠ (D : Int)) :
    Calls Tryd.prog 116 #[P br] w (AP br bm gm D W { u with t := .int .i64 (nth m 1) } o m (c + 1) w (fnV 123 br) 0) := by
  have HG := Lib.hid (get_any (i := 1) hh hm hl.2 c0 c1 1 rfl (by omega))
  have HH := Lib.hid hh
  have HM := Lib.hid hm
  have HE : Hid (∀ V, Blk V br 132 (hd D W bm { u with t := .int .i64 (nth m 1) } o) → Calls Tryd.prog 96 #[P br, .int .i64 h, .int .i64 (nth m 1)] V fun e w' => e = .returned (.int .i64 (held D h (nth m 1))) ∧ V = w') := fun V hV => by
    have := held_any hV hD h1 h2
    exact this
  have HU := Lib.hid hu
  obtain ⟨q, hq⟩ : ∃ q, held D h (nth m 1) = q := ⟨_, rfl⟩
  have t0 : (q == (D : Int)) = false := by rw [beq_eq_false_iff_ne, ← hq]; exact hf
  rw [hq] at HE
  clear hq
  clear hh hm hl c0 c1 h1 h2 hf hu hD
  obtain ⟨z, hz⟩ : ∃ z, nth m 1 = z := ⟨_, rfl⟩
  rw [hz] at HG HE ⊢
  clear hz
  unfold P at HG HE
  unfold AP P fnV P
  go_enter Tryd.func116, Tryd.ntmps116
  go_wp2_with (go_at_call 115; refine HG.out.mono ?_; rintro e w1 ⟨rfl, hm', hk'⟩; have R1 := hd_keep HH.out HM.out hk'; have f1 := R1.frozen; have k1 := R1.cell; have z1 := R1.lt; unfold hd P at k1)
  have R2 := R1.set_ 5 (.int .i64 z)
  have HR : Hid (Blk (w1.setCell ⟨br, 5, none⟩ (.int .i64 z)) br 132 (hd D W bm { u with t := .int .i64 z } o)) := R2
  have k2 := HR.out.cell
  unfold hd P at k2
  simp only [HU.out] at k2
  have HMF := Lib.hid (mem_far hm' R1 5 (.int .i64 z))
  have HO := Lib.hid (keep3s (o := br) hk' 5 (.int .i64 z))
  clear k1 f1 R2 hm' hk'
  generalize w1.setCell ⟨br, 5, none⟩ (.int .i64 z) = w2 at *
  go_quiet ((go_at_call 96; exact quiet_left (HE.out _ (HR.out.drewN _))))
  go_wp2
  exact bodyPost_ret (v := .tuple #[.func (.func 123) #[.pointer (some ⟨br, 0, none⟩)] #[], .int .i64 0]) (by simp [results, Tryd.results116, go_sem]) rfl ⟨rfl, mem_drewN HMF.out _, HR.out.drewN _, HO.out.drewN _⟩
theorem ulast_any (hh : Blk w br 132 (hd D W bm u o)) (hm : MemAt w bm gm m c) (hl : 2 ≤ m.length ∧ m.length ≤ 4096) (c0 : 0 ≤ c) (c1 : c ≤ 1099511627776) (hD : 1 ≤ D ∧ D ≤ 8) {h : Int} (hu : u.t = .int .i64 h) (h1 : inD D h) :
    Calls Tryd.prog 129 #[P br] w (AP br bm gm D W u o (m.set 1 (nx D h)) (c + 1) w .nilFunc 0) := by
  have hn := nx_in hD.1 h
  unfold inD at hn
  have HB := Lib.hid (behind_any hh hD h1)
  have HG := Lib.hid (put_any (i := 1) hh hm hl.2 c0 c1 1 rfl (by omega) (nx D h) (okV_mk (by omega) (by omega)))
  have HH := Lib.hid hh
  have HM := Lib.hid hm
  have k0 := hh.cell
  unfold hd P at k0
  simp only [hu] at k0
  clear hh hm hl c0 c1 h1 hD hn hu
  generalize nx D h = q at *
  unfold P at HG HB
  unfold AP P
  go_enter Tryd.func129, Tryd.ntmps129
  go_wp2_with (first
    | (go_at_call 135; refine HB.out.mono ?_; rintro e w1 ⟨rfl, rfl⟩)
    | (go_at_call 127; refine HG.out.mono ?_; rintro e w1 ⟨rfl, hm', hk'⟩))
  exact bodyPost_ret (v := .tuple #[.nilFunc, .int .i64 0]) (by simp [results, Tryd.results129, go_sem]) rfl ⟨rfl, hm', hd_keep HH.out HM.out hk', keep3 hk'⟩
end Go.Proofs.YtpoidnajhcjmcaaDoor.R8
