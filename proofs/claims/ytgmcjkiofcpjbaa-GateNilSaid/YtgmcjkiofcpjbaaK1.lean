/- A bucket: New, Most, and coming to a round: contracts. -/
import Derived.Test.YtgmcjkiofcpjbaaK0
import Derived.Deep.QuietTactic
import Derived.BigQuiet
import Derived.Deep.RegionHeld3
import Derived.StillTailTactics
import Derived.IntWalk
import Derived.Deep.CutRange
import Derived.Deep.DeepCutAuto
namespace Go.Proofs.Ytgmcjkiofcpjbaa.K11
open Go.RowKit Go.Proofs.Ytgmcjkiofcpjbaa.G Go.Proofs.Ytgmcjkiofcpjbaa.Sat
set_option maxRecDepth 100000
variable {w w' : World} {b : Nat} {R C T N r : Int}
def rof (n : Int) : Int := min (max n 0) 64
def cof (n : Int) : Int := min (max n 1) 64
theorem rof_bd (n : Int) : 0 ≤ rof n ∧ rof n ≤ 64 := by unfold rof; omega
theorem cof_bd (n : Int) : 1 ≤ cof n ∧ cof n ≤ 64 := by unfold cof; omega
theorem rateOf_any (n : Int) (w : World) : Calls Try.prog 61 #[.int .i64 n] w fun e w' => e = .returned (.int .i64 (rof n)) ∧ w = w' := by
  obtain ⟨x, hx, hx'⟩ : ∃ x, rof n = x ∧ ((n < 0 ∧ x = 0) ∨ (0 ≤ n ∧ n ≤ 64 ∧ x = n) ∨ (0 ≤ n ∧ 64 < n ∧ x = 64)) := ⟨_, rfl, by unfold rof; omega⟩
  rw [hx]
  clear hx
  rcases hx' with ⟨h1, rfl⟩ | ⟨h1, h2, rfl⟩ | ⟨h1, h2, rfl⟩
  all_goals
    go_enter Try.func61, Try.ntmps61
    go_wp2
    go_ret
    exact ⟨rfl, rfl⟩
theorem capOf_any (n : Int) (w : World) : Calls Try.prog 62 #[.int .i64 n] w fun e w' => e = .returned (.int .i64 (cof n)) ∧ w = w' := by
  obtain ⟨x, hx, hx'⟩ : ∃ x, cof n = x ∧ ((n < 1 ∧ x = 1) ∨ (1 ≤ n ∧ n ≤ 64 ∧ x = n) ∨ (1 ≤ n ∧ 64 < n ∧ x = 64)) := ⟨_, rfl, by unfold cof; omega⟩
  rw [hx]
  clear hx
  rcases hx' with ⟨h1, rfl⟩ | ⟨h1, h2, rfl⟩ | ⟨h1, h2, rfl⟩
  all_goals
    go_enter Try.func62, Try.ntmps62
    go_wp2
    go_ret
    exact ⟨rfl, rfl⟩
theorem ok_new (r c : Int) : Ok (rof r) (cof c) (cof c) 0 := by
  have h1 := rof_bd r
  have h2 := cof_bd c
  exact ⟨h1.1, h1.2, h2.1, h2.2, by omega, by omega, by decide, by decide⟩
def NewPost (w : World) (R C : Int) (e : Ending) (w' : World) : Prop := ∃ b, e = .returned (.pointer (some ⟨b, 0, none⟩)) ∧ Bk w' b R C C 0 ∧ w.heap.size ≤ b ∧ Below w.heap.size w w'
theorem new_any (r c : Int) (w : World) : Calls Try.prog 36 #[.int .i64 r, .int .i64 c] w (NewPost w (rof r) (cof c)) := by
  have HO := Lib.hid (ok_new r c)
  have C1 := Lib.hid (rateOf_any r w)
  have C2 := Lib.hid (capOf_any c w)
  generalize rof r = R at *
  generalize cof c = C at *
  go_enter Try.func36, Try.ntmps36
  go_wp2_with (first | (go_at_call 61; refine C1.out.mono ?_; rintro e w' ⟨rfl, rfl⟩) | (go_at_call 62; refine C2.out.mono ?_; rintro e w' ⟨rfl, rfl⟩))
  go_ret
  exact ⟨_, rfl, ⟨Blk.new _ _ _, HO.out⟩, Nat.le_refl _, b01 _ _⟩
def CoPost (b : Nat) (R C T N : Int) (w : World) (e : Ending) (w' : World) : Prop := e = .returned (.tuple #[]) ∧ Bk w' b R C T N ∧ Ob b w w'
set_option maxHeartbeats 2000000 in
theorem come_any (h : Bk w b R C T N) (r : Int) : Calls Try.prog 78 #[.pointer (some ⟨b, 0, none⟩), .int .i64 r] w (CoPost b R C (ctok R C T N r) (crnd N r) w) := by
  have HK := Lib.hid (h.ok.come r)
  have HH := Lib.hid h
  obtain ⟨p0, p1, p2, p3⟩ := h.cells
  have fz := h.frozen
  unfold ctok crnd at HK ⊢
  generalize hX : cut r = X at *
  generalize hD : sub r N = D at *
  generalize hM : mul R D = M at *
  generalize hA : add T M = A at *
  have S1 := Lib.hid (fun V => sub_any r N V)
  have S2 := Lib.hid (fun V => mul_any R D V)
  have S3 := Lib.hid (fun V => add_any T M V)
  have S4 := Lib.hid (fun V => cut_any r V)
  rw [hD] at S1
  rw [hM] at S2
  rw [hA] at S3
  rw [hX] at S4
  clear hX hD hM hA h
  have hC := HK.out
  obtain ⟨Y, hY, hY'⟩ : ∃ Y, min A C = Y ∧ ((A ≤ C ∧ Y = A) ∨ (C < A ∧ Y = C)) := ⟨_, rfl, by omega⟩
  obtain ⟨Z, hZ, hZ'⟩ : ∃ Z, max N X = Z ∧ ((N < X ∧ Z = X) ∨ (X ≤ N ∧ Z = N)) := ⟨_, rfl, by omega⟩
  rw [hY, hZ] at HK hC ⊢
  have HY : Hid (Ok R C Y N) := ⟨hC.r0, hC.r1, hC.c0, hC.c1, hC.t0, hC.t1, HH.out.ok.n0, HH.out.ok.n1⟩
  clear hY hZ hC
  rcases hY' with ⟨h1, rfl⟩ | ⟨h1, rfl⟩
  all_goals
    rcases hZ' with ⟨h3, rfl⟩ | ⟨h3, rfl⟩
  all_goals
    go_enter Try.func78, Try.ntmps78
    go_wp2_with fail
    go_quiet (first | (go_at_call 83; exact quiet_left (S1.out _)) | (go_at_call 82; exact quiet_left (S2.out _)))
    have HH1 := Lib.hid (HH.out.below (bn (Below.refl _ _) nq))
    have HO1 : Hid (Ob b w (w.drewN nq)) := (Ob.refl b w).drewN nq
    generalize w.drewN nq = W at *
    clear p0 p1 p2 p3 fz
    obtain ⟨p0, p1, p2, p3⟩ := HH1.out.cells
    have fz := HH1.out.frozen
    go_upto_region 1 with fail
    go_still_tail 12, (by kernel_rfl)
    still_call ((S3.out _).mono fun e w' h => ⟨h.1, h.2.symm⟩)
    repeat still_step
    refine wpStill_nil ?_
    have B1 := (HH1.out.tok _ HY.out).below (Below.refl _ _).drew
    have O1 := (HO1.out.set_ 2 (.int .i64 Y)).drew
    go_upto_region 2 with fail
    generalize (W.setCell ⟨b, 2, none⟩ (.int .i64 Y)).drew = V at *
    have HB := Lib.hid (show Bk (V.setCell ⟨b, 3, none⟩ (.int .i64 Z)).drew b R _ Y Z from ⟨(B1.blk.set_ 3 (.int .i64 Z)).drewN 1, HK.out⟩)
    have HO : Hid (Ob b w (V.setCell ⟨b, 3, none⟩ (.int .i64 Z)).drew) := (O1.set_ 3 (.int .i64 Z)).drew
    clear p0 p1 p2 p3 fz
    obtain ⟨p0, p1, p2, p3⟩ := B1.cells
    have fz := B1.frozen
    clear B1 O1
    go_still_tail 8, (by kernel_rfl)
    still_call ((S4.out _).mono fun e w' h => ⟨h.1, h.2.symm⟩)
    repeat still_step
    refine wpStill_nil ?_
    go_wp2_with fail
    exact bodyPost_end (v := .tuple #[]) (by simp [results, Try.results78, go_sem]) rfl ⟨rfl, HB.out, HO.out⟩
end Go.Proofs.Ytgmcjkiofcpjbaa.K11
