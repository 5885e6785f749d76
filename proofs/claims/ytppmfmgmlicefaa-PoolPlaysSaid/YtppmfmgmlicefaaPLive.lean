/- The first check of every statement of stage 9 ('lives'): a pool of two slots. -/
import Derived.Test.YtppmfmgmlicefaaPC7
namespace Go.Proofs.Ytppmfmgmlicefaa.P9
open Go.RowKit Go.Proofs.Ytppmfmgmlicefaa.G
set_option maxRecDepth 100000
variable {w w' : World} {b n : Nat} {s : SS} {t : Nat → Int} {c : Int}
def s1 : SS := upd (fun _ => none) 0 (some 5)
def s2 : SS := upd s1 1 (some 6)
def s3 : SS := upd s2 0 none
theorem low_1 : Low 2 (fun _ => none) 0 := ⟨by omega, rfl, fun j h => absurd h (by omega)⟩
theorem low_2 : Low 2 s1 1 := by
  refine ⟨by omega, rfl, fun j h => ?_⟩
  obtain rfl : j = 0 := by omega
  simp [s1, upd]
theorem low_3 : Low 2 s3 0 := ⟨by omega, rfl, fun j h => absurd h (by omega)⟩
theorem gc_1 : gcode 2 s2 0 5 = 0 := by decide
theorem gs_1 : gst 2 s2 0 5 = s3 := by unfold gst; rw [gc_1]; rfl
set_option maxHeartbeats 2000000 in
theorem lives_any (w : World) : Calls Try.prog 9 #[] w fun e w' => e = .returned (.bool true) ∧ Below w.heap.size w w' := by
  go_enter Try.func9, Try.ntmps9
  go_wp2_with fail
  refine (new_any 2 _).mono ?_
  rintro e w1 ⟨b, rfl, hp1, hb1, hB1⟩
  have HP1 : Hid (Pl w1 b 2 (fun _ => none) (fun _ => 0) 0) := hp1
  have HB : Hid (w.heap.size ≤ b) := hb1
  have HB1 := Lib.hid hB1
  clear hp1 hb1 hB1
  go_wp2_with fail
  refine (take_low HP1.out 5 low_1 (by omega)).mono ?_
  rintro e w2 ⟨rfl, hp2, hO2⟩
  have HP2 : Hid (Pl w2 b 2 s1 (upd (fun _ => 0) 0 1) 1) := hp2
  have HB2 := Lib.hid (Ob.to_below HB1.out hO2 HB1.out.size HB.out)
  clear hp2 hO2
  go_wp2_with fail
  refine (take_low HP2.out 6 low_2 (by omega)).mono ?_
  rintro e w3 ⟨rfl, hp3, hO3⟩
  have HP3 : Hid (Pl w3 b 2 s2 (upd (upd (fun _ => 0) 0 1) 1 1) 2) := hp3
  have HB3 := Lib.hid (Ob.to_below HB2.out hO3 HB2.out.size HB.out)
  clear hp3 hO3
  go_wp2_with fail
  refine (give_any HP3.out 0 5).mono ?_
  rintro e w4 ⟨rfl, hp4, hO4⟩
  rw [gc_1]
  have HP4 : Hid (Pl w4 b 2 s3 (upd (upd (fun _ => 0) 0 1) 1 1) 2) := by rw [gs_1] at hp4; exact hp4
  have HB4 := Lib.hid (Ob.to_below HB3.out hO4 HB3.out.size HB.out)
  clear hp4 hO4
  go_wp2_with fail
  refine (take_low HP4.out 7 low_3 (by omega)).mono ?_
  rintro e w5 ⟨rfl, hp5, hO5⟩
  have HP5 : Hid (Pl w5 b 2 (upd s3 0 (some 7)) (upd (upd (upd (fun _ => 0) 0 1) 1 1) 0 2) 3) := hp5
  have HB5 := Lib.hid (Ob.to_below HB4.out hO5 HB4.out.size HB.out)
  clear hp5 hO5
  go_wp2_with fail
  refine (turn_in HP5.out 0 (by omega)).mono ?_
  rintro e w6 ⟨rfl, hb6⟩
  rw [upd_eq]
  go_wp2_with fail
  go_ret
  exact ⟨rfl, bt HB5.out hb6⟩
end Go.Proofs.Ytppmfmgmlicefaa.P9
