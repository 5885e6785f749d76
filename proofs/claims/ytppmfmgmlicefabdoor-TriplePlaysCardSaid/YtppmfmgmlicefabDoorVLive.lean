/- The first check of every statement of stage 7 ('lives'): a register of one word, a write and a read, access by access. -/
import Derived.Test.YtppmfmgmlicefabDoorVAll
import Derived.Test.YtppmfmgmlicefabDoorIvRow
namespace Go.Proofs.YtppmfmgmlicefabDoor.T3
open Go.RowKit Go.Proofs.YtppmfmgmlicefabDoor Go.Proofs.YtppmfmgmlicefabDoor.G Go.Proofs.YtppmfmgmlicefabDoor.Cell
attribute [local go_sem ↓] Go.wp_at_zero Go.wp_at_succ
set_option maxRecDepth 100000
variable {w w' : World} {br : Nat} {s : St} {c : Int} {F : Nat → Prop}

def lvA : St := wBegin (s0 1) [7]
def lvB : St := rBegin lvA
def lvC : St := wStep lvB
def lvD : St := wStep lvC
def lvE : St := rStep lvD
def lvF : St := rStep lvE
def lvG : St := rStep lvF
theorem lvA_c : wCode (s0 1) [7] = 0 := by kernel_rfl
theorem lvB_c : rCode lvA = 0 := by kernel_rfl
theorem lvC_f : wDone lvC = true ∧ wErr lvC = 0 := ⟨by kernel_rfl, by kernel_rfl⟩
theorem lvF_f : rDone lvF = true ∧ rErr lvF = 0 ∧ rOut lvF = [7] := ⟨by kernel_rfl, by kernel_rfl, by kernel_rfl⟩
theorem lvG_b : lvG.b = 0 := by kernel_rfl
set_option maxHeartbeats 2000000 in
theorem lives_any (hg : Et w) : Calls Tryd.prog 26 #[] w fun e w' => e = .returned (.bool true) ∧ Below w.heap.size w w' := by
  have HG := Lib.hid hg
  clear hg
  go_enter Tryd.func26, Tryd.ntmps26
  go_wp2_with fail
  refine (rnew_any 1 (by omega)).mono ?_
  rintro e w1 ⟨br, rfl, hr1, hb1⟩
  have hr1 : RegX w1 br (s0 1) 0 (Fr w.heap.size) := hr1
  have b2 := b01 w1 (.cells #[.int .i64 7] 3)
  have HR2 := Lib.hid (hr1.below b2)
  have HB2 := Lib.hid (bt hb1 b2)
  have HRow : Hid (Row (w1.alloc (.cells #[.int .i64 7] 3)) (some ⟨w1.heap.size, 0, none⟩) (iv' [7])) := Row.of_blk (Blk.new w1 3 #[.int .i64 7]) fun j u hj => by simpa [iv'] using hj
  clear hr1 hb1 b2
  unfold P
  go_wp2_with fail
  refine (wwrite_any (cp := 1) HR2.out HRow.out).mono ?_
  rintro e w3 ⟨rfl, hr3, hO3⟩
  rw [lvA_c]
  have HR3 : Hid (RegX w3 br lvA 0 (Fr w.heap.size)) := hr3.fr HB2.out.size
  have HB3 := Lib.hid (Only.fr HB2.out hO3 HB2.out.size)
  clear hr3 hO3
  go_wp2_with fail
  refine (rread_any HR3.out).mono ?_
  rintro e w4 ⟨rfl, hr4, hO4⟩
  rw [lvB_c]
  have HR4 : Hid (RegX w4 br lvB 0 (Fr w.heap.size)) := hr4.fr HB3.out.size
  have HB4 := Lib.hid (Only.fr HB3.out hO4 HB3.out.size)
  clear hr4 hO4
  go_wp2_with fail
  refine (wstep_any HR4.out (by omega)).mono ?_
  rintro e w5 ⟨rfl, hr5, hO5⟩
  have HR5 : Hid (RegX w5 br lvC 1 (Fr w.heap.size)) := hr5
  have HB5 := Lib.hid (Only.fr HB4.out hO5 HB4.out.size)
  clear hr5 hO5
  go_wp2_with fail
  refine (wstep_any HR5.out (by omega)).mono ?_
  rintro e w6 ⟨rfl, hr6, hO6⟩
  rw [lvC_f.1, lvC_f.2]
  have HR6 : Hid (RegX w6 br lvD 2 (Fr w.heap.size)) := hr6
  have HB6 := Lib.hid (Only.fr HB5.out hO6 HB5.out.size)
  clear hr6 hO6
  go_wp2_with fail
  refine (rstep_any HR6.out (by omega)).mono ?_
  rintro e w7 ⟨v7, rfl, _, hr7, hO7⟩
  have HR7 : Hid (RegX w7 br lvE 3 (Fr w.heap.size)) := hr7
  have HB7 := Lib.hid (Only.fr HB6.out hO7 HB6.out.size)
  clear hr7 hO7
  go_wp2_with fail
  refine (rstep_any HR7.out (by omega)).mono ?_
  rintro e w8 ⟨v8, rfl, _, hr8, hO8⟩
  have HR8 : Hid (RegX w8 br lvF 4 (Fr w.heap.size)) := hr8
  have HB8 := Lib.hid (Only.fr HB7.out hO8 HB7.out.size)
  clear hr8 hO8
  go_wp2_with fail
  refine (rstep_any HR8.out (by omega)).mono ?_
  rintro e w9 ⟨v9, rfl, ho, hr9, hO9⟩
  rw [lvF_f.1, lvF_f.2.1]
  rw [lvF_f.2.2] at ho
  have HR9 : Hid (RegX w9 br lvG 5 (Fr w.heap.size)) := hr9
  have HB9 := Lib.hid (Only.fr HB8.out hO9 HB8.out.size)
  obtain ⟨A, cp, rfl, hc1, hc2, hrow⟩ := ho.row
  have HRa := Lib.hid (hrow.alloc (.cells #[.int .i64 7] 3))
  have HRb : Hid (Row (w9.alloc (.cells #[.int .i64 7] 3)) (some ⟨w9.heap.size, 0, none⟩) (C04.ivs [7])) := Row.of_blk (Blk.new w9 3 #[.int .i64 7]) fun j u hj => by simpa [C04.ivs, C04.iv] using hj
  have HBz := Lib.hid (ba1 HB9.out (.cells #[.int .i64 7] 3))
  have HRz := Lib.hid (HR9.out.below (b01 w9 (.cells #[.int .i64 7] 3)))
  clear hr9 hO9 hrow HR2 HB2 HRow HR3 HB3 HR4 HB4 HR5 HB5 HR6 HB6 HR7 HB7 HR8 HB8 HR9 HB9 ho
  go_wp2_with fail
  refine (C04.rsame1_any (l := [7]) (r := [7]) (c := cp) (d := 1) HRa.out HRb.out (by simp) (by simp)).mono ?_
  rintro e w6 ⟨rfl, m6, rfl⟩
  rw [show C04.eqb [(7 : Int)] [7] = true from rfl]
  have HRy : Hid (RegX ((w9.alloc (.cells #[.int .i64 7] 3)).drewN m6) br lvG 5 (Fr w.heap.size)) := HRz.out.below (bn (Below.refl _ _) m6)
  have HO := Lib.hid (wown_any HRy.out)
  rw [lvG_b] at HO
  clear HRa HRb HRz HRy
  go_wp2_with fail
  refine HO.out.mono ?_
  rintro e w7 ⟨rfl, rfl⟩
  go_wp2_with fail
  go_ret
  exact ⟨rfl, bn HBz.out m6⟩
end Go.Proofs.YtppmfmgmlicefabDoor.T3
