/- The first check of every statement of stage 8 ('lives'): a ring of one place and one word, one push, and one that is refused. -/
import Derived.Test.YtpoidnajhcjmcaaDoorRX2
import Derived.Test.YtpoidnajhcjmcaaDoorIvRow
import Derived.Deep.DeepCutAuto
namespace Go.Proofs.YtpoidnajhcjmcaaDoor.R8
open Go.RowKit Go.Proofs.YtpoidnajhcjmcaaDoor Go.Proofs.YtpoidnajhcjmcaaDoor.G Go.Proofs.YtpoidnajhcjmcaaDoor.Cell Go.Proofs.YtpoidnajhcjmcaaDoor.Ob
set_option maxRecDepth 100000
variable {w w' : World} {br : Nat} {s : St} {c : Int} {F : Nat → Prop}

theorem RegX.fr {n m : Nat} (h : RegX w br s c (Gr (Fr n) m)) (hm : n ≤ m) : RegX w br s c (Fr n) := h.mono (fun _ hb => hb.elim id fun h2 => Nat.le_trans hm h2) (Int.le_refl _)
def it : Nat → St → St
  | 0, s => s
  | n + 1, s => uStep (it n s)
def lvA : St := uBegin (s0 1 1) [7]
def lvB : St := it 3 lvA
def lvC : St := uStep lvB
def lvD : St := uBegin lvC [8]
def lvE : St := uStep lvD
def lvF : St := uStep lvE
theorem lvA_c : uCode (s0 1 1) [7] = 0 := by kernel_rfl
theorem lvB_f : uOver lvB = true ∧ uErr lvB = 0 := ⟨by kernel_rfl, by kernel_rfl⟩
theorem lvC_c : uCode lvC [8] = 0 := by kernel_rfl
theorem lvE_f : uOver lvE = true ∧ uErr lvE = 2 := ⟨by kernel_rfl, by kernel_rfl⟩
theorem lvF_n : cnt lvF = 1 := by kernel_rfl
def LvI (w : World) (br : Nat) (i : Value) (V : World) : Prop := ∃ k : Nat, i = .int .i64 k ∧ k ≤ 3 ∧ RegX V br (it k lvA) k (Fr w.heap.size) ∧ Below w.heap.size w V
set_option maxHeartbeats 2000000 in
theorem lives_any (w : World) : Calls Tryd.prog 50 #[] w fun e w' => e = .returned (.bool true) ∧ Below w.heap.size w w' := by
  go_enter Tryd.func50, Tryd.ntmps50
  go_wp2_with fail
  refine (rnew_any 1 1 (by omega) (by omega)).mono ?_
  rintro e w1 ⟨br, rfl, hr1, hb1⟩
  have hr1 : RegX w1 br (s0 1 1) 0 (Fr w.heap.size) := hr1
  have b2 := b01 w1 (.cells #[.int .i64 7] 3)
  have HR2 := Lib.hid (hr1.below b2)
  have HB2 := Lib.hid (bt hb1 b2)
  have HRow : Hid (Row (w1.alloc (.cells #[.int .i64 7] 3)) (some ⟨w1.heap.size, 0, none⟩) (iv' [7])) := Row.of_blk (Blk.new w1 3 #[.int .i64 7]) fun j u hj => by simpa [iv'] using hj
  clear hr1 hb1 b2
  unfold P
  go_wp2_with fail
  refine (push_any (cp := 1) HR2.out HRow.out).mono ?_
  rintro e w3 ⟨rfl, hr3, hO3⟩
  rw [lvA_c]
  have HR3 : Hid (RegX w3 br lvA 0 (Fr w.heap.size)) := hr3.fr HB2.out.size
  have HB3 := Lib.hid (Only.fr HB2.out hO3 HB2.out.size)
  clear hr3 hO3
  go_wp2_with fail
  go_loopw [3] (fun i V => LvI w br i V) (fun i _ => 3 - (intOf i).toNat)
  case atStart => exact ⟨0, rfl, by omega, HR3.out, HB3.out⟩
  case round =>
    obtain ⟨k, rfl, hk, hr, hb⟩ := hrel
    have HR := Lib.hid hr
    have HB := Lib.hid hb
    clear HR3 HB3 hr hb
    by_cases hlt : k < 3
    · go_wp2_with fail
      refine (ustep_any HR.out (by omega)).mono ?_
      rintro e w5 ⟨rfl, hr5, hO5⟩
      go_wp2_with fail
      go_roundw
      case rel => exact ⟨k + 1, by go_num, by omega, hr5, Only.fr HB.out hO5 HB.out.size⟩
      case measure => simp [intOf]; omega
    · obtain rfl : k = 3 := by omega
      have HR5 : Hid (RegX wr br lvB 3 (Fr w.heap.size)) := HR.out
      clear HR
      go_wp2_with fail
      refine (ustep_any HR5.out (by omega)).mono ?_
      rintro e w6 ⟨rfl, hr6, hO6⟩
      rw [lvB_f.1, lvB_f.2]
      have hb6 := Only.fr HB.out hO6 HB.out.size
      have hr6 : RegX w6 br lvC 4 (Fr w.heap.size) := hr6
      have b7 := b01 w6 (.cells #[.int .i64 8] 3)
      have HR7 := Lib.hid (hr6.below b7)
      have HB7 := Lib.hid (bt hb6 b7)
      have HRow7 : Hid (Row (w6.alloc (.cells #[.int .i64 8] 3)) (some ⟨w6.heap.size, 0, none⟩) (iv' [8])) := Row.of_blk (Blk.new w6 3 #[.int .i64 8]) fun j u hj => by simpa [iv'] using hj
      clear hr6 hb6 b7 hO6 HB
      go_wp2_with fail
      refine (push_any (cp := 1) HR7.out HRow7.out).mono ?_
      rintro e w8 ⟨rfl, hr8, hO8⟩
      rw [lvC_c]
      have HR8 : Hid (RegX w8 br lvD 4 (Fr w.heap.size)) := hr8.fr HB7.out.size
      have HB8 := Lib.hid (Only.fr HB7.out hO8 HB7.out.size)
      clear hr8 hO8
      go_wp2_with fail
      refine (ustep_any HR8.out (by omega)).mono ?_
      rintro e w9 ⟨rfl, hr9, hO9⟩
      have HR9 : Hid (RegX w9 br lvE 5 (Fr w.heap.size)) := hr9
      have HB9 := Lib.hid (Only.fr HB8.out hO9 HB8.out.size)
      clear hr9 hO9
      go_wp2_with fail
      refine (ustep_any HR9.out (by omega)).mono ?_
      rintro e wa ⟨rfl, hra, hOa⟩
      rw [lvE_f.1, lvE_f.2]
      have HRa : Hid (RegX wa br lvF 6 (Fr w.heap.size)) := hra
      have HBa := Lib.hid (Only.fr HB9.out hOa HB9.out.size)
      clear hra hOa
      go_wp2_with fail
      refine (rcount_any HRa.out).mono ?_
      rintro e wb ⟨rfl, hbb⟩
      rw [lvF_n]
      go_wp2_with fail
      go_ret
      exact ⟨rfl, bt HBa.out hbb⟩
end Go.Proofs.YtpoidnajhcjmcaaDoor.R8
