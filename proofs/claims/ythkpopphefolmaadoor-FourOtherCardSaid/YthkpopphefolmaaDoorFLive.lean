/- The first check of every statement of stage 6 ('lives'): a register of one word, a write and a read, access by access. -/
import Derived.Test.YthkpopphefolmaaDoorFAll
import Derived.Test.YthkpopphefolmaaDoorRSam
namespace Go.Proofs.YthkpopphefolmaaDoor.F4
open Go.RowKit Go.Proofs.YthkpopphefolmaaDoor Go.Proofs.YthkpopphefolmaaDoor.G Go.Proofs.YthkpopphefolmaaDoor.Cell
attribute [local go_sem ↓] Go.wp_at_zero Go.wp_at_succ
set_option maxRecDepth 100000
variable {w w' : World} {br : Nat} {s : St} {c : Int} {F : Nat → Prop}

def wI : Nat → St → St
  | 0, s => s
  | k + 1, s => wStep (wI k s)
def rI : Nat → St → St
  | 0, s => s
  | k + 1, s => rStep (rI k s)
def lv2 : St := rBegin (wBegin (s0 1) [7])
def lo7 : Nat → List Int
  | 0 => []
  | k + 1 => rOut (rI k (wI 5 lv2))
/-- All blocks from n on. -/
def Fr (n : Nat) : Nat → Prop := fun b => n ≤ b
theorem RegX.fr {n m : Nat} (h : RegX w br s c (Gr (Fr n) m)) (hm : n ≤ m) : RegX w br s c (Fr n) := h.mono (fun _ hb => hb.elim id fun h2 => Nat.le_trans hm h2) (Int.le_refl _)
theorem Only.fr {n : Nat} {a : World} (h : Below n a w) (k : Only (Fr n) w w') (hB : n ≤ w.heap.size) : Below n a w' := Only.to_below h k (fun _ hb => hb) hB
def InvL1 (w : World) (br : Nat) (i : Value) (V : World) : Prop := ∃ k : Nat, i = .int .i64 k ∧ k ≤ 5 ∧ RegX V br (wI k lv2) k (Fr w.heap.size) ∧ Below w.heap.size w V
def InvL2 (w : World) (br : Nat) (v i : Value) (V : World) : Prop := ∃ k : Nat, i = .int .i64 k ∧ k ≤ 4 ∧ Out V v (lo7 k) ∧ RegX V br (rI k (wI 5 lv2)) (5 + k) (Fr w.heap.size) ∧ Below w.heap.size w V
def lvA : St := wBegin (s0 1) [7]
theorem lvA_c : wCode (s0 1) [7] = 0 := by kernel_rfl
theorem lvA_r : rCode lvA = 0 := by kernel_rfl
theorem lo7_4 : lo7 4 = [7] := by kernel_rfl
theorem lv2_w : wLeft lv2 = 5 := by kernel_rfl
theorem lv2_r : rLeft lv2 = 4 := by kernel_rfl
set_option maxHeartbeats 2000000 in
theorem lives_any (hg : Et w) : Calls Tryd.prog 49 #[] w fun e w' => e = .returned (.bool true) ∧ Below w.heap.size w w' := by
  have HG := Lib.hid hg
  clear hg
  go_enter Tryd.func49, Tryd.ntmps49
  go_wp2_with fail
  refine (rnew_any 1 (by omega)).mono ?_
  rintro e w1 ⟨br, rfl, hr1, hb1⟩
  have hsz := hb1.size
  have hp := HG.out.pos
  have hr1 : RegX w1 br (s0 1) 0 (Fr w.heap.size) := hr1
  have b2 := b01 w1 (.cells #[.int .i64 7] 3)
  have HR2 := Lib.hid (hr1.below b2)
  have HB2 := Lib.hid (bt hb1 b2)
  have HRow : Hid (Row (w1.alloc (.cells #[.int .i64 7] 3)) (some ⟨w1.heap.size, 0, none⟩) (iv' [7])) := Row.of_blk (Blk.new w1 3 #[.int .i64 7]) fun j u hj => by simpa [iv'] using hj
  clear hr1 hb1 b2
  unfold P
  go_wp2_with fail
  refine (wwrite_any (cp := 1) HR2.out (HG.out.below HB2.out hp) HRow.out (by simp) (by omega)).mono ?_
  rintro e w3 ⟨rfl, hr3, hO3⟩
  rw [lvA_c]
  have HR3 : Hid (RegX w3 br lvA 0 (Fr w.heap.size)) := hr3.fr HB2.out.size
  have HB3 := Lib.hid (Only.fr HB2.out hO3 HB2.out.size)
  clear hr3 hO3
  go_wp2_with fail
  refine (rread_any HR3.out).mono ?_
  rintro e w4 ⟨rfl, hr4, hO4⟩
  rw [lvA_r]
  have HR4 : Hid (RegX w4 br lv2 0 (Fr w.heap.size)) := hr4.fr HB3.out.size
  have HB4 := Lib.hid (Only.fr HB3.out hO4 HB3.out.size)
  clear hr4 hO4
  go_wp2_with fail
  refine (wleft_any HR4.out).mono ?_
  rintro e w' ⟨rfl, rfl⟩
  rw [lv2_w]
  go_wp2_with fail
  refine (rleft_any HR4.out).mono ?_
  rintro e w' ⟨rfl, rfl⟩
  rw [lv2_r]
  go_wp2_with fail
  clear HR2 HB2 HRow HR3 HB3 hr1 hsz
  go_loopw [6] (fun i V => InvL1 w br i V) (fun i _ => 5 - (intOf i).toNat)
  case atStart => exact ⟨0, rfl, by omega, HR4.out, HB4.out⟩
  case round =>
    clear HR4 HB4
    obtain ⟨k, rfl, hk, hr, hb⟩ := hrel
    have HR := Lib.hid hr
    have HB := Lib.hid hb
    have hsz := hb.size
    clear hr hb
    by_cases hlt : k < 5
    · have t5 : (k : Int) < 5 := by omega
      go_wp2_with fail
      refine (wstep_any HR.out (by omega)).mono ?_
      rintro e w5 ⟨rfl, hr5, hO5⟩
      have HB5 := Lib.hid (Only.fr HB.out hO5 hsz)
      have HR5 := Lib.hid hr5
      clear hr5 hO5
      go_wp2_with fail
      go_roundw
      case rel => exact ⟨k + 1, by go_num, by omega, HR5.out.mono (fun _ h => h) (by omega), HB5.out⟩
      case measure => simp [intOf]; omega
    · obtain rfl : k = 5 := by omega
      rw [show ((5 : Nat) : Int) = 5 from rfl]
      go_wp2_with fail
      go_loopw [7, 8] (fun v i V => InvL2 w br v i V) (fun _ i _ => 4 - (intOf i).toNat)
      case atStart => exact ⟨0, rfl, by omega, Out.nil_ _, HR.out, HB.out⟩
      case round =>
        clear HR HB hsz
        obtain ⟨k, rfl, hk, ho, hr, hb⟩ := hrel
        have HO := Lib.hid ho
        have HR := Lib.hid hr
        have HB := Lib.hid hb
        have hsz := hb.size
        clear ho hr hb
        by_cases hlt : k < 4
        · have t4 : (k : Int) < 4 := by omega
          go_wp2_with fail
          refine (rstep_any HR.out (by omega)).mono ?_
          rintro e w5 ⟨v5, rfl, ho5, hr5, hO5⟩
          have HB5 := Lib.hid (Only.fr HB.out hO5 hsz)
          have HR5 := Lib.hid hr5
          have HO5 := Lib.hid ho5
          clear hr5 hO5 ho5
          go_wp2_with fail
          go_roundw
          case rel => exact ⟨k + 1, by go_num, by omega, HO5.out, HR5.out.mono (fun _ h => h) (by omega), HB5.out⟩
          case measure => simp [intOf]; omega
        · obtain rfl : k = 4 := by omega
          rw [show ((4 : Nat) : Int) = 4 from rfl]
          have ho := HO.out
          rw [lo7_4] at ho
          obtain ⟨A, cp, rfl, hc1, hc2, hrow⟩ := ho.row
          have HR1 := Lib.hid (hrow.alloc (.cells #[.int .i64 7] 3))
          have HR2 : Hid (Row (wr.alloc (.cells #[.int .i64 7] 3)) (some ⟨wr.heap.size, 0, none⟩) (C04.ivs [7])) := Row.of_blk (Blk.new wr 3 #[.int .i64 7]) fun j u hj => by simpa [C04.ivs, C04.iv] using hj
          have HBz := Lib.hid (ba1 HB.out (.cells #[.int .i64 7] 3))
          clear HO hrow HR HB
          go_wp2_with fail
          refine (C04.rsame1_any (l := [7]) (r := [7]) (c := cp) (d := 1) HR1.out HR2.out (by simp) (by simp)).mono ?_
          rintro e w6 ⟨rfl, m6, rfl⟩
          rw [show C04.eqb [(7 : Int)] [7] = true from rfl]
          go_wp2_with fail
          go_ret
          exact ⟨rfl, bn HBz.out m6⟩
end Go.Proofs.YthkpopphefolmaaDoor.F4
