/- WheelNil: the walk. -/
import Derived.Test.YtoomdjkojddpdaaH10
namespace Go.Proofs.Ytoomdjkojddpdaa.hNil
open Go.RowKit Go.Proofs.Ytoomdjkojddpdaa.G Go.Proofs.Ytoomdjkojddpdaa.Sat Go.Proofs.Ytoomdjkojddpdaa.H14
set_option maxRecDepth 100000
set_option maxHeartbeats 2000000 in
theorem walk (key n : Int) (hk : Ir key) (w : World) : Calls Try.prog 7 #[.int .i64 key, .int .i64 n] w fun e w' => e = .returned (.bool true) ∧ Below w.heap.size w w' := by
  go_enter Try.func7, Try.ntmps7
  go_wp2_with fail
  refine (lives_any w).mono ?_
  rintro e w1 ⟨rfl, hb⟩
  have B1 := Lib.hid hb
  clear hb
  go_wp2_with fail
  refine (until_nil hk w1).mono ?_
  rintro e w2 ⟨rfl, hg⟩
  have B2 := Lib.hid (bt B1.out hg.below)
  clear hg
  go_wp2_with fail
  refine (first_nil w2).mono ?_
  rintro e w3 ⟨rfl, hb⟩
  have B3 := Lib.hid (bt B2.out hb)
  clear hb
  go_wp2_with fail
  refine (set_nil n w3).mono ?_
  rintro e w4 ⟨rfl, rfl⟩
  go_wp2_with fail
  refine (cancel_nil hk w3).mono ?_
  rintro e w4 ⟨rfl, hb⟩
  have B4 := Lib.hid (bt B3.out hb)
  clear hb
  go_wp2_with fail
  refine (due_nil n w4).mono ?_
  rintro e w5 ⟨rfl, hb⟩
  have B5 := Lib.hid (bt B4.out hb)
  clear hb
  go_wp2_with fail
  refine (keys_nil w5).mono ?_
  rintro e w6 ⟨rfl, hb⟩
  have B6 := Lib.hid (bt B5.out hb)
  clear hb
  go_wp2_with fail
  refine (len_nil w6).mono ?_
  rintro e w7 ⟨rfl, rfl⟩
  go_wp2_with fail
  go_ret
  exact ⟨rfl, B6.out⟩
end Go.Proofs.Ytoomdjkojddpdaa.hNil
