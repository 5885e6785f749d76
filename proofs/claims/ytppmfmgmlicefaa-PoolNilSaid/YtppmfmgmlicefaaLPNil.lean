/- The walk of PoolNil. -/
import Derived.Test.YtppmfmgmlicefaaPLive
import Derived.Test.YtppmfmgmlicefaaPArgs
namespace Go.Proofs.Ytppmfmgmlicefaa.poolNil
open Go.RowKit Go.Proofs.Ytppmfmgmlicefaa.G Go.Proofs.Ytppmfmgmlicefaa.P9
set_option maxRecDepth 100000
variable {w : World}
set_option maxHeartbeats 2000000 in
theorem walk (slot owner : Int) : Calls Try.prog 8 #[.int .i64 slot, .int .i64 owner] w fun e w' => e = .returned (.bool true) ∧ Below w.heap.size w w' := by
  go_enter Try.func8, Try.ntmps8
  go_wp2_with fail
  refine (lives_any _).mono ?_
  rintro e w1 ⟨rfl, hb1⟩
  go_wp2_with fail
  refine (take_nil owner _).mono ?_
  rintro e w2 ⟨rfl, hb2⟩
  have HB2 := Lib.hid (bt hb1 hb2)
  clear hb1 hb2
  go_wp2_with fail
  refine (owner_nil slot _).mono ?_
  rintro e w3 ⟨rfl, hb3⟩
  rw [V1_none, B1_none]
  have HB3 := Lib.hid (bt HB2.out hb3)
  clear hb3
  go_wp2_with fail
  refine (give_nil slot owner _).mono ?_
  rintro e w4 ⟨rfl, hb4⟩
  have HB4 := Lib.hid (bt HB3.out hb4)
  clear hb4
  go_wp2_with fail
  refine (let_nil owner _).mono ?_
  rintro e w5 ⟨rfl, hb5⟩
  have HB5 := Lib.hid (bt HB4.out hb5)
  clear hb5
  go_wp2_with fail
  refine (turn_nil slot _).mono ?_
  rintro e w6 ⟨rfl, hb6⟩
  have HB6 := Lib.hid (bt HB5.out hb6)
  clear hb6
  go_wp2_with fail
  refine (of_nil owner _).mono ?_
  rintro e w7 ⟨rfl, hb7⟩
  have HB7 := Lib.hid (bt HB6.out hb7)
  clear hb7
  go_wp2_with fail
  refine (free_nil _).mono ?_
  rintro e w8 ⟨rfl, hb8⟩
  have HB8 := Lib.hid (bt HB7.out hb8)
  clear hb8
  go_wp2_with fail
  refine (len_nil _).mono ?_
  rintro e w9 ⟨rfl, rfl⟩
  go_wp2_with fail
  go_ret
  exact ⟨rfl, HB8.out⟩
end Go.Proofs.Ytppmfmgmlicefaa.poolNil
