/- LaneNil, walked. -/
import Derived.Test.YtjkdajkfbphnpaaQArgs
namespace Go.Proofs.Ytjkdajkfbphnpaa.laneNil
open Go.RowKit Go.Proofs.Ytjkdajkfbphnpaa.G Go.Proofs.Ytjkdajkfbphnpaa.L10
set_option maxRecDepth 100000
set_option maxHeartbeats 4000000 in
theorem walk (m : MV) (now : Int) (w : World) : Calls Try.prog 9 #[m.val, .int .i64 now] w fun e w' => e = .returned (.bool true) ∧ Below w.heap.size w w' := by
  have HN := Lib.hid (Blk.new w 33 #[.slice m.a m.ws.length m.c, .int .i64 m.ln, .int .i64 m.st, .int .i64 m.lt, .int .i64 m.sq])
  have HB := Lib.hid (b01 w (.cells #[.slice m.a m.ws.length m.c, .int .i64 m.ln, .int .i64 m.st, .int .i64 m.lt, .int .i64 m.sq] 33))
  unfold MV.val
  go_enter Try.func9, Try.ntmps9
  go_wp2_with fail
  refine (lives_any _).mono ?_
  rintro e w1 ⟨rfl, hb1⟩
  have HN1 := Lib.hid (HN.out.bel hb1)
  have HB1 := Lib.hid (bt HB.out hb1)
  clear hb1 HN HB
  go_wp2_with fail
  refine (take_nil _).mono ?_
  rintro e w2 ⟨rfl, hb2⟩
  unfold z0 MV.val
  simp only [List.length_nil]
  have h3 := b01 w2 (.cells #[.slice none 0 0, .int .i64 0, .int .i64 0, .int .i64 0, .int .i64 0] 33)
  have HN2 := Lib.hid ((HN1.out.bel hb2).bel h3)
  have HB2 := Lib.hid (bt (bt HB1.out hb2) h3)
  clear hb2 h3 HN1 HB1
  go_wp2_with fail
  refine (peek_nil _).mono ?_
  rintro e w4 ⟨m4, rfl, _, _, hb4⟩
  simp only [List.isEmpty, Bool.not_true]
  unfold MV.val
  have h5 := b01 w4 (.cells #[.slice m4.a m4.ws.length m4.c, .int .i64 m4.ln, .int .i64 m4.st, .int .i64 m4.lt, .int .i64 m4.sq] 33)
  have N := (HN2.out.bel hb4).bel h5
  have n0 := N.cell 0
  have n1 := N.cell 1
  have n2 := N.cell 2
  have n3 := N.cell 3
  have n4 := N.cell 4
  simp only [List.getElem?_toArray, List.getElem?_cons_zero, List.getElem?_cons_succ] at n0 n1 n2 n3 n4
  have HB4 := Lib.hid (bt (bt HB2.out hb4) h5)
  clear hb4 h5 N HN2 HB2
  go_wp2_with fail
  refine (put_nil m _).mono ?_
  rintro e w6 ⟨rfl, hb6⟩
  have HB6 := Lib.hid (bt HB4.out hb6)
  clear hb6 n0 n1 n2 n3 n4 HB4
  go_wp2_with fail
  refine (room_nil 0 _).mono ?_
  rintro e w7 ⟨rfl, rfl⟩
  go_wp2_with fail
  refine (len_nil _).mono ?_
  rintro e w7 ⟨rfl, rfl⟩
  go_wp2_with fail
  refine (sweep_nil now _).mono ?_
  rintro e w7 ⟨rfl, hb7⟩
  go_wp2_with fail
  refine (flush_nil _).mono ?_
  rintro e w8 ⟨rfl, rfl⟩
  go_wp2_with fail
  refine (all_nil _).mono ?_
  rintro e w9 ⟨rfl, hb9⟩
  go_wp2_with fail
  refine (of_nil 0 _).mono ?_
  rintro e w10 ⟨rfl, hb10⟩
  go_wp2_with fail
  go_ret
  exact ⟨rfl, bt (bt (bt HB6.out hb7) hb9) hb10⟩
end Go.Proofs.Ytjkdajkfbphnpaa.laneNil
