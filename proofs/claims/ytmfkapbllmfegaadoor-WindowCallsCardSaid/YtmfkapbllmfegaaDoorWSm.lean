/- 'same' of stage 13's statements: all calls of both, of a config, an owner and a tick. Condition: the library's variable errors.errorType holds what the program's text lays; at most a thousand channels. -/
import Derived.Test.YtmfkapbllmfegaaDoorWl0
namespace Go.Proofs.YtmfkapbllmfegaaDoor.W13
open Go.RowKit Go.Proofs.YtmfkapbllmfegaaDoor.G Go.Proofs.YtmfkapbllmfegaaDoor.C04 Go.Proofs.YtmfkapbllmfegaaDoor.Sat
set_option maxRecDepth 100000
set_option maxHeartbeats 8000000 in
theorem same_any {w : World} {v : Value} {c : Cfg} (hg : Et w) (h : CfgAt w v c) (hlen : c.cs.length ≤ 1000) (o now : Int) : Calls Tryd.prog 13 #[v, .int .i64 o, .int .i64 now] w fun e w' => e = .returned (.bool true) ∧ Below w.heap.size w w' := by
  obtain ⟨A1, A2, A3, c1, c2, c3, rfl⟩ := agg_of h
  have X0 := Blk.new w 26 #[.int .i64 c.P, .int .i64 c.F, .slice A1 c.ws.length c1, .slice A2 c.cs.length c2, .slice A3 c.ac.length c3]
  have hb0 := b01 w (.cells #[.int .i64 c.P, .int .i64 c.F, .slice A1 c.ws.length c1, .slice A2 c.cs.length c2, .slice A3 c.ac.length c3] 26)
  have HB := Lib.hid hb0
  have HG := Lib.hid (hg.below hb0)
  have HC := Lib.hid (h.below hb0)
  clear hg h hb0
  obtain ⟨a, b, hab, _⟩ := who_two (whoV c now) 0
  obtain ⟨x, y, hxy, _⟩ := who_two (srvV c now) 0
  obtain ⟨k0, hk0⟩ : ∃ x, ((phV c o).length : Int) = x := ⟨_, rfl⟩
  obtain ⟨n0, hn0⟩ : ∃ x, befV c o now = x := ⟨_, rfl⟩
  obtain ⟨u0, hu0⟩ : ∃ x, untV c o now = x := ⟨_, rfl⟩
  obtain ⟨t0, ht0⟩ : ∃ x, nthV c o now = x := ⟨_, rfl⟩
  go_enter Tryd.func13, Tryd.ntmps13
  go_upto_region 1 with fail
  generalize w.alloc (.cells #[.int .i64 c.P, .int .i64 c.F, .slice A1 c.ws.length c1, .slice A2 c.cs.length c2, .slice A3 c.ac.length c3] 26) = W at *
  have CW0 : Hid (∀ V, Below W.heap.size W V → Calls Tryd.prog 15 #[.agg #[.int .i64 c.P, .int .i64 c.F, .slice A1 c.ws.length c1, .slice A2 c.cs.length c2, .slice A3 c.ac.length c3], .int .i64 now] V fun e w' => e = .returned (.tuple #[.int .i64 a, .bool b]) ∧ Below V.heap.size V w') := fun V hV => by
    have := whose_any (HG.out.below hV) (HC.out.below hV) now
    rw [hab] at this; exact this
  have CW1 : Hid (∀ V, Below W.heap.size W V → Calls Tryd.prog 23 #[.agg #[.int .i64 c.P, .int .i64 c.F, .slice A1 c.ws.length c1, .slice A2 c.cs.length c2, .slice A3 c.ac.length c3], .int .i64 now] V fun e w' => e = .returned (.tuple #[.int .i64 a, .bool b]) ∧ Below V.heap.size V w') := fun V hV => by
    have := rwhose_any (HC.out.below hV) now
    rw [hab] at this; exact this
  have CS0 : Hid (∀ V, Below W.heap.size W V → Calls Tryd.prog 19 #[.agg #[.int .i64 c.P, .int .i64 c.F, .slice A1 c.ws.length c1, .slice A2 c.cs.length c2, .slice A3 c.ac.length c3], .int .i64 now] V fun e w' => e = .returned (.tuple #[.int .i64 x, .bool y]) ∧ Below V.heap.size V w') := fun V hV => by
    have := serves_any (HG.out.below hV) (HC.out.below hV) hlen now
    rw [hxy] at this; exact this
  have CS1 : Hid (∀ V, Below W.heap.size W V → Calls Tryd.prog 24 #[.agg #[.int .i64 c.P, .int .i64 c.F, .slice A1 c.ws.length c1, .slice A2 c.cs.length c2, .slice A3 c.ac.length c3], .int .i64 now] V fun e w' => e = .returned (.tuple #[.int .i64 x, .bool y]) ∧ Below V.heap.size V w') := fun V hV => by
    have := rserves_any (HC.out.below hV) hlen now
    rw [hxy] at this; exact this
  have CC0 : Hid (∀ V, Below W.heap.size W V → Calls Tryd.prog 18 #[.agg #[.int .i64 c.P, .int .i64 c.F, .slice A1 c.ws.length c1, .slice A2 c.cs.length c2, .slice A3 c.ac.length c3], .int .i64 o] V fun e w' => e = .returned (.int .i64 k0) ∧ Below V.heap.size V w') := fun V hV => by
    have := count_any (HG.out.below hV) (HC.out.below hV) o
    rw [hk0] at this; exact this
  have CC1 : Hid (∀ V, Below W.heap.size W V → Calls Tryd.prog 25 #[.agg #[.int .i64 c.P, .int .i64 c.F, .slice A1 c.ws.length c1, .slice A2 c.cs.length c2, .slice A3 c.ac.length c3], .int .i64 o] V fun e w' => e = .returned (.int .i64 k0) ∧ Below V.heap.size V w') := fun V hV => by
    have := rcount_any (HC.out.below hV) o
    rw [hk0] at this; exact this
  have CB0 : Hid (∀ V, Below W.heap.size W V → Calls Tryd.prog 14 #[.agg #[.int .i64 c.P, .int .i64 c.F, .slice A1 c.ws.length c1, .slice A2 c.cs.length c2, .slice A3 c.ac.length c3], .int .i64 o, .int .i64 now] V fun e w' => e = .returned (.int .i64 n0) ∧ Below V.heap.size V w') := fun V hV => by
    have := before_any (HG.out.below hV) (HC.out.below hV) o now
    rw [hn0] at this; exact this
  have CB1 : Hid (∀ V, Below W.heap.size W V → Calls Tryd.prog 26 #[.agg #[.int .i64 c.P, .int .i64 c.F, .slice A1 c.ws.length c1, .slice A2 c.cs.length c2, .slice A3 c.ac.length c3], .int .i64 o, .int .i64 now] V fun e w' => e = .returned (.int .i64 n0) ∧ Below V.heap.size V w') := fun V hV => by
    have := rbefore_any (HC.out.below hV) o now
    rw [hn0] at this; exact this
  have CU0 : Hid (∀ V, Below W.heap.size W V → Calls Tryd.prog 17 #[.agg #[.int .i64 c.P, .int .i64 c.F, .slice A1 c.ws.length c1, .slice A2 c.cs.length c2, .slice A3 c.ac.length c3], .int .i64 o, .int .i64 now] V fun e w' => e = .returned (.int .i64 u0) ∧ Below V.heap.size V w') := fun V hV => by
    have := until_any (HG.out.below hV) (HC.out.below hV) o now
    rw [hu0] at this; exact this
  have CU1 : Hid (∀ V, Below W.heap.size W V → Calls Tryd.prog 27 #[.agg #[.int .i64 c.P, .int .i64 c.F, .slice A1 c.ws.length c1, .slice A2 c.cs.length c2, .slice A3 c.ac.length c3], .int .i64 o, .int .i64 now] V fun e w' => e = .returned (.int .i64 u0) ∧ Below V.heap.size V w') := fun V hV => by
    have := runtil_any (HC.out.below hV) o now
    rw [hu0] at this; exact this
  have CN0 : Hid (∀ V, Below W.heap.size W V → Calls Tryd.prog 16 #[.agg #[.int .i64 c.P, .int .i64 c.F, .slice A1 c.ws.length c1, .slice A2 c.cs.length c2, .slice A3 c.ac.length c3], .int .i64 o, .int .i64 now] V fun e w' => e = .returned (.int .i64 t0) ∧ Below V.heap.size V w') := fun V hV => by
    have := nth_any (HG.out.below hV) (HC.out.below hV) o now
    rw [ht0] at this; exact this
  have CN1 : Hid (∀ V, Below W.heap.size W V → Calls Tryd.prog 28 #[.agg #[.int .i64 c.P, .int .i64 c.F, .slice A1 c.ws.length c1, .slice A2 c.cs.length c2, .slice A3 c.ac.length c3], .int .i64 o, .int .i64 now] V fun e w' => e = .returned (.int .i64 t0) ∧ Below V.heap.size V w') := fun V hV => by
    have := rnth_any (HC.out.below hV) o now
    rw [ht0] at this; exact this
  have HX := Lib.hid X0
  have HS : Hid (∀ V, Below W.heap.size W V → (∀ i, V.cell? ⟨w.heap.size, i, none⟩ = (#[.int .i64 c.P, .int .i64 c.F, .slice A1 c.ws.length c1, .slice A2 c.cs.length c2, .slice A3 c.ac.length c3] : Array Value)[i]?)) := fun V hV => (HX.out.bel hV).cell
  clear X0 hab hxy hk0 hn0 hu0 ht0 HG HC
  have S0 : Below W.heap.size W W := Below.refl _ _
  have q0 := HS.out _ S0
  go_wp2_with fail
  with_reducible refine (CW0.out _ S0).mono ?_
  rintro e V ⟨rfl, hb⟩
  have S0 := bt S0 hb
  clear q0 hb
  have q0 := HS.out _ S0
  go_wp2_with fail
  with_reducible refine (CW1.out _ S0).mono ?_
  rintro e V ⟨rfl, hb⟩
  have S0 := bt S0 hb
  clear q0 hb
  have q0 := HS.out _ S0
  go_wp2_with fail
  with_reducible refine (CS0.out _ S0).mono ?_
  rintro e V ⟨rfl, hb⟩
  have S0 := bt S0 hb
  clear q0 hb
  have q0 := HS.out _ S0
  go_wp2_with fail
  with_reducible refine (CS1.out _ S0).mono ?_
  rintro e V ⟨rfl, hb⟩
  have S0 := bt S0 hb
  clear q0 hb
  have e1 : (a == a) = true := by simp
  have e2 : (b == b) = true := by simp
  have e3 : (x == x) = true := by simp
  have e4 : (y == y) = true := by simp
  have e5 : (k0 == k0) = true := by simp
  have e6 : (n0 == n0) = true := by simp
  have e7 : (u0 == u0) = true := by simp
  have e8 : (t0 == t0) = true := by simp
  go_upto_region 5 with fail
  have S0 := S0.drew
  go_region_held3 (fun V => ∀ i, V.cell? ⟨w.heap.size, i, none⟩ = (#[.int .i64 c.P, .int .i64 c.F, .slice A1 c.ws.length c1, .slice A2 c.cs.length c2, .slice A3 c.ac.length c3] : Array Value)[i]?) (first | (with_reducible exact HS.out _ S0) | fail)
    (first
      | (go_at_call 18; (with_reducible refine (CC0.out _ S0).mono ?_); rintro e w7 ⟨rfl, hb7⟩; have S0 := bt S0 hb7)
      | (go_at_call 25; (with_reducible refine (CC1.out _ S0).mono ?_); rintro e w7 ⟨rfl, hb7⟩; have S0 := bt S0 hb7)
      | (go_at_call 14; (with_reducible refine (CB0.out _ S0).mono ?_); rintro e w7 ⟨rfl, hb7⟩; have S0 := bt S0 hb7)
      | (go_at_call 26; (with_reducible refine (CB1.out _ S0).mono ?_); rintro e w7 ⟨rfl, hb7⟩; have S0 := bt S0 hb7)
      | (go_at_call 17; (with_reducible refine (CU0.out _ S0).mono ?_); rintro e w7 ⟨rfl, hb7⟩; have S0 := bt S0 hb7)
      | (go_at_call 27; (with_reducible refine (CU1.out _ S0).mono ?_); rintro e w7 ⟨rfl, hb7⟩; have S0 := bt S0 hb7)
      | (go_at_call 16; (with_reducible refine (CN0.out _ S0).mono ?_); rintro e w7 ⟨rfl, hb7⟩; have S0 := bt S0 hb7)
      | (go_at_call 28; (with_reducible refine (CN1.out _ S0).mono ?_); rintro e w7 ⟨rfl, hb7⟩; have S0 := bt S0 hb7)
      | fail)
  all_goals
    go_wp2_with fail
    go_ret
    exact ⟨rfl, bt HB.out S0⟩
end Go.Proofs.YtmfkapbllmfegaaDoor.W13
