/- A bucket: Tokens, Take, Wait, Round, Rate, Cap, Reset, also of none: contracts. -/
import Derived.Test.YtfbbgoahipejlaaK1
namespace Go.Proofs.Ytfbbgoahipejlaa.K11
open Go.RowKit Go.Proofs.Ytfbbgoahipejlaa.G Go.Proofs.Ytfbbgoahipejlaa.Sat
set_option maxRecDepth 100000
variable {w w' : World} {b : Nat} {R C T N r : Int}
def IPost (b : Nat) (v R C T N : Int) (w : World) (e : Ending) (w' : World) : Prop := e = .returned (.int .i64 v) ∧ Bk w' b R C T N ∧ Ob b w w'
theorem tokens_any (h : Bk w b R C T N) (r : Int) : Calls Try.prog 17 #[.pointer (some ⟨b, 0, none⟩), .int .i64 r] w (IPost b (ctok R C T N r) R C (ctok R C T N r) (crnd N r) w) := by
  have H1 := Lib.hid (come_any h r)
  generalize ctok R C T N r = T1 at *
  generalize crnd N r = N1 at *
  clear h
  go_enter Try.func17, Try.ntmps17
  go_wp2_with fail
  refine H1.out.mono ?_
  rintro e w1 ⟨rfl, hb, ho⟩
  obtain ⟨p0, p1, p2, p3⟩ := hb.cells
  have HB := Lib.hid hb
  have HO := Lib.hid ho
  clear hb ho
  go_wp2_with fail
  go_ret
  exact ⟨rfl, HB.out, HO.out⟩
theorem tokens_nil (r : Int) (w : World) : Calls Try.prog 17 #[.pointer none, .int .i64 r] w fun e w' => e = .returned (.int .i64 0) ∧ w = w' := by
  go_enter Try.func17, Try.ntmps17
  go_wp2
  go_ret
  exact ⟨rfl, rfl⟩
theorem round_any (h : Bk w b R C T N) : Calls Try.prog 21 #[.pointer (some ⟨b, 0, none⟩)] w fun e w' => e = .returned (.int .i64 N) ∧ w = w' := by
  obtain ⟨p0, p1, p2, p3⟩ := h.cells
  clear h
  go_enter Try.func21, Try.ntmps21
  go_wp2
  go_ret
  exact ⟨rfl, rfl⟩
theorem rate_any (h : Bk w b R C T N) : Calls Try.prog 22 #[.pointer (some ⟨b, 0, none⟩)] w fun e w' => e = .returned (.int .i64 R) ∧ w = w' := by
  obtain ⟨p0, p1, p2, p3⟩ := h.cells
  clear h
  go_enter Try.func22, Try.ntmps22
  go_wp2
  go_ret
  exact ⟨rfl, rfl⟩
theorem cap_any (h : Bk w b R C T N) : Calls Try.prog 23 #[.pointer (some ⟨b, 0, none⟩)] w fun e w' => e = .returned (.int .i64 C) ∧ w = w' := by
  obtain ⟨p0, p1, p2, p3⟩ := h.cells
  clear h
  go_enter Try.func23, Try.ntmps23
  go_wp2
  go_ret
  exact ⟨rfl, rfl⟩
theorem round_nil (w : World) : Calls Try.prog 21 #[.pointer none] w fun e w' => e = .returned (.int .i64 0) ∧ w = w' := by
  go_enter Try.func21, Try.ntmps21
  go_wp2
  go_ret
  exact ⟨rfl, rfl⟩
theorem rate_nil (w : World) : Calls Try.prog 22 #[.pointer none] w fun e w' => e = .returned (.int .i64 0) ∧ w = w' := by
  go_enter Try.func22, Try.ntmps22
  go_wp2
  go_ret
  exact ⟨rfl, rfl⟩
theorem cap_nil (w : World) : Calls Try.prog 23 #[.pointer none] w fun e w' => e = .returned (.int .i64 0) ∧ w = w' := by
  go_enter Try.func23, Try.ntmps23
  go_wp2
  go_ret
  exact ⟨rfl, rfl⟩
/-- How many are left behind a Take. -/
def less (T : Int) : Int := if T = 0 then 0 else T - 1
theorem less_zero {T : Int} (h : T = 0) : less T = 0 := if_pos h
theorem less_pos {T : Int} (h : T ≠ 0) : less T = T - 1 := if_neg h
theorem Ok.less_ (h : Ok R C T N) : Ok R C (less T) N := by
  by_cases ht : T = 0
  · rw [less_zero ht, ← ht]; exact h
  · rw [less_pos ht]; exact h.take ht
def TPost (b : Nat) (v : Bool) (R C T N : Int) (w : World) (e : Ending) (w' : World) : Prop := e = .returned (.bool v) ∧ Bk w' b R C T N ∧ Ob b w w'
theorem take_any (h : Bk w b R C T N) (r : Int) : Calls Try.prog 15 #[.pointer (some ⟨b, 0, none⟩), .int .i64 r] w (TPost b (ctok R C T N r != 0) R C (less (ctok R C T N r)) (crnd N r) w) := by
  have H1 := Lib.hid (tokens_any h r)
  have HK := Lib.hid (h.ok.come r)
  generalize ctok R C T N r = T1 at *
  generalize crnd N r = N1 at *
  clear h
  by_cases h0 : T1 = 0
  · subst h0
    rw [less_zero rfl]
    go_enter Try.func15, Try.ntmps15
    go_wp2_with fail
    refine H1.out.mono ?_
    rintro e w1 ⟨rfl, hb, ho⟩
    have HB := Lib.hid hb
    have HO := Lib.hid ho
    clear hb ho
    go_wp2_with fail
    go_ret
    exact ⟨rfl, HB.out, HO.out⟩
  · have t0 : (T1 == 0) = false := by rw [beq_eq_false_iff_ne]; exact h0
    have HT : Hid ((T1 != 0) = true) := by show (T1 != 0) = true; rw [bne_iff_ne]; exact h0
    have HL : Hid (less T1 = T1 - 1) := less_pos h0
    have k1 := HK.out.t0
    have k2 := HK.out.t1
    have k3 := HK.out.c1
    have H2 := Lib.hid (HK.out.take h0)
    clear h0
    go_enter Try.func15, Try.ntmps15
    go_wp2_with fail
    refine H1.out.mono ?_
    rintro e w1 ⟨rfl, hb, ho⟩
    obtain ⟨p0, p1, p2, p3⟩ := hb.cells
    have fz := hb.frozen
    have HB : Hid (Bk (w1.setCell ⟨b, 2, none⟩ (.int .i64 (T1 - 1))) b R C (T1 - 1) N1) := hb.tok _ H2.out
    have HO : Hid (Ob b w (w1.setCell ⟨b, 2, none⟩ (.int .i64 (T1 - 1)))) := ho.set_ _ _
    clear hb ho
    go_wp2_with fail
    go_ret
    rw [HT.out, HL.out]
    exact ⟨rfl, HB.out, HO.out⟩
theorem take_nil (r : Int) (w : World) : Calls Try.prog 15 #[.pointer none, .int .i64 r] w fun e w' => e = .returned (.bool false) ∧ w = w' := by
  go_enter Try.func15, Try.ntmps15
  go_wp2_with (go_at_call 17; refine (tokens_nil _ _).mono ?_; rintro e w' ⟨rfl, rfl⟩)
  go_ret
  exact ⟨rfl, rfl⟩
/-- What Wait answers of a bucket in its round. -/
def wt (R T N : Int) : Int × Bool := if 0 < T then (N, true) else if R = 0 ∨ N = 4611686018427387904 then (0, false) else (N + 1, true)
theorem wt_has {R T N : Int} (h : 0 < T) : wt R T N = (N, true) := if_pos h
theorem wt_no {R T N : Int} (h : ¬ 0 < T) (h2 : R = 0 ∨ N = 4611686018427387904) : wt R T N = (0, false) := by unfold wt; rw [if_neg h, if_pos h2]
theorem wt_next {R T N : Int} (h : ¬ 0 < T) (h2 : ¬ (R = 0 ∨ N = 4611686018427387904)) : wt R T N = (N + 1, true) := by unfold wt; rw [if_neg h, if_neg h2]
def WPost (b : Nat) (v : Int × Bool) (R C T N : Int) (w : World) (e : Ending) (w' : World) : Prop := e = .returned (.tuple #[.int .i64 v.1, .bool v.2]) ∧ Bk w' b R C T N ∧ Ob b w w'
set_option maxHeartbeats 1000000 in
theorem wait_any (h : Bk w b R C T N) (r : Int) : Calls Try.prog 19 #[.pointer (some ⟨b, 0, none⟩), .int .i64 r] w (WPost b (wt R (ctok R C T N r) (crnd N r)) R C (ctok R C T N r) (crnd N r) w) := by
  have H1 := Lib.hid (tokens_any h r)
  have HK := Lib.hid (h.ok.come r)
  generalize ctok R C T N r = T1 at *
  generalize crnd N r = N1 at *
  clear h
  have k1 := HK.out.n0
  have k2 := HK.out.n1
  by_cases h0 : 0 < T1
  · rw [wt_has h0]
    have t0 : decide (T1 > 0) = true := decide_eq_true h0
    go_enter Try.func19, Try.ntmps19
    go_wp2_with fail
    refine H1.out.mono ?_
    rintro e w1 ⟨rfl, hb, ho⟩
    have HB := Lib.hid hb
    have HO := Lib.hid ho
    clear hb ho
    go_wp2_with (first | (go_at_call 21; refine (round_any HB.out).mono ?_; rintro e w' ⟨rfl, rfl⟩))
    go_ret2
    exact ⟨rfl, HB.out, HO.out⟩
  · have t0 : decide (T1 > 0) = false := decide_eq_false h0
    by_cases hr : R = 0
    · subst hr
      rw [wt_no h0 (.inl rfl)]
      go_enter Try.func19, Try.ntmps19
      go_wp2_with fail
      refine H1.out.mono ?_
      rintro e w1 ⟨rfl, hb, ho⟩
      have HB := Lib.hid hb
      have HO := Lib.hid ho
      clear hb ho
      go_wp2_with (first | (go_at_call 22; refine (rate_any HB.out).mono ?_; rintro e w' ⟨rfl, rfl⟩))
      go_ret2
      exact ⟨rfl, HB.out, HO.out⟩
    · have t1 : (R == 0) = false := by rw [beq_eq_false_iff_ne]; exact hr
      by_cases hn : N1 = 4611686018427387904
      · subst hn
        rw [wt_no h0 (.inr rfl)]
        clear hr
        go_enter Try.func19, Try.ntmps19
        go_wp2_with fail
        refine H1.out.mono ?_
        rintro e w1 ⟨rfl, hb, ho⟩
        have HB := Lib.hid hb
        have HO := Lib.hid ho
        clear hb ho
        go_wp2_with (first | (go_at_call 22; refine (rate_any HB.out).mono ?_; rintro e w' ⟨rfl, rfl⟩) | (go_at_call 21; refine (round_any HB.out).mono ?_; rintro e w' ⟨rfl, rfl⟩))
        go_ret2
        exact ⟨rfl, HB.out, HO.out⟩
      · have t2 : (N1 == 4611686018427387904) = false := by rw [beq_eq_false_iff_ne]; exact hn
        rw [wt_next h0 (fun h => h.elim hr hn)]
        clear hr hn
        go_enter Try.func19, Try.ntmps19
        go_wp2_with fail
        refine H1.out.mono ?_
        rintro e w1 ⟨rfl, hb, ho⟩
        have HB := Lib.hid hb
        have HO := Lib.hid ho
        clear hb ho
        go_wp2_with (first | (go_at_call 22; refine (rate_any HB.out).mono ?_; rintro e w' ⟨rfl, rfl⟩) | (go_at_call 21; refine (round_any HB.out).mono ?_; rintro e w' ⟨rfl, rfl⟩))
        go_ret2
        exact ⟨rfl, HB.out, HO.out⟩
theorem wait_nil (r : Int) (w : World) : Calls Try.prog 19 #[.pointer none, .int .i64 r] w fun e w' => e = .returned (.tuple #[.int .i64 0, .bool false]) ∧ w = w' := by
  go_enter Try.func19, Try.ntmps19
  go_wp2_with (first | (go_at_call 17; refine (tokens_nil _ _).mono ?_; rintro e w' ⟨rfl, rfl⟩) | (go_at_call 22; refine (rate_nil _).mono ?_; rintro e w' ⟨rfl, rfl⟩))
  go_ret2
  exact ⟨rfl, rfl⟩
def RPost (b : Nat) (R C T N : Int) (w : World) (e : Ending) (w' : World) : Prop := e = .returned (.tuple #[]) ∧ Bk w' b R C T N ∧ Ob b w w'
theorem reset_any (h : Bk w b R C T N) (r : Int) : Calls Try.prog 20 #[.pointer (some ⟨b, 0, none⟩), .int .i64 r] w (RPost b R C C (crnd N r) w) := by
  have H1 := Lib.hid (come_any h r)
  have HK := Lib.hid (h.ok.come r).full
  generalize ctok R C T N r = T1 at *
  generalize crnd N r = N1 at *
  clear h
  go_enter Try.func20, Try.ntmps20
  go_wp2_with fail
  refine H1.out.mono ?_
  rintro e w1 ⟨rfl, hb, ho⟩
  have HB := Lib.hid hb
  have HO := Lib.hid ho
  obtain ⟨p0, p1, p2, p3⟩ := hb.cells
  have fz := hb.frozen
  have HB2 : Hid (Bk (w1.setCell ⟨b, 2, none⟩ (.int .i64 C)) b R C C N1) := hb.tok _ HK.out
  have HO2 : Hid (Ob b w (w1.setCell ⟨b, 2, none⟩ (.int .i64 C))) := ho.set_ _ _
  clear hb ho
  go_wp2_with fail
  exact bodyPost_end (v := .tuple #[]) (by simp [results, Try.results20, go_sem]) rfl ⟨rfl, HB2.out, HO2.out⟩
theorem reset_nil (r : Int) (w : World) : Calls Try.prog 20 #[.pointer none, .int .i64 r] w fun e w' => e = .returned (.tuple #[]) ∧ w = w' := by
  go_enter Try.func20, Try.ntmps20
  go_wp2
  first
    | (refine bodyPost_ret (v := .tuple #[]) (by simp [results, Try.results20, go_sem]) rfl ⟨rfl, rfl⟩)
    | (refine bodyPost_end (v := .tuple #[]) (by simp [results, Try.results20, go_sem]) rfl ⟨rfl, rfl⟩)
end Go.Proofs.Ytfbbgoahipejlaa.K11
