/- A bucket: Tokens, Take, Wait, Round, Rate, Cap, Reset, also of none: contracts. -/
import Derived.Test.YtgmcjkiofcpjbaaK1
namespace Go.Proofs.Ytgmcjkiofcpjbaa.K11
open Go.RowKit Go.Proofs.Ytgmcjkiofcpjbaa.G Go.Proofs.Ytgmcjkiofcpjbaa.Sat
set_option maxRecDepth 100000
variable {w w' : World} {b : Nat} {R C T N r : Int}
def IPost (b : Nat) (v R C T N : Int) (w : World) (e : Ending) (w' : World) : Prop := e = .returned (.int .i64 v) ∧ Bk w' b R C T N ∧ Ob b w w'
theorem tokens_any (h : Bk w b R C T N) (r : Int) : Calls Try.prog 55 #[.pointer (some ⟨b, 0, none⟩), .int .i64 r] w (IPost b (ctok R C T N r) R C (ctok R C T N r) (crnd N r) w) := by
  have H1 := Lib.hid (come_any h r)
  generalize ctok R C T N r = T1 at *
  generalize crnd N r = N1 at *
  clear h
  go_enter Try.func55, Try.ntmps55
  go_wp2_with fail
  refine H1.out.mono ?_
  rintro e w1 ⟨rfl, hb, ho⟩
  obtain ⟨p0, p1, p2, p3⟩ := hb.cells
  have HB := Lib.hid hb
  have HO := Lib.hid ho
  clear hb ho
  go_wp2_with fail
  go_ret
  exact ⟨rfl, HB.out, HO.out⟩
theorem tokens_nil (r : Int) (w : World) : Calls Try.prog 55 #[.pointer none, .int .i64 r] w fun e w' => e = .returned (.int .i64 0) ∧ w = w' := by
  go_enter Try.func55, Try.ntmps55
  go_wp2
  go_ret
  exact ⟨rfl, rfl⟩
/-- How many are left behind a Take. -/
def less (T : Int) : Int := if T = 0 then 0 else T - 1
theorem less_zero {T : Int} (h : T = 0) : less T = 0 := if_pos h
theorem less_pos {T : Int} (h : T ≠ 0) : less T = T - 1 := if_neg h
theorem Ok.less_ (h : Ok R C T N) : Ok R C (less T) N := by
  by_cases ht : T = 0
  · rw [less_zero ht, ← ht]; exact h
  · rw [less_pos ht]; exact h.take ht
def TPost (b : Nat) (v : Bool) (R C T N : Int) (w : World) (e : Ending) (w' : World) : Prop := e = .returned (.bool v) ∧ Bk w' b R C T N ∧ Ob b w w'
theorem take_any (h : Bk w b R C T N) (r : Int) : Calls Try.prog 45 #[.pointer (some ⟨b, 0, none⟩), .int .i64 r] w (TPost b (ctok R C T N r != 0) R C (less (ctok R C T N r)) (crnd N r) w) := by
  have H1 := Lib.hid (tokens_any h r)
  have HK := Lib.hid (h.ok.come r)
  generalize ctok R C T N r = T1 at *
  generalize crnd N r = N1 at *
  clear h
  by_cases h0 : T1 = 0
  · subst h0
    rw [less_zero rfl]
    go_enter Try.func45, Try.ntmps45
    go_wp2_with fail
    refine H1.out.mono ?_
    rintro e w1 ⟨rfl, hb, ho⟩
    have HB := Lib.hid hb
    have HO := Lib.hid ho
    clear hb ho
    go_wp2_with fail
    go_ret
    exact ⟨rfl, HB.out, HO.out⟩
  · have t0 : (T1 == 0) = false := by rw [beq_eq_false_iff_ne]; exact h0
    have HT : Hid ((T1 != 0) = true) := by show (T1 != 0) = true; rw [bne_iff_ne]; exact h0
    have HL : Hid (less T1 = T1 - 1) := less_pos h0
    have k1 := HK.out.t0
    have k2 := HK.out.t1
    have k3 := HK.out.c1
    have H2 := Lib.hid (HK.out.take h0)
    clear h0
    go_enter Try.func45, Try.ntmps45
    go_wp2_with fail
    refine H1.out.mono ?_
    rintro e w1 ⟨rfl, hb, ho⟩
    obtain ⟨p0, p1, p2, p3⟩ := hb.cells
    have fz := hb.frozen
    have HB : Hid (Bk (w1.setCell ⟨b, 2, none⟩ (.int .i64 (T1 - 1))) b R C (T1 - 1) N1) := hb.tok _ H2.out
    have HO : Hid (Ob b w (w1.setCell ⟨b, 2, none⟩ (.int .i64 (T1 - 1)))) := ho.set_ _ _
    clear hb ho
    go_wp2_with fail
    go_ret
    rw [HT.out, HL.out]
    exact ⟨rfl, HB.out, HO.out⟩
theorem take_nil (r : Int) (w : World) : Calls Try.prog 45 #[.pointer none, .int .i64 r] w fun e w' => e = .returned (.bool false) ∧ w = w' := by
  go_enter Try.func45, Try.ntmps45
  go_wp2_with (go_at_call 55; refine (tokens_nil _ _).mono ?_; rintro e w' ⟨rfl, rfl⟩)
  go_ret
  exact ⟨rfl, rfl⟩
/-- What Wait answers of a bucket in its round. -/
def wt (R T N : Int) : Int × Bool := if 0 < T then (N, true) else if R = 0 ∨ N = 4611686018427387904 then (0, false) else (N + 1, true)
theorem wt_has {R T N : Int} (h : 0 < T) : wt R T N = (N, true) := if_pos h
theorem wt_no {R T N : Int} (h : ¬ 0 < T) (h2 : R = 0 ∨ N = 4611686018427387904) : wt R T N = (0, false) := by unfold wt; rw [if_neg h, if_pos h2]
theorem wt_next {R T N : Int} (h : ¬ 0 < T) (h2 : ¬ (R = 0 ∨ N = 4611686018427387904)) : wt R T N = (N + 1, true) := by unfold wt; rw [if_neg h, if_neg h2]
def WPost (b : Nat) (v : Int × Bool) (R C T N : Int) (w : World) (e : Ending) (w' : World) : Prop := e = .returned (.tuple #[.int .i64 v.1, .bool v.2]) ∧ Bk w' b R C T N ∧ Ob b w w'
def RPost (b : Nat) (R C T N : Int) (w : World) (e : Ending) (w' : World) : Prop := e = .returned (.tuple #[]) ∧ Bk w' b R C T N ∧ Ob b w w'
end Go.Proofs.Ytgmcjkiofcpjbaa.K11
