/- The first check of every statement of stage 11 ('lives'): the document's example. -/
import Derived.Test.YtfbbgoahipejlaaK2
import Derived.LoopTactic
namespace Go.Proofs.Ytfbbgoahipejlaa.K11
open Go.RowKit Go.Proofs.Ytfbbgoahipejlaa.G Go.Proofs.Ytfbbgoahipejlaa.Sat
set_option maxRecDepth 100000
variable {w w' : World} {b : Nat} {R C T N r : Int}
/-- A bucket of the call's own, behind all that was there. -/
structure Mine (w0 w : World) (b : Nat) (R C T N : Int) : Prop where
  bk : Bk w b R C T N
  ge : w0.heap.size ≤ b
  bl : Below w0.heap.size w0 w
variable {w0 : World}
theorem Mine.step {T' N' : Int} (h : Mine w0 w b R C T N) (hb : Bk w' b R C T' N') (ho : Ob b w w') : Mine w0 w' b R C T' N' := ⟨hb, h.ge, Ob.to_below h.bl ho h.bl.size h.ge⟩
theorem Mine.below (h : Mine w0 w b R C T N) (hb : Below w.heap.size w w') : Mine w0 w' b R C T N := ⟨h.bk.below hb, h.ge, bt h.bl hb⟩
theorem Mine.old {w00 : World} (h : Mine w0 w b R C T N) (hb : Below w00.heap.size w00 w0) : Mine w00 w b R C T N := ⟨h.bk, Nat.le_trans hb.size h.ge, bt hb h.bl⟩
def mt (k : Nat) : Nat := if k < 3 then k else 3
def m2 (k : Nat) : Nat := if k < 2 then k else 2
theorem lc1 (T : Int) (h0 : 0 ≤ T) (h1 : T ≤ 3) : ctok 2 3 T 0 0 = T ∧ crnd 0 0 = 0 := come_same ⟨by decide, by decide, by decide, by decide, h0, h1, by decide, by decide⟩ (by decide)
theorem lc2 (T : Int) (h0 : 0 ≤ T) (h1 : T ≤ 3) : ctok 2 3 T 1 1 = T ∧ crnd 1 1 = 1 := come_same ⟨by decide, by decide, by decide, by decide, h0, h1, by decide, by decide⟩ (by decide)
theorem lc3 (T : Int) (h0 : 0 ≤ T) (h1 : T ≤ 3) : ctok 2 3 T 1 1 = T ∧ crnd 1 1 = 1 := lc2 T h0 h1
def MPost (v : Value) (w0 : World) (b : Nat) (R C T N : Int) (e : Ending) (w' : World) : Prop := e = .returned v ∧ Mine w0 w' b R C T N
theorem take_m (h : Mine w0 w b R C T N) (r : Int) : Calls Try.prog 15 #[.pointer (some ⟨b, 0, none⟩), .int .i64 r] w (MPost (.bool (ctok R C T N r != 0)) w0 b R C (less (ctok R C T N r)) (crnd N r)) :=
  (take_any h.bk r).mono fun _ _ ⟨he, hb, ho⟩ => ⟨he, h.step hb ho⟩
theorem tokens_m (h : Mine w0 w b R C T N) (r : Int) : Calls Try.prog 17 #[.pointer (some ⟨b, 0, none⟩), .int .i64 r] w (MPost (.int .i64 (ctok R C T N r)) w0 b R C (ctok R C T N r) (crnd N r)) :=
  (tokens_any h.bk r).mono fun _ _ ⟨he, hb, ho⟩ => ⟨he, h.step hb ho⟩
theorem wait_m (h : Mine w0 w b R C T N) (r : Int) : Calls Try.prog 19 #[.pointer (some ⟨b, 0, none⟩), .int .i64 r] w (MPost (.tuple #[.int .i64 (wt R (ctok R C T N r) (crnd N r)).1, .bool (wt R (ctok R C T N r) (crnd N r)).2]) w0 b R C (ctok R C T N r) (crnd N r)) :=
  (wait_any h.bk r).mono fun _ _ ⟨he, hb, ho⟩ => ⟨he, h.step hb ho⟩
theorem reset_m (h : Mine w0 w b R C T N) (r : Int) : Calls Try.prog 20 #[.pointer (some ⟨b, 0, none⟩), .int .i64 r] w (MPost (.tuple #[]) w0 b R C C (crnd N r)) :=
  (reset_any h.bk r).mono fun _ _ ⟨he, hb, ho⟩ => ⟨he, h.step hb ho⟩
def NmPost (w0 : World) (R C : Int) (e : Ending) (w' : World) : Prop := ∃ b, e = .returned (.pointer (some ⟨b, 0, none⟩)) ∧ Mine w0 w' b R C C 0
theorem new_m (r c : Int) (w : World) : Calls Try.prog 10 #[.int .i64 r, .int .i64 c] w (NmPost w (rof r) (cof c)) :=
  (new_any r c w).mono fun _ _ ⟨b, he, hb, hg, hB⟩ => ⟨b, he, hb, hg, hB⟩
/-! ### Plain facts -/
theorem full_tok (h : Ok R C C N) (r : Int) : ctok R C C N r = C := by
  have h1 := add_bd C (mul R (sub r N))
  have h2 : C ≤ add C (mul R (sub r N)) := by
    unfold add
    rw [cut_id C (by have := h.c0; omega) (by have := h.c1; omega)]
    have h3 := cut_bd (mul R (sub r N))
    have h4 := h.c1
    rcases Int.lt_or_le 4611686018427387904 (C + cut (mul R (sub r N))) with h5 | h5
    · rw [cut_hi _ (by omega)]; omega
    · rw [cut_id _ (by have := h.c0; omega) h5]; omega
  unfold ctok
  omega
/-- Behind a round that is d rounds ahead, not too far. -/
theorem tok_ahead (h : Ok R C T N) {r d : Int} (hr : r = N + d) (hd : 0 ≤ d) (hN : N + d ≤ 4611686018427387904) (hd2 : d ≤ 10000000000) : ctok R C T N r = min (T + d * R) C ∧ crnd N r = r := by
  subst hr
  obtain ⟨a, b, c, d', e, f, g, i⟩ := h
  have h1 : cut (N + d) = N + d := cut_id _ (by omega) hN
  have h2 : sub (N + d) N = d := by unfold sub; rw [h1, cut_id N g i, show N + d - N = d by omega]; exact cut_id d hd (by omega)
  have m0 : 0 ≤ R * d := Int.mul_nonneg a hd
  have m1 : R * d ≤ 64 * 10000000000 := Int.mul_le_mul b hd2 hd (by omega)
  have h3 : mul R d = d * R := by unfold mul; rw [cut_id R a (by omega), cut_id d hd (by omega), cut_id _ m0 (by omega), Int.mul_comm]
  have m2 : d * R = R * d := Int.mul_comm _ _
  have h4 : add T (d * R) = T + d * R := by unfold add; rw [cut_id T e (by omega), cut_id (d * R) (by omega) (by omega)]; exact cut_id _ (by omega) (by omega)
  unfold ctok crnd
  rw [h2, h3, h4, h1]
  exact ⟨rfl, by omega⟩
theorem ne_true {x : Int} (h : x ≠ 0) : (x != 0) = true := by rw [bne_iff_ne]; exact h
set_option maxHeartbeats 1000000 in
theorem lives_any (w : World) : Calls Try.prog 9 #[] w fun e w' => e = .returned (.bool true) ∧ Below w.heap.size w w' := by
  have HR : Hid (rof 2 = 2 ∧ cof 3 = 3) := by show rof 2 = 2 ∧ cof 3 = 3; decide
  go_enter Try.func9, Try.ntmps9
  go_wp2_with fail
  refine (new_m 2 3 _).mono ?_
  rintro e w1 ⟨b, rfl, hm⟩
  rw [HR.out.1, HR.out.2] at hm
  have HM := Lib.hid hm
  clear hm
  go_wp2_with fail
  go_loopw [2, 3] (fun nv iv V => ∃ k : Nat, nv = .int .i64 (mt k : Nat) ∧ iv = .int .i64 k ∧ k ≤ 9 ∧ Mine w V b 2 3 (3 - (mt k : Nat)) 0) (fun _ iv _ => 9 - (intOf iv).toNat)
  case atStart => exact ⟨0, rfl, rfl, by omega, HM.out⟩
  case round =>
    obtain ⟨k, rfl, rfl, hk, hm⟩ := hrel
    have HM1 := Lib.hid hm
    clear hm HM
    by_cases hlt : k < 9
    · have hl : (k : Int) < 9 := by omega
      obtain ⟨m, hmk⟩ : ∃ m, mt k = m := ⟨_, rfl⟩
      have hm3 : m ≤ 3 := by rw [← hmk]; unfold mt; split <;> omega
      rw [hmk] at HM1 ⊢
      obtain ⟨c1, c2⟩ := lc1 (3 - (m : Int)) (by omega) (by omega)
      have HK := Lib.hid (take_m HM1.out 0)
      rw [c1, c2] at HK
      have hc : ((3 - (m : Int) != 0) = true ∧ less (3 - (m : Int)) = 3 - ((m + 1 : Nat) : Int) ∧ mt (k + 1) = m + 1) ∨ ((3 - (m : Int) != 0) = false ∧ less (3 - (m : Int)) = 3 - (m : Int) ∧ mt (k + 1) = m) := by
        by_cases h3 : m = 3
        · right
          subst h3
          refine ⟨by decide, by decide, ?_⟩
          unfold mt at hmk ⊢
          split at hmk <;> split <;> omega
        · left
          refine ⟨by rw [bne_iff_ne]; omega, ?_, ?_⟩
          · rw [less_pos (by omega)]; push_cast; omega
          · unfold mt at hmk ⊢
            split at hmk <;> split <;> omega
      rcases hc with ⟨d1, d2, d3⟩ | ⟨d1, d2, d3⟩
      all_goals
        rw [d1, d2] at HK
        have HD := Lib.hid d3
        clear c1 c2 d1 d2 d3 hmk
        go_wp2_with fail
        refine HK.out.mono ?_
        rintro e w2 ⟨rfl, hm2⟩
        have HM2 := Lib.hid hm2
        clear hm2
        go_wp2_with fail
        go_roundw
        case rel => exact ⟨k + 1, by rw [HD.out]; try rfl, by go_num, by omega, by rw [HD.out]; exact HM2.out⟩
        case measure => simp [intOf] <;> omega
    · obtain rfl : k = 9 := by omega
      have h9 : mt 9 = 3 := rfl
      rw [h9] at HM1 ⊢
      have HW := Lib.hid (wait_m HM1.out 0)
      rw [show ctok 2 3 (3 - ((3 : Nat) : Int)) 0 0 = 0 by decide, show crnd 0 0 = 0 by decide, show wt 2 0 0 = (1, true) by decide] at HW
      go_wp2_with fail
      refine HW.out.mono ?_
      rintro e w3 ⟨rfl, hm3⟩
      have HM3 := Lib.hid hm3
      clear hm3 HM1 HW
      go_wp2_with fail
      have HT : Hid (∃ T N, Mine w w3 b 2 3 T N ∧ ctok 2 3 T N 1 = 2 - (m2 0 : Nat) ∧ crnd N 1 = 1) := ⟨0, 0, HM3.out, by decide, by decide⟩
      go_loopw [2, 6] (fun nv iv V => ∃ k : Nat, nv = .int .i64 (3 + 10 * (m2 k : Nat)) ∧ iv = .int .i64 k ∧ k ≤ 9 ∧ ∃ T N, Mine w V b 2 3 T N ∧ ctok 2 3 T N 1 = 2 - (m2 k : Nat) ∧ crnd N 1 = 1) (fun _ iv _ => 9 - (intOf iv).toNat)
      case atStart => exact ⟨0, rfl, rfl, by omega, HT.out⟩
      case round =>
        obtain ⟨k, rfl, rfl, hk, T, N, hm, c1, c2⟩ := hrel
        have HM1 := Lib.hid hm
        clear hm HM3 HT
        by_cases hlt : k < 9
        · have hl : (k : Int) < 9 := by omega
          obtain ⟨m, hmk⟩ : ∃ m, m2 k = m := ⟨_, rfl⟩
          have hm3 : m ≤ 2 := by rw [← hmk]; unfold m2; split <;> omega
          rw [hmk] at c1 ⊢
          have HK := Lib.hid (take_m HM1.out 1)
          rw [c1, c2] at HK
          have hc : ((2 - (m : Int) != 0) = true ∧ less (2 - (m : Int)) = 2 - ((m + 1 : Nat) : Int) ∧ m2 (k + 1) = m + 1) ∨ ((2 - (m : Int) != 0) = false ∧ less (2 - (m : Int)) = 2 - (m : Int) ∧ m2 (k + 1) = m) := by
            by_cases h3 : m = 2
            · right
              subst h3
              refine ⟨by decide, by decide, ?_⟩
              unfold m2 at hmk ⊢
              split at hmk <;> split <;> omega
            · left
              refine ⟨by rw [bne_iff_ne]; omega, ?_, ?_⟩
              · rw [less_pos (by omega)]; push_cast; omega
              · unfold m2 at hmk ⊢
                split at hmk <;> split <;> omega
          rcases hc with ⟨d1, d2, d3⟩ | ⟨d1, d2, d3⟩
          all_goals
            rw [d1, d2] at HK
            have HD := Lib.hid d3
            clear c1 c2 d1 d2 d3 hmk
            go_wp2_with fail
            refine HK.out.mono ?_
            rintro e w4 ⟨rfl, hm4⟩
            have HM4 := Lib.hid hm4
            clear hm4
            go_wp2_with fail
            go_roundw
            case rel => exact ⟨k + 1, by rw [HD.out]; try (first | rfl | go_num), by go_num, by omega, _, _, HM4.out, by rw [HD.out]; exact (lc3 _ HM4.out.bk.ok.t0 HM4.out.bk.ok.t1).1, by decide⟩
            case measure => simp [intOf] <;> omega
        · obtain rfl : k = 9 := by omega
          have h9 : m2 9 = 2 := rfl
          rw [h9]
          clear c1 c2
          have HMo : Hid (∀ V, Calls Try.prog 24 #[.int .i64 2, .int .i64 3, .int .i64 4] V fun e w' => e = .returned (.int .i64 11) ∧ V = w') := fun V => by
            have := most_any 2 3 4 V
            rw [show add (cof 3) (mul (rof 2) 4) = 11 by decide] at this
            exact this
          go_wp2_with (go_at_call 24; refine (HMo.out _).mono ?_; rintro e w' ⟨rfl, rfl⟩)
          go_ret
          exact ⟨rfl, HM1.out.bl⟩
end Go.Proofs.Ytfbbgoahipejlaa.K11
