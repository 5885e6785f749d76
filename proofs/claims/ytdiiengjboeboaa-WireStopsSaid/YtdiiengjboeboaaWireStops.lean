/- At the landed commit, for any bytes and any widths: behind an error a reader tells nothing any more, and the error stays; before one, what is left is less by the width. Conditions: none. -/
import Derived.Test.YtdiiengjboeboaaRow
import Derived.IntWalk
namespace Go.Proofs.Ytdiiengjboeboaa.wireStops
open Go.ChangeShapes Go.WideShapes Go.ChangeAt Go.RowKit
open Go.Proofs.Ytdiiengjboeboaa.Wire

def Inv (w : World) (b n : Nat) (f i : Value) (wr : World) : Prop := ∃ (k : Nat) (e : Int) (l : List UInt8), k ≤ n ∧ i = .int .i64 k ∧ f = .int .i64 e ∧ Rdr wr b l e ∧ ((e == 0) = false → l = []) ∧ l.length ≤ 200 ∧ Below w.heap.size w wr
/-- What Next may do where there was no error. -/
theorem next_ways {w : World} {b : Nat} {l : List UInt8} (h : Rdr w b l 0) (hm : l.length ≤ 4096) (n : Int) :
    (∃ e : Int, (e == 0) = false ∧ Calls Try.prog 20 #[.pointer (some ⟨b, 0, none⟩), .int .i64 n] w (NextPost w b 0 [] e)) ∨
    (∃ (v : Int) (l2 : List UInt8), 0 ≤ v ∧ 0 ≤ n ∧ (l2.length : Int) = l.length - n ∧ l2.length ≤ l.length ∧ Calls Try.prog 20 #[.pointer (some ⟨b, 0, none⟩), .int .i64 n] w (NextPost w b v l2 0)) := by
  by_cases hs : sz n = false
  · exact .inl ⟨8, rfl, next_form h n hs⟩
  · have hs' : sz n = true := by simpa using hs
    by_cases hl : (l.length : Int) < n
    · refine .inl ⟨9, rfl, ?_⟩
      rcases of_decide_eq_true hs' with rfl | rfl | rfl
      · exact next_short1 h (by omega)
      · exact next_short2 h (by omega)
      · exact next_short4 h (by omega)
    · have n0 := nth_bd l 0; have n1 := nth_bd l 1; have n2 := nth_bd l 2; have n3 := nth_bd l 3
      right
      rcases of_decide_eq_true hs' with rfl | rfl | rfl
      · exact ⟨be l 1, l.drop 1, by simp [be]; omega, by omega, by simp; omega, by simp, next_1 h (by omega) hm⟩
      · exact ⟨be l 2, l.drop 2, by simp [be]; omega, by omega, by simp; omega, by simp, next_2 h (by omega) hm⟩
      · exact ⟨be l 4, l.drop 4, by simp [be]; omega, by omega, by simp; omega, by simp, next_4 h (by omega) hm⟩
theorem quiet_left {P : Program} {f : FuncId} {args : Array Value} {w : World} {n : Nat} {v : Value}
    (h : Calls P f args (w.drewN n) fun e w' => e = .returned v ∧ w.drewN n = w') : Calls P f args (w.drewN n) fun e w'' => e = .returned v ∧ ∃ m, w'' = w.drewN m :=
  h.mono fun _ _ ⟨he, hm⟩ => ⟨he, n, hm.symm⟩

theorem below_drewN {B : Nat} {a w : World} (h : Below B a w) (n : Nat) : Below B a (w.drewN n) := ⟨h.os, h.tape, h.output, h.size, h.block⟩
set_option maxRecDepth 100000 in
theorem walk {w : World} {A A2 : Option Addr} {l : List UInt8} {c n c2 : Nat} {z : Nat → Int} (hr : Rd w A l) (hl : l.length ≤ c) (hc : c ≤ 9223372036854775807) (hz : Ints w A2 n z) :
    Calls Try.prog 8 #[.slice A l.length c, .slice A2 n c2] w fun e w' => e = .returned (.bool true) ∧ Below w.heap.size w w' := by
  have HZ := Lib.hid hz; clear hz
  have HR := Lib.hid hr; clear hr
  go_enter Try.func8, Try.ntmps8
  go_wp2_with fail
  refine (lives_any _).mono ?_
  rintro e w1 ⟨rfl, hb1⟩
  go_wp2_with fail
  refine (first_any (HR.out.below hb1) hl hc).mono ?_
  rintro e w' ⟨p, rfl, hp, hpc, hpe, hrp, rfl⟩
  have HRP := Lib.hid hrp; clear hrp hpe
  go_wp2_with fail
  refine (read_any HRP.out (by omega)).mono ?_
  rintro e w2 ⟨b, rfl, hb, h2, hb2⟩
  have hB : w.heap.size ≤ b := bs hb1 hb
  have hS2 : Below w.heap.size w w2 := bt hb1 hb2
  have H2 := Lib.hid h2; clear h2
  go_wp2_with fail
  go_loopw [6, 7] (fun f i wr => Inv w b n f i wr) (fun _ i _ => n - (intOf i).toNat)
  case atStart => exact ⟨0, 0, p, by omega, rfl, rfl, H2.out, (fun h => by cases h), hp, hS2⟩
  case round =>
    obtain ⟨k, e, l', hk, rfl, rfl, hrd, hne, hl', hS⟩ := hrel
    have HRD := Lib.hid hrd; clear hrd
    by_cases hlt : k < n
    · by_cases h60 : k < 60
      · obtain ⟨zb, zo, rfl, hzb, hzc, hz1, hz2⟩ := HZ.out.at_ hS hlt
        by_cases he : (e == 0) = false
        · have he' : (e != 0) = true := by simpa using he
          obtain rfl := hne he
          clear hne
          go_wp2_with fail
          refine (left_any HRD.out).mono ?_
          rintro e w' ⟨rfl, rfl⟩
          go_wp2_with fail
          refine (next_err HRD.out _ he).mono ?_
          rintro e w3 ⟨rfl, h3, g3⟩
          have hS3 : Below w.heap.size w w3 := bg hS g3 hB
          have H3 := Lib.hid h3; clear h3
          have hzc3 : w3.cell? ⟨zb, zo + k, none⟩ = some (.int .i64 (z k)) := by
            rw [hS3.cell (p := ⟨zb, zo + k, none⟩) hzb, ← hS.cell (p := ⟨zb, zo + k, none⟩) hzb]; exact hzc
          clear hzc
          go_wp2_with (first | (go_at_call 21; refine (err_any H3.out).mono ?_; rintro e w' ⟨rfl, rfl⟩) | (go_at_call 22; refine (left_any H3.out).mono ?_; rintro e w' ⟨rfl, rfl⟩))
          go_quiet (fail)
          go_wp2_with (first | (go_at_call 21; refine (err_any (H3.out.drewN _)).mono ?_; rintro e w' ⟨rfl, rfl⟩))
          go_roundw
          case rel => exact ⟨k + 1, e, [], by omega, by go_num, rfl, H3.out.drewN _, (fun _ => rfl), by simp, below_drewN hS3 _⟩
          case measure => simp [intOf]; omega
        · obtain rfl : e = 0 := by simpa using he
          clear he hne
          have f1 : (0 : Int) ≤ k := by omega
          have f2 : (k : Int) < n := by omega
          rcases next_ways HRD.out (by omega) (z k) with ⟨e2, he2, hcall⟩ | ⟨v, l2, hv, hzk, hl2, hl3, hcall⟩
          · have HC := Lib.hid hcall; clear hcall
            go_wp2_with fail
            refine (left_any HRD.out).mono ?_
            rintro e w' ⟨rfl, rfl⟩
            go_wp2_with fail
            refine HC.out.mono ?_
            rintro e w3 ⟨rfl, h3, g3⟩
            have hS3 : Below w.heap.size w w3 := bg hS g3 hB
            have H3 := Lib.hid h3; clear h3
            go_wp2_with (first | (go_at_call 21; refine (err_any H3.out).mono ?_; rintro e w' ⟨rfl, rfl⟩) | (go_at_call 22; refine (left_any H3.out).mono ?_; rintro e w' ⟨rfl, rfl⟩))
            go_quiet ((go_at_call 21; exact quiet_left (err_any (H3.out.drewN _))))
            go_wp2_with (first | (go_at_call 21; refine (err_any (H3.out.drewN _)).mono ?_; rintro e w' ⟨rfl, rfl⟩))
            go_roundw
            case rel => exact ⟨k + 1, e2, [], by omega, by go_num, rfl, H3.out.drewN _, (fun _ => rfl), by simp, below_drewN hS3 _⟩
            case measure => simp [intOf]; omega
          · have HC := Lib.hid hcall; clear hcall
            have tv : decide (v < 0) = false := decide_eq_false (by omega)
            go_wp2_with fail
            refine (left_any HRD.out).mono ?_
            rintro e w' ⟨rfl, rfl⟩
            go_wp2_with fail
            refine HC.out.mono ?_
            rintro e w3 ⟨rfl, h3, g3⟩
            have hS3 : Below w.heap.size w w3 := bg hS g3 hB
            have H3 := Lib.hid h3; clear h3
            have hzc3 : w3.cell? ⟨zb, zo + k, none⟩ = some (.int .i64 (z k)) := by
              rw [hS3.cell (p := ⟨zb, zo + k, none⟩) hzb, ← hS.cell (p := ⟨zb, zo + k, none⟩) hzb]; exact hzc
            clear hzc
            have HL2 := Lib.hid hl2
            go_wp2_with (first | (go_at_call 21; refine (err_any H3.out).mono ?_; rintro e w' ⟨rfl, rfl⟩) | (go_at_call 22; refine (left_any H3.out).mono ?_; rintro e w' ⟨rfl, rfl⟩))
            have hwrap : IntKind.i64.wrap ((l'.length : Int) - z k) = (l2.length : Int) := by rw [← HL2.out]; exact IntWalk.i64_in _ (by omega)
            clear hl2
            go_quiet ((first | (go_at_call 21; exact quiet_left (err_any (H3.out.drewN _))) | (go_at_call 22; exact quiet_left (left_any (H3.out.drewN _)))))
            clear hwrap
            go_wp2_with (first | (go_at_call 21; refine (err_any (H3.out.drewN _)).mono ?_; rintro e w' ⟨rfl, rfl⟩))
            go_roundw
            case rel => exact ⟨k + 1, 0, l2, by omega, by go_num, rfl, H3.out.drewN _, (fun h => by cases h), by omega, below_drewN hS3 _⟩
            case measure => simp [intOf]; omega
      · go_wp2_with (first | (go_at_call 20; refine (next_nil 1 _).mono ?_; rintro e w' ⟨rfl, rfl⟩) | (go_at_call 21; refine (err_nil _).mono ?_; rintro e w' ⟨rfl, rfl⟩) | (go_at_call 22; refine (left_nil _).mono ?_; rintro e w' ⟨rfl, rfl⟩) | (go_at_call 23; refine (end_nil _).mono ?_; rintro e w' ⟨rfl, rfl⟩))
        go_ret
        exact ⟨rfl, hS⟩
    · go_wp2_with (first | (go_at_call 20; refine (next_nil 1 _).mono ?_; rintro e w' ⟨rfl, rfl⟩) | (go_at_call 21; refine (err_nil _).mono ?_; rintro e w' ⟨rfl, rfl⟩) | (go_at_call 22; refine (left_nil _).mono ?_; rintro e w' ⟨rfl, rfl⟩) | (go_at_call 23; refine (end_nil _).mono ?_; rintro e w' ⟨rfl, rfl⟩))
      go_ret
      exact ⟨rfl, hS⟩

/-! ### The row -/
set_option maxHeartbeats 400000 in
set_option maxRecDepth 100000 in
theorem lifted (os : Os) (started : os.Started) (H : Type) (enc : TypeId × Value → H) :
    ReturnsInHanded {} Try.checked os 8 .any (Rows.wireStopsSpec.pre6 enc Try.prog Try.f8 Rows.wireStopsRow.domain false) (Rows.wireStopsSpec.post enc Try.prog Try.f8 false true false false) := by
  refine returnsInHanded_of_change (C := Try.checked) own started (by kernel_rfl) Try.func8
    (ChangeSpec.witness6 (enc := enc) (C := Try.checked) false ⟨#[], #[.slice none 0 0, .slice none 0 0], []⟩ 8 (by kernel_rfl) (by kernel_rfl) (by kernel_rfl) (by kernel_rfl)) ?_
  intro W base args ds gs before hval0 hW hcnd _
  have hval : ∀ (j : Nat) t v, Try.f8.params[j]? = some t → args[j]? = some v → Value.okWide Try.prog W .any base t v := hval0
  have hW' := hW
  obtain ⟨p, q, hA0, hV, rfl, _, _⟩ := hW
  have hA : DataW.TrodAll enc Try.prog W 0 (fun _ => true) true Try.f8.params.toList args.toList ds p := hA0
  rw [Try.params8] at hA hval
  obtain ⟨v0, vs0, d0, ds0, p0, q0, hargs, rfl, rfl, h0, r0⟩ := trodAll_cons hA
  obtain ⟨v1, vs1, d1, ds1, p1, q1, rfl, rfl, rfl, h1, r1⟩ := trodAll_cons r0
  obtain ⟨rfl, rfl, rfl⟩ := trodAll_nil r1
  obtain rfl : args = #[v0, v1] := by cases args; simp_all
  obtain ⟨rfl, rfl⟩ := trodVars_none hV
  obtain ⟨A0, l0, c0, rfl, hn0, hc0, hr0⟩ := open_bytes (hval 0 22 v0 rfl rfl) h0
  obtain ⟨A1, n1, c1, z1, rfl, hn1, hc1, hr1⟩ := open_numbers (hval 1 31 v1 rfl rfl) h1
  clear hA0 hval0
  refine (walk hr0 hn0 hc0 hr1).mono fun e W' ⟨he, hb⟩ => ?_
  subst he
  exact ⟨_, rfl, post_true hW' rfl rfl (by kernel_rfl) rfl hb⟩

theorem over : Rows.wireStopsRow.holds Try.pinned (OpenSpec.ofChange Rows.wireStopsSpec) :=
  OpenClaim.holds_of_wide 8 Try.f8 rfl rfl rfl rfl rfl rfl rfl ⟨rfl, rfl, rfl, rfl, rfl⟩ rfl rfl rfl rfl rfl (by kernel_rfl) Try.func8 (by kernel_rfl)
    (of_decide_eq_true (by kernel_rfl)) (by unfold Func.isWrapper; first | (rw [if_pos (by decide +kernel)]; kernel_rfl) | (rw [if_neg (by decide +kernel)]; exact ⟨rfl, rfl⟩))
    (fun os started H enc _ => lifted os started H enc)
end Go.Proofs.Ytdiiengjboeboaa.wireStops
namespace Go.Proofs.Ytdiiengjboeboaa
theorem wireStops_holds : Rows.WireStopsSaid := wireStops.over
#print axioms wireStops_holds
end Go.Proofs.Ytdiiengjboeboaa
