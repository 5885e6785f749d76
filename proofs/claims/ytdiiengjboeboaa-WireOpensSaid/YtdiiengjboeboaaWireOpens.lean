/- At the landed commit, for any bytes: what is opened of them (of the first 200), or why none is, is what the document says. Conditions: none. -/
import Derived.Test.YtdiiengjboeboaaRef2
namespace Go.Proofs.Ytdiiengjboeboaa.wireOpens
open Go.ChangeShapes Go.WideShapes Go.ChangeAt Go.RowKit
open Go.Proofs.Ytdiiengjboeboaa.Wire

theorem walk {w : World} {A : Option Addr} {l : List UInt8} {c : Nat} (hr : Rd w A l) (hl : l.length ≤ c) (hc : c ≤ 9223372036854775807) :
    Calls Try.prog 5 #[.slice A l.length c] w fun e w' => e = .returned (.bool true) ∧ Below w.heap.size w w' := by
  have HR := Lib.hid hr; clear hr
  go_enter Try.func5, Try.ntmps5
  go_wp2_with fail
  refine (lives_any _).mono ?_
  rintro e w1 ⟨rfl, hb1⟩
  go_wp2_with fail
  refine (first_any (HR.out.below hb1) hl hc).mono ?_
  rintro e w' ⟨p, rfl, hp, hpc, hpe, hrp, rfl⟩
  have HRP := Lib.hid hrp; clear hrp hpe
  go_wp2_with fail
  refine (open_any HRP.out (by omega) hpc).mono ?_
  rintro e w2 ⟨x2, rfl, hx2, hb2⟩
  have HX2 := Lib.hid hx2; clear hx2
  go_wp2_with fail
  refine (ropen_any (HRP.out.below hb2) (by omega) hpc hc).mono ?_
  rintro e w3 ⟨x3, rfl, hx3, hb3⟩
  have cv1 : (convert 22 9 x2).run Try.prog w3 = .ok (.string ⟨(openL p).toArray⟩) w3 := conv_lst (HX2.out.below hb3)
  have cv2 : (convert 22 9 x3).run Try.prog w3 = .ok (.string ⟨(openL p).toArray⟩) w3 := hx3.conv
  have hS : Below w.heap.size w w3 := bt (bt hb1 hb2) hb3
  clear hx3
  go_wp2
  go_ret
  exact ⟨rfl, hS⟩

/-! ### The row -/
set_option maxHeartbeats 400000 in
set_option maxRecDepth 100000 in
theorem lifted (os : Os) (started : os.Started) (H : Type) (enc : TypeId × Value → H) :
    ReturnsInHanded {} Try.checked os 5 .any (Rows.wireOpensSpec.pre6 enc Try.prog Try.f5 Rows.wireOpensRow.domain false) (Rows.wireOpensSpec.post enc Try.prog Try.f5 false true false false) := by
  refine returnsInHanded_of_change (C := Try.checked) own started (by kernel_rfl) Try.func5
    (ChangeSpec.witness6 (enc := enc) (C := Try.checked) false ⟨#[], #[.slice none 0 0], []⟩ 8 (by kernel_rfl) (by kernel_rfl) (by kernel_rfl) (by kernel_rfl)) ?_
  intro W base args ds gs before hval0 hW hcnd _
  have hval : ∀ (j : Nat) t v, Try.f5.params[j]? = some t → args[j]? = some v → Value.okWide Try.prog W .any base t v := hval0
  have hW' := hW
  obtain ⟨p, q, hA0, hV, rfl, _, _⟩ := hW
  have hA : DataW.TrodAll enc Try.prog W 0 (fun _ => true) true Try.f5.params.toList args.toList ds p := hA0
  rw [Try.params5] at hA hval
  obtain ⟨v0, vs0, d0, ds0, p0, q0, hargs, rfl, rfl, h0, r0⟩ := trodAll_cons hA
  obtain ⟨rfl, rfl, rfl⟩ := trodAll_nil r0
  obtain rfl : args = #[v0] := by cases args; simp_all
  obtain ⟨rfl, rfl⟩ := trodVars_none hV
  obtain ⟨A0, l0, c0, rfl, hn0, hc0, hr0⟩ := open_bytes (hval 0 22 v0 rfl rfl) h0
  clear hA0 hval0
  refine (walk hr0 hn0 hc0).mono fun e W' ⟨he, hb⟩ => ?_
  subst he
  exact ⟨_, rfl, post_true hW' rfl rfl (by kernel_rfl) rfl hb⟩

theorem over : Rows.wireOpensRow.holds Try.pinned (OpenSpec.ofChange Rows.wireOpensSpec) :=
  OpenClaim.holds_of_wide 5 Try.f5 rfl rfl rfl rfl rfl rfl rfl ⟨rfl, rfl, rfl, rfl, rfl⟩ rfl rfl rfl rfl rfl (by kernel_rfl) Try.func5 (by kernel_rfl)
    (of_decide_eq_true (by kernel_rfl)) (by unfold Func.isWrapper; first | (rw [if_pos (by decide +kernel)]; kernel_rfl) | (rw [if_neg (by decide +kernel)]; exact ⟨rfl, rfl⟩))
    (fun os started H enc _ => lifted os started H enc)
end Go.Proofs.Ytdiiengjboeboaa.wireOpens
namespace Go.Proofs.Ytdiiengjboeboaa
theorem wireOpens_holds : Rows.WireOpensSaid := wireOpens.over
#print axioms wireOpens_holds
end Go.Proofs.Ytdiiengjboeboaa
