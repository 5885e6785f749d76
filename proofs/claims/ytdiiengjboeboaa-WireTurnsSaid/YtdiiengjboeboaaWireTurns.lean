/- At the landed commit, for any bytes, any place and any byte: what is sealed is opened; with one byte turned, wherever, it isn't. Conditions: none. -/
import Derived.Test.YtdiiengjboeboaaTurn
namespace Go.Proofs.Ytdiiengjboeboaa.wireTurns
open Go.ChangeShapes Go.WideShapes Go.ChangeAt Go.RowKit
open Go.Proofs.Ytdiiengjboeboaa.Wire

theorem walk {w : World} {A : Option Addr} {l : List UInt8} {c : Nat} {pl : Int} {y : UInt8} (hr : Rd w A l) (hl : l.length ≤ c) (hc : c ≤ 9223372036854775807) :
    Calls Try.prog 7 #[.slice A l.length c, .int .i64 pl, .int .u8 (y.toNat : Int)] w fun e w' => e = .returned (.bool true) ∧ Below w.heap.size w w' := by
  have HR := Lib.hid hr; clear hr
  go_enter Try.func7, Try.ntmps7
  go_wp2_with fail
  refine (lives_any _).mono ?_
  rintro e w1 ⟨rfl, hb1⟩
  go_wp2_with fail
  refine (first_any (HR.out.below hb1) hl hc).mono ?_
  rintro e w' ⟨p, rfl, hp, hpc, hpe, hrp, rfl⟩
  have HRP := Lib.hid hrp; clear hrp hpe
  go_wp2_with fail
  refine (seal_any HRP.out (by omega)).mono ?_
  rintro e w2 ⟨x2, rfl, hx2, hb2⟩
  have hS2 : Below w.heap.size w w2 := bt hb1 hb2
  obtain ⟨g, c2, cur, rfl, hg, hblk, hc2, hm2, hcur⟩ := hx2.row (by rw [sealL_length]; omega)
  have hlen := sealL_length p
  have hgw : w.heap.size ≤ g := bs hb1 hg
  rw [hlen] at hc2
  have HLEN := Lib.hid hlen
  have HBLK := Lib.hid hblk
  have HCUR := Lib.hid hcur
  have CO : Hid (Calls Try.prog 25 #[.slice (some ⟨g, 0, none⟩) (p.length + 2) c2] w2 (PairPost w2 p 0)) := by
    have := open_any (c := c2) (rd_of_row hblk hcur) (by omega) (by omega)
    rw [(open_seal p).1, (open_seal p).2, hlen] at this
    exact this
  rw [hlen]
  unfold maxLen at hm2
  clear hx2 hblk hcur hlen
  go_wp2_with fail
  refine CO.out.mono ?_
  rintro e w3 ⟨x3, rfl, hx3, hb3⟩
  have hS3 : Below w.heap.size w w3 := bt hS2 hb3
  have cv1 := conv_lst hx3
  have cv2 := conv_any (HRP.out.below (bt hb2 hb3)) c
  obtain ⟨A3, c3, rfl, _, hc3, _, _⟩ := hx3.rd
  unfold str at cv1 cv2
  clear hx3
  have q0 : 0 ≤ (IntKind.u64.wrap pl).tmod (p.length + 2) := Int.tmod_nonneg _ (by rw [IntKind.wrap_u64]; omega)
  have q1 : (IntKind.u64.wrap pl).tmod (p.length + 2) < p.length + 2 := Int.tmod_lt_of_pos _ (by omega)
  obtain ⟨q, hq⟩ : ∃ q : Nat, (IntKind.u64.wrap pl).tmod (p.length + 2) = q := ⟨_, (Int.toNat_of_nonneg q0).symm⟩
  rw [hq] at q0 q1
  have hqs : q < (sealL p).length := by rw [HLEN.out]; omega
  have B3 := HBLK.out.below hb3 HBLK.out.lt
  have hcell : w3.cell? ⟨g, q, none⟩ = some (.int .u8 ((sealL p)[q].toNat : Int)) := by
    rw [B3.cell, HCUR.out q hqs]; simp [nth, hqs]
  have hfz := B3.frozen q
  have hx := bits_xor8 (sealL p)[q] y
  have hrd := rd_turned B3 HCUR.out q ((sealL p)[q] ^^^ y)
  have hS4 : Below w.heap.size w (w3.setCell ⟨g, q, none⟩ (.int .u8 (((sealL p)[q] ^^^ y).toNat : Int))) := hS3.setCell hgw _
  have hop := open_xored p q y hqs
  have CO2 : Hid (Calls Try.prog 25 #[.slice (some ⟨g, 0, none⟩) (p.length + 2) c2] (w3.setCell ⟨g, q, none⟩ (.int .u8 (((sealL p)[q] ^^^ y).toNat : Int))) (PairPost (w3.setCell ⟨g, q, none⟩ (.int .u8 (((sealL p)[q] ^^^ y).toNat : Int))) (openL ((sealL p).set q ((sealL p)[q] ^^^ y))) (if y = 0 then 0 else 8))) := by
    have := open_any (c := c2) hrd (by rw [List.length_set, HLEN.out]; omega) (by rw [List.length_set, HLEN.out]; omega)
    rw [hop, List.length_set, HLEN.out] at this
    exact this
  have HS4 := Lib.hid hS4
  clear hop hrd hS4 B3
  generalize (sealL p)[q] ^^^ y = t at *
  generalize openL ((sealL p).set q t) = lt at *
  go_wp2_with fail
  refine CO2.out.mono ?_
  rintro e w5 ⟨x5, rfl, hx5, hb5⟩
  have hS5 : Below w.heap.size w w5 := bt HS4.out hb5
  clear hx5 hx hq
  by_cases hy : y = 0
  · subst hy
    rw [if_pos rfl]
    go_wp2
    go_ret
    exact ⟨rfl, hS5⟩
  · rw [if_neg hy]
    have ty : ((y.toNat : Int) == 0) = false := by
      rw [beq_eq_false_iff_ne]; intro h; exact hy (UInt8.toNat_inj.1 (by simpa using h))
    go_wp2
    go_ret
    exact ⟨rfl, hS5⟩
theorem walk' {w : World} {A : Option Addr} {l : List UInt8} {c : Nat} {pl by' : Int} (hr : Rd w A l) (hl : l.length ≤ c) (hc : c ≤ 9223372036854775807) (hw : (Lit.int .u8 by').wf = true) :
    Calls Try.prog 7 #[.slice A l.length c, .int .i64 pl, .int .u8 by'] w fun e w' => e = .returned (.bool true) ∧ Below w.heap.size w w' := by
  have hb := bounds_u8 hw
  have := walk (pl := pl) (y := by_ by') hr hl hc
  rwa [by_nat by' hb.1 (by omega)] at this

/-! ### The row -/
set_option maxHeartbeats 400000 in
set_option maxRecDepth 100000 in
theorem lifted (os : Os) (started : os.Started) (H : Type) (enc : TypeId × Value → H) :
    ReturnsInHanded {} Try.checked os 7 .any (Rows.wireTurnsSpec.pre6 enc Try.prog Try.f7 Rows.wireTurnsRow.domain false) (Rows.wireTurnsSpec.post enc Try.prog Try.f7 false true false false) := by
  refine returnsInHanded_of_change (C := Try.checked) own started (by kernel_rfl) Try.func7
    (ChangeSpec.witness6 (enc := enc) (C := Try.checked) false ⟨#[], #[.slice none 0 0, .int .i64 0, .int .u8 0], []⟩ 8 (by kernel_rfl) (by kernel_rfl) (by kernel_rfl) (by kernel_rfl)) ?_
  intro W base args ds gs before hval0 hW hcnd _
  have hval : ∀ (j : Nat) t v, Try.f7.params[j]? = some t → args[j]? = some v → Value.okWide Try.prog W .any base t v := hval0
  have hW' := hW
  obtain ⟨p, q, hA0, hV, rfl, _, _⟩ := hW
  have hA : DataW.TrodAll enc Try.prog W 0 (fun _ => true) true Try.f7.params.toList args.toList ds p := hA0
  rw [Try.params7] at hA hval
  obtain ⟨v0, vs0, d0, ds0, p0, q0, hargs, rfl, rfl, h0, r0⟩ := trodAll_cons hA
  obtain ⟨v1, vs1, d1, ds1, p1, q1, rfl, rfl, rfl, h1, r1⟩ := trodAll_cons r0
  obtain ⟨v2, vs2, d2, ds2, p2, q2, rfl, rfl, rfl, h2, r2⟩ := trodAll_cons r1
  obtain ⟨rfl, rfl, rfl⟩ := trodAll_nil r2
  obtain rfl : args = #[v0, v1, v2] := by cases args; simp_all
  obtain ⟨rfl, rfl⟩ := trodVars_none hV
  obtain ⟨A0, l0, c0, rfl, hn0, hc0, hr0⟩ := open_bytes (hval 0 22 v0 rfl rfl) h0
  obtain ⟨a1, rfl, rfl, rfl, w1⟩ := open_int Try.underlying3 (hval 1 3 v1 rfl rfl) h1
  obtain ⟨a2, rfl, rfl, rfl, w2⟩ := open_int Try.underlying5 (hval 2 5 v2 rfl rfl) h2
  clear hA0 hval0
  refine (walk' hr0 hn0 hc0 w2).mono fun e W' ⟨he, hb⟩ => ?_
  subst he
  exact ⟨_, rfl, post_true hW' rfl rfl (by kernel_rfl) rfl hb⟩

theorem over : Rows.wireTurnsRow.holds Try.pinned (OpenSpec.ofChange Rows.wireTurnsSpec) :=
  OpenClaim.holds_of_wide 7 Try.f7 rfl rfl rfl rfl rfl rfl rfl ⟨rfl, rfl, rfl, rfl, rfl⟩ rfl rfl rfl rfl rfl (by kernel_rfl) Try.func7 (by kernel_rfl)
    (of_decide_eq_true (by kernel_rfl)) (by unfold Func.isWrapper; first | (rw [if_pos (by decide +kernel)]; kernel_rfl) | (rw [if_neg (by decide +kernel)]; exact ⟨rfl, rfl⟩))
    (fun os started H enc _ => lifted os started H enc)
end Go.Proofs.Ytdiiengjboeboaa.wireTurns
namespace Go.Proofs.Ytdiiengjboeboaa
theorem wireTurns_holds : Rows.WireTurnsSaid := wireTurns.over
#print axioms wireTurns_holds
end Go.Proofs.Ytdiiengjboeboaa
