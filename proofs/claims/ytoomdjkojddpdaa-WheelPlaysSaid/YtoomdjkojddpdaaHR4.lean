/- The document's own wheel: Due: a contract. -/
import Derived.Test.YtoomdjkojddpdaaHR3
namespace Go.Proofs.Ytoomdjkojddpdaa.H14
open Go.RowKit Go.Proofs.Ytoomdjkojddpdaa.G Go.Proofs.Ytoomdjkojddpdaa.Sat Go.Sort
set_option maxRecDepth 100000
variable {w w' V V' : World} {l : List En}
theorem slice_nil (V : World) : (Instr.sliceAt 26 (.slice none 0 0) (some (.int .i64 0)) none none).run Try.prog V = .ok (.slice none 0 0) V := by kernel_rfl
/-- Those left in the old row, the keys of the others in memory of the call's own. -/
def RdPost (w : World) (d lf : List En) (A : Option Addr) (e : Ending) (w' : World) : Prop :=
  ∃ A1 c1 A2 c2, e = .returned (.tuple #[.slice A1 lf.length c1, .slice A2 d.length c2]) ∧ Row w' A1 (tcs lf) ∧ lf.length ≤ c1 ∧ (∃ g o o', A = some ⟨g, o, none⟩ ∧ A1 = some ⟨g, o', none⟩) ∧ Own w' w.heap.size 3 1 (.slice A2 d.length c2) d.length (iv (keys d)) ∧ Below w.heap.size w w'
set_option maxHeartbeats 8000000 in
theorem rdue_any {g o c s : Nat} {now : Int} (hR : Row w (some ⟨g, o, none⟩) (tcs l)) (hl : l.length ≤ 1000) (hc : l.length ≤ c) (hok : Wok l s) : Calls Try.prog 16 #[.slice (some ⟨g, o, none⟩) l.length c, .int .i64 now] w (RdPost w (due l (cut now)) (left l (cut now)) (some ⟨g, o, none⟩)) := by
  obtain ⟨i0, hi, hz0, hz1, hz2⟩ := info_parts infoI
  have HCut := Lib.hid (fun V n => quiet_left (rcut_any now (World.drewN V n)))
  have hsp := due_left l hok (cut now)
  have HAD := Lib.hid (fun (j : Nat) (e : En) (he : l[j]? = some e) => at_due (u := cut now) hok he)
  generalize cut now = u at *
  generalize left l u = lf at *
  generalize due l u = d at *
  have HR := Lib.hid hR
  have HRN : Hid (l.length = d.length + lf.length) := by show _ = _; rw [hsp, List.length_append]
  have HSP := Lib.hid hsp
  have HTK : Hid (∀ j, j ≤ d.length → l.take j = d.take j) := fun j hj => by rw [hsp, List.take_append_of_le_length hj]
  have hdr : d.length ≤ l.length := by have := HRN.out; omega
  clear hR hok hsp
  generalize hln : l.length = ln at *
  generalize hdn : d.length = dn at *
  have HLN := Lib.hid hln
  have HDN := Lib.hid hdn
  clear hln hdn
  go_enter Try.func16, Try.ntmps16
  go_wp2_with fail
  go_loopw [6, 7] (fun out i V => ∃ j : Nat, i = .int .i64 j ∧ j ≤ dn ∧ Own V w.heap.size 3 1 out j (iv (keys (d.take j))) ∧ Below w.heap.size w V) (fun _ i _ => dn - (intOf2 i).toNat)
  case atStart => exact ⟨0, rfl, by omega, Own.nil_ _ _ _ _, Below.refl _ _⟩
  case round =>
    obtain ⟨j, rfl, hj, ho, hb⟩ := hrel
    have HO := Lib.hid ho
    have HB := Lib.hid hb
    clear ho hb
    by_cases hlt : j < dn
    · have hjl : j < ln := by omega
      obtain ⟨e0, he0⟩ : ∃ e0, l[j]? = some e0 := ⟨_, List.getElem?_eq_getElem (by have := HLN.out; omega)⟩
      obtain ⟨g', o', e1, _, c0, c1⟩ := tcs_at (HR.out.below HB.out) he0
      injection e1 with e1; injection e1 with e1 e2 _
      subst e1 e2
      have hu := (HAD.out j e0 he0).1 hlt
      have HE : Hid (d.take (j + 1) = d.take j ++ [e0]) := by
        show _ = _
        rw [← HTK.out (j + 1) (by omega), ← HTK.out j hj, take_snoc14 he0]
      have hs := HB.out.size
      clear he0
      go_wp2_with fail
      go_quiet (first | (go_at_call 25; exact HCut.out _ _))
      generalize hV : wr.drewN nq = V1 at *
      have HO1 : Hid (Own V1 w.heap.size 3 1 u6 j (iv (keys (d.take j)))) := by rw [← hV]; exact HO.out.drewN nq
      have HB1 : Hid (Below w.heap.size w V1) := by rw [← hV]; exact bn HB.out nq
      have c0' : V1.cell? ⟨g, o + j * 2, none⟩ = some (.int .i64 e0.k) := by rw [← hV]; exact c0
      clear c0 c1 hV HO HB
      go_wp2_with (first
        | (at_builtin
           refine wpList_app Try.underlying36 hi hz0 hz1 hz2 rfl (by decide) rfl (.tmp 22) (.tmp 28) rfl w.heap.size u6 j (iv (keys (d.take j))) rfl (HO1.out.alloc _) (some ⟨V1.heap.size, 0, none⟩) 1 1 [.int .i64 e0.k] rfl (Row.of_blk (Blk.new V1 3 #[.int .i64 e0.k]) fun j u hj => by simpa using hj) rfl (by simp [Value.oneCell']) (by omega) (by decide) (by have := HB1.out.size; simp; omega) ?_
           intro v' w2 ho2 hb2 _ _
           have HO2 : Hid (Own w2 w.heap.size 3 1 v' (j + 1) (iv (keys (d.take (j + 1))))) := by
             show Own _ _ _ _ _ _ _
             rw [HE.out]
             have e : iv (keys (d.take j ++ [e0])) = iv (keys (d.take j)) ++ [.int .i64 e0.k] := by simp [iv, keys]
             rw [e]; exact ho2
           have HB2 := Lib.hid ((HB1.out.alloc HB1.out.size (.cells #[.int .i64 e0.k] 3)).trans hb2)
           clear ho2 hb2)
        | fail)
      go_roundw
      case rel => exact ⟨j + 1, by go_num, by omega, HO2.out, HB2.out⟩
      case measure => simp [intOf2]; omega
    · obtain rfl : j = dn := by omega
      clear hlt
      have hO := HO.out
      rw [List.take_of_length_le (by have := HDN.out; omega)] at hO
      obtain ⟨A2, c2, rfl, _⟩ := hO.row
      have HO1 := Lib.hid hO
      clear hO HO
      go_upto_region 3 with fail
      go_cut [21] (fun v V => v = .bool false ∧ ∃ nq, V = wr.drewN nq)
      case first =>
        by_cases hjl : j < ln
        · obtain ⟨e0, he0⟩ : ∃ e0, l[j]? = some e0 := ⟨_, List.getElem?_eq_getElem (by have := HLN.out; omega)⟩
          obtain ⟨g', o', e1, _, c0, c1⟩ := tcs_at (HR.out.below HB.out) he0
          injection e1 with e1; injection e1 with e1 e2 _
          subst e1 e2
          have hu := HAD.out j e0 he0
          have hu2 : ¬ e0.u ≤ u := by omega
          clear he0 hu
          go_quiet (first | (go_at_call 25; exact HCut.out _ _))
          go_wp2_with fail
          go_meet
          exact ⟨rfl, nq, rfl⟩
        · go_quiet (first | (go_at_call 25; exact HCut.out _ _))
          go_wp2_with fail
          go_meet
          exact ⟨rfl, nq, rfl⟩
      case rest =>
        obtain ⟨rfl, nq, rfl⟩ := hcut
        have hlf : lf.length = ln - j := by have := HRN.out; omega
        have HLF := Lib.hid hlf
        have hRr := HR.out
        rw [HSP.out, tcs_app] at hRr
        have HPO := Lib.hid (row_post hRr (n := j * 2) (by rw [tcs_len, HDN.out]))
        have HBD := Lib.hid (bn HB.out nq)
        have hdd : (keys d).length = j := by rw [len_keys]; exact HDN.out
        clear hlf hRr hdd
        by_cases hjc : c = j
        · have HLF0 : Hid (lf.length = 0) := by show _ = _; have := HLF.out; omega
          have hcl : c ≤ ln := by omega
          subst hjc
          have hsl := fun V => slice_end V g o (n := ln) (c := c) hcl
          have hsl2 := fun V => slice_low V g o (j := c) (n := ln) (c := c) hcl
          simp only [if_pos, Nat.sub_self] at hsl2
          have HZ : Hid (ln - c = 0) := by show _ = _; omega
          rw [HZ.out] at hsl hsl2
          go_wp2_with fail
          refine bodyPost_ret (v := .tuple #[.slice (some ⟨g, o, none⟩) 0 0, .slice A2 c c2]) (by simp [results, Try.results16, go_sem]) rfl ?_
          refine ⟨some ⟨g, o, none⟩, 0, A2, c2, by rw [HLF0.out, HDN.out], ?_, by rw [HLF0.out]; exact Nat.le_refl _, ⟨g, o, o, rfl, rfl⟩, by rw [HDN.out]; exact HO1.out.drewN nq, HBD.out⟩
          rw [show lf = [] from List.eq_nil_of_length_eq_zero HLF0.out]
          exact Row.none_
        · have hsl := fun V => slice_at V g o (n := ln) (c := c) hdr hjc
          have hsl2 := fun V => slice_low V g o (j := j) (n := ln) (c := c) hdr
          simp only [if_neg hjc] at hsl2
          go_wp2_with fail
          refine bodyPost_ret (v := .tuple #[.slice (some ⟨g, o + j * 2, none⟩) (ln - j) (c - j), .slice A2 j c2]) (by simp [results, Try.results16, go_sem]) rfl ?_
          refine ⟨some ⟨g, o + j * 2, none⟩, c - j, A2, c2, by rw [HLF.out, HDN.out], HPO.out.below HBD.out, by rw [HLF.out]; omega, ⟨g, o, o + j * 2, rfl, rfl⟩, by rw [HDN.out]; exact HO1.out.drewN nq, HBD.out⟩
end Go.Proofs.Ytoomdjkojddpdaa.H14
