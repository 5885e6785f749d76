/- At the landed commit, for any bytes (the first 200) and any widths (the first 60): what is read of them, one behind the other, and what is left, or why there is none, is what the document says. Conditions: none. -/
import Derived.Test.YtdiiengjboeboaaRef3
import Derived.Deep.DrawnRows
import Derived.Deep.DeepCutAuto
import Derived.Deep.CutRange
import Derived.Deep.RegionHeld3
namespace Go.Proofs.Ytdiiengjboeboaa.wireReads
open Go.ChangeShapes Go.WideShapes Go.ChangeAt Go.RowKit
open Go.Proofs.Ytdiiengjboeboaa.Wire
attribute [local go_sem ↓] Go.wp_at_zero Go.wp_at_succ

/-- The document's reader: bytes below block B, an error; it lies in block bw. -/
def RefAt (w0 w : World) (bw : Nat) (l : List UInt8) (e : Int) : Prop := ∃ A c, Blk w bw 35 #[.slice A l.length c, .int .i64 e] ∧ Rd w0 A l ∧ l.length ≤ c ∧ c ≤ 9223372036854775807
def Inv (w : World) (n b bw : Nat) (i : Value) (wr : World) : Prop := ∃ (k : Nat) (e : Int) (l : List UInt8), k ≤ n ∧ i = .int .i64 k ∧ Rdr wr b l e ∧ RefAt w wr bw l e ∧ l.length ≤ 200 ∧ Below w.heap.size w wr

theorem grown_cell {w w' : World} {b : Nat} (h : w.grownBy w' (some b)) {g j : Nat} (hg : g < w.heap.size) (hne : g ≠ b) : w'.cell? ⟨g, j, none⟩ = w.cell? ⟨g, j, none⟩ :=
  World.cell?_of_block (a := ⟨g, j, none⟩) (h.block g hg (fun e => hne (by injection e)))
theorem bw1 {wr w3 : World} {o : Obj} (h : Below (wr.alloc o).drew.heap.size (wr.alloc o).drew w3) : Below wr.heap.size wr w3 := ((Below.refl _ wr).alloc (Nat.le_refl _) o).drew.trans (h.mono (by simp))
theorem bw2 {wr w3 : World} (h : Below wr.drew.heap.size wr.drew w3) : Below wr.heap.size wr w3 := (Below.refl _ wr).drew.trans h
/-- Behind 'next, v := Next(w, l[i])': next's block, and v. -/
def CutA (w wr : World) (l2 : List UInt8) (e2 v : Int) (s8 s9 : Value) (W : World) : Prop := ∃ (g : Nat) (A : Option Addr) (c : Nat), s8 = .pointer (some ⟨g, 0, none⟩) ∧ s9 = .int .i64 v ∧ wr.heap.size ≤ g ∧ Blk W g 35 #[.slice A l2.length c, .int .i64 e2] ∧ Rd w A l2 ∧ l2.length ≤ c ∧ c ≤ 9223372036854775807 ∧ Below wr.heap.size wr W
set_option maxHeartbeats 1000000 in
set_option maxRecDepth 100000 in
theorem walk {w : World} {A A2 : Option Addr} {l : List UInt8} {c n c2 : Nat} {z : Nat → Int} (hr : Rd w A l) (hl : l.length ≤ c) (hc : c ≤ 9223372036854775807) (hz : Ints w A2 n z) :
    Calls Try.prog 4 #[.slice A l.length c, .slice A2 n c2] w fun e w' => e = .returned (.bool true) ∧ Below w.heap.size w w' := by
  have HZ := Lib.hid hz; clear hz
  have HR := Lib.hid hr; clear hr
  go_enter Try.func4, Try.ntmps4
  go_wp2_with fail
  refine (lives_any _).mono ?_
  rintro e w1 ⟨rfl, hb1⟩
  go_wp2_with fail
  refine (first_any (HR.out.below hb1) hl hc).mono ?_
  rintro e w' ⟨p, rfl, hp, hpc, hpe, hrp, rfl⟩
  have HRP := Lib.hid hrp
  have HRW : Hid (Rd w A p) := by show Rd w A p; rw [hpe]; exact HR.out.take 200
  clear hrp hpe
  go_wp2_with fail
  refine (read_any HRP.out (by omega)).mono ?_
  rintro e w2 ⟨b, rfl, hb, h2, hb2⟩
  have hB : w.heap.size ≤ b := bs hb1 hb
  have hS2 : Below w.heap.size w w2 := bt hb1 hb2
  have H2 := Lib.hid h2; clear h2
  go_wp2_with fail
  have hb2lt : b < w2.heap.size := H2.out.lt
  go_loopw [7] (fun i wr => Inv w n b w2.heap.size i wr) (fun i _ => n - (intOf i).toNat)
  case atStart => exact ⟨0, 0, p, by omega, rfl, H2.out.below ((Below.refl _ _).alloc (Nat.le_refl _) _), ⟨A, c, Blk.new _ _ _, HRW.out, hpc, hc⟩, hp, hS2.alloc hS2.size _⟩
  case round =>
    obtain ⟨k, e, l', hk, rfl, hrd, ⟨Ar, cr, hblk, hrr, hcr, hcr1⟩, hl', hS⟩ := hrel
    have HRD := Lib.hid hrd; clear hrd
    have HBLK := Lib.hid hblk
    have HRR := Lib.hid hrr
    have k0 := hblk.cell 0
    have k1 := hblk.cell 1
    have kf0 := hblk.frozen 0
    have kf1 := hblk.frozen 1
    simp only [List.getElem?_toArray, List.getElem?_cons_zero, List.getElem?_cons_succ] at k0 k1
    have hbwlt := hblk.lt
    clear hblk hrr
    by_cases hlt : k < n
    · by_cases h60 : k < 60
      · obtain ⟨zb, zo, rfl, hzb, hzc, hz1, hz2⟩ := HZ.out.at_ hS hlt
        have f1 : (0 : Int) ≤ k := by omega
        have f2 : (k : Int) < n := by omega
        obtain ⟨zk, hzk⟩ : ∃ zk, z k = zk := ⟨_, rfl⟩
        rw [hzk] at hzc hz1 hz2
        have HN : Hid (∀ W : World, Below w.heap.size w W → Calls Try.prog 19 #[.agg #[.slice Ar l'.length cr, .int .i64 e], .int .i64 zk] W (RNextPost w W (nxL l' e zk) (nxE l' e zk) (nxV l' e zk))) := fun W h => rnext_any HRR.out (HRR.out.below h) hcr hcr1 zk
        clear hzk
        have hSd : Below w.heap.size w wr.drew := hS.drew
        have hSa : Below w.heap.size w (wr.alloc (.cells #[.slice none 0 0, .int .i64 0] 35)).drew := (hS.alloc hS.size _).drew
        have hzbr : zb < wr.heap.size := Nat.lt_of_lt_of_le hzb hS.size
        have hza : (wr.alloc (.cells #[.slice none 0 0, .int .i64 0] 35)).cell? ⟨zb, zo + k, none⟩ = some (.int .i64 zk) := by rw [World.cell?_alloc_lt _ _ _ hzbr]; exact hzc
        have k0a : (wr.alloc (.cells #[.slice none 0 0, .int .i64 0] 35)).cell? ⟨w2.heap.size, 0, none⟩ = some (.slice Ar l'.length cr) := by rw [World.cell?_alloc_lt _ _ _ hbwlt]; exact k0
        have k1a : (wr.alloc (.cells #[.slice none 0 0, .int .i64 0] 35)).cell? ⟨w2.heap.size, 1, none⟩ = some (.int .i64 e) := by rw [World.cell?_alloc_lt _ _ _ hbwlt]; exact k1
        go_upto_region 8 with fail
        go_cut [8, 9] (fun s8 s9 W => CutA w wr (nxL l' e zk) (nxE l' e zk) (nxV l' e zk) s8 s9 W)
        case first =>
          go_region_with (first
            | (go_at_call 19; (with_reducible refine (HN.out (wr.alloc (.cells #[.slice none 0 0, .int .i64 0] 35)).drew hSa).mono ?_); rintro r w3 ⟨A3, c3, rfl, hr3, hc3, hm3, hb3⟩; have hB3 : Blk w3 wr.heap.size 35 #[.slice none 0 0, .int .i64 0] := Blk.below (w := (wr.alloc (.cells #[.slice none 0 0, .int .i64 0] 35)).drew) (Blk.new wr 35 _) hb3 (by simp); have q0 : w3.cell? ⟨wr.heap.size, 0, none⟩ = some (.slice none 0 0) := hB3.cell 0; have q1 : w3.cell? ⟨wr.heap.size, 1, none⟩ = some (.int .i64 0) := hB3.cell 1; have qf0 := hB3.frozen 0; have qf1 := hB3.frozen 1)
            | (go_at_call 19; (with_reducible refine (HN.out wr.drew hSd).mono ?_); rintro r w3 ⟨A3, c3, rfl, hr3, hc3, hm3, hb3⟩))
          all_goals
            go_wp2_with fail
            go_meet
            first
              | exact ⟨wr.heap.size, A3, c3, rfl, rfl, Nat.le_refl _, by simpa using (hB3.set_ 0 _).set_ 1 _, hr3, hc3, hm3, (((bw1 hb3).setCell (Nat.le_refl _) _).setCell (Nat.le_refl _) _)⟩
              | exact ⟨w3.heap.size, A3, c3, rfl, rfl, hb3.size, Blk.new _ _ _, hr3, hc3, hm3, (bw2 hb3).alloc hb3.size _⟩
        case rest =>
          obtain ⟨g, A3, c3, rfl, rfl, hg, hblk3, hr3, hc3, hm3, hbw⟩ := hcut
          have B3 := HBLK.out.below hbw hbwlt
          have hgne : g ≠ w2.heap.size := by omega
          have m0 : wc.cell? ⟨g, 0, none⟩ = some (.slice A3 (nxL l' e zk).length c3) := hblk3.cell 0
          have m1 : wc.cell? ⟨g, 1, none⟩ = some (.int .i64 (nxE l' e zk)) := hblk3.cell 1
          have b0 : wc.cell? ⟨w2.heap.size, 0, none⟩ = some (.slice Ar l'.length cr) := B3.cell 0
          have b1 : wc.cell? ⟨w2.heap.size, 1, none⟩ = some (.int .i64 e) := B3.cell 1
          have bf0 := B3.frozen 0
          have bf1 := B3.frozen 1
          have RD3 := Lib.hid ((HRD.out.below hbw).far35 B3 0 (.slice A3 (nxL l' e zk).length c3) |>.far35 (B3.set_ 0 _) 1 (.int .i64 (nxE l' e zk)))
          have bl3 : (Blk ((wc.setCell ⟨w2.heap.size, 0, none⟩ (.slice A3 (nxL l' e zk).length c3)).setCell ⟨w2.heap.size, 1, none⟩ (.int .i64 (nxE l' e zk))) w2.heap.size 35 #[.slice A3 (nxL l' e zk).length c3, .int .i64 (nxE l' e zk)]) := by simpa using (B3.set_ 0 (.slice A3 (nxL l' e zk).length c3)).set_ 1 (.int .i64 (nxE l' e zk))
          have BL3 := Lib.hid bl3; clear bl3
          have hSc : Below w.heap.size w wc := hS.trans (hbw.mono hS.size)
          have hS4 : Below w.heap.size w ((wc.setCell ⟨w2.heap.size, 0, none⟩ (.slice A3 (nxL l' e zk).length c3)).setCell ⟨w2.heap.size, 1, none⟩ (.int .i64 (nxE l' e zk))) := (hSc.setCell hS2.size _).setCell hS2.size _
          have HS4 := Lib.hid hS4
          have hzw : w.cell? ⟨zb, zo + k, none⟩ = some (.int .i64 zk) := (hS.cell (p := ⟨zb, zo + k, none⟩) hzb).symm.trans hzc
          have HZW := Lib.hid hzw
          clear hS4 hza k0a k1a k0 k1 kf0 kf1 hzc B3 hblk3 hzw
          go_upto_region 10 with fail
          clear m0 m1 b0 b1 bf0 bf1
          generalize (wc.setCell ⟨w2.heap.size, 0, none⟩ (.slice A3 (nxL l' e zk).length c3)).setCell ⟨w2.heap.size, 1, none⟩ (.int .i64 (nxE l' e zk)) = W9 at *
          have j0 : W9.cell? ⟨w2.heap.size, 0, none⟩ = some (.slice A3 (nxL l' e zk).length c3) := BL3.out.cell 0
          have j1 : W9.cell? ⟨w2.heap.size, 1, none⟩ = some (.int .i64 (nxE l' e zk)) := BL3.out.cell 1
          have jz : W9.cell? ⟨zb, zo + k, none⟩ = some (.int .i64 zk) := (HS4.out.cell (p := ⟨zb, zo + k, none⟩) hzb).trans HZW.out
          have hbw9 := BL3.out.lt
          have hzb9 : zb < W9.heap.size := Nat.lt_of_lt_of_le hzb HS4.out.size
          have hbwb : w2.heap.size ≠ b := by omega
          have hzbb : zb ≠ b := by omega
          have hlen2 := nxL_length l' e zk
          have CN := Lib.hid (next_any (RD3.out.drewN 1) (by omega) zk)
          go_region_held3 (fun W => W.cell? ⟨w2.heap.size, 0, none⟩ = some (.slice A3 (nxL l' e zk).length c3) ∧ W.cell? ⟨w2.heap.size, 1, none⟩ = some (.int .i64 (nxE l' e zk)) ∧ W.cell? ⟨zb, zo + k, none⟩ = some (.int .i64 zk)) (first | exact ⟨j0, j1, jz⟩ | exact ⟨i0, i1, iz⟩ | exact ⟨o0, o1, oz⟩)
            (first
             | (go_at_call 20; refine CN.out.mono ?_; rintro r w5 ⟨rfl, h5, g5⟩; have H5 := Lib.hid h5; have i0 := (grown_cell g5 hbw9 hbwb (j := 0)).trans j0; have i1 := (grown_cell g5 hbw9 hbwb (j := 1)).trans j1; have iz := (grown_cell g5 hzb9 hzbb (j := zo + k)).trans jz; have hbl5 : Blk w5 w2.heap.size 35 #[.slice A3 (nxL l' e zk).length c3, .int .i64 (nxE l' e zk)] := (g5.block w2.heap.size hbw9 (fun e' => hbwb (by injection e'))).trans BL3.out; have BL5 := Lib.hid hbl5; have hS5 : Below w.heap.size w w5 := bg HS4.out.drew g5 hB; clear h5 g5 hbl5)
             | (go_at_call 21; (with_reducible refine (err_any H5.out).mono ?_); rintro r w' ⟨rfl, rfl⟩)
             | (go_at_call 22; (with_reducible refine (left_any H5.out).mono ?_); rintro r w' ⟨rfl, rfl⟩)
             | (go_at_call 23; (with_reducible refine (end_any H5.out).mono ?_); rintro r w' ⟨rfl, rfl⟩)
             | (go_at_call 24; (with_reducible refine rend_any.mono ?_); rintro r w6 ⟨rfl, hb6⟩; have o0 := (hb6.cell (p := ⟨w2.heap.size, 0, none⟩) (BL5.out.lt)).trans i0; have o1 := (hb6.cell (p := ⟨w2.heap.size, 1, none⟩) (BL5.out.lt)).trans i1; have oz := (hb6.cell (p := ⟨zb, zo + k, none⟩) (Nat.lt_of_lt_of_le hzb hS5.size)).trans iz))
          go_wp2
          go_roundw
          case rel => exact ⟨k + 1, nxE l' e zk, nxL l' e zk, by omega, by go_num, H5.out.below hb6, ⟨A3, c3, BL5.out.below hb6 BL5.out.lt, hr3, hc3, hm3⟩, by omega, bt hS5 hb6⟩
          case measure => simp [intOf]; omega
      · go_wp2
        go_ret
        exact ⟨rfl, hS⟩
    · go_wp2
      go_ret
      exact ⟨rfl, hS⟩

/-! ### The row -/
set_option maxHeartbeats 400000 in
set_option maxRecDepth 100000 in
theorem lifted (os : Os) (started : os.Started) (H : Type) (enc : TypeId × Value → H) :
    ReturnsInHanded {} Try.checked os 4 .any (Rows.wireReadsSpec.pre6 enc Try.prog Try.f4 Rows.wireReadsRow.domain false) (Rows.wireReadsSpec.post enc Try.prog Try.f4 false true false false) := by
  refine returnsInHanded_of_change (C := Try.checked) own started (by kernel_rfl) Try.func4
    (ChangeSpec.witness6 (enc := enc) (C := Try.checked) false ⟨#[], #[.slice none 0 0, .slice none 0 0], []⟩ 8 (by kernel_rfl) (by kernel_rfl) (by kernel_rfl) (by kernel_rfl)) ?_
  intro W base args ds gs before hval0 hW hcnd _
  have hval : ∀ (j : Nat) t v, Try.f4.params[j]? = some t → args[j]? = some v → Value.okWide Try.prog W .any base t v := hval0
  have hW' := hW
  obtain ⟨p, q, hA0, hV, rfl, _, _⟩ := hW
  have hA : DataW.TrodAll enc Try.prog W 0 (fun _ => true) true Try.f4.params.toList args.toList ds p := hA0
  rw [Try.params4] at hA hval
  obtain ⟨v0, vs0, d0, ds0, p0, q0, hargs, rfl, rfl, h0, r0⟩ := trodAll_cons hA
  obtain ⟨v1, vs1, d1, ds1, p1, q1, rfl, rfl, rfl, h1, r1⟩ := trodAll_cons r0
  obtain ⟨rfl, rfl, rfl⟩ := trodAll_nil r1
  obtain rfl : args = #[v0, v1] := by cases args; simp_all
  obtain ⟨rfl, rfl⟩ := trodVars_none hV
  obtain ⟨A0, l0, c0, rfl, hn0, hc0, hr0⟩ := open_bytes (hval 0 22 v0 rfl rfl) h0
  obtain ⟨A1, n1, c1, z1, rfl, hn1, hc1, hr1⟩ := open_numbers (hval 1 31 v1 rfl rfl) h1
  clear hA0 hval0
  refine (walk hr0 hn0 hc0 hr1).mono fun e W' ⟨he, hb⟩ => ?_
  subst he
  exact ⟨_, rfl, post_true hW' rfl rfl (by kernel_rfl) rfl hb⟩

theorem over : Rows.wireReadsRow.holds Try.pinned (OpenSpec.ofChange Rows.wireReadsSpec) :=
  OpenClaim.holds_of_wide 4 Try.f4 rfl rfl rfl rfl rfl rfl rfl ⟨rfl, rfl, rfl, rfl, rfl⟩ rfl rfl rfl rfl rfl (by kernel_rfl) Try.func4 (by kernel_rfl)
    (of_decide_eq_true (by kernel_rfl)) (by unfold Func.isWrapper; first | (rw [if_pos (by decide +kernel)]; kernel_rfl) | (rw [if_neg (by decide +kernel)]; exact ⟨rfl, rfl⟩))
    (fun os started H enc _ => lifted os started H enc)
end Go.Proofs.Ytdiiengjboeboaa.wireReads
namespace Go.Proofs.Ytdiiengjboeboaa
theorem wireReads_holds : Rows.WireReadsSaid := wireReads.over
#print axioms wireReads_holds
end Go.Proofs.Ytdiiengjboeboaa
