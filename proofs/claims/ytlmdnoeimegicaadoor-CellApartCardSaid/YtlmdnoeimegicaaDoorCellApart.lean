/- At the landed commit, for any number of cells up to 40 (made of any), any writes and any one more: that write changes no other cell, is refused just where there is no such cell or the word may not be, and what is refused changes nothing and isn't counted. Conditions: the library's variable errors.errorType holds what the program's text lays (tied to the text by the card). -/
import Derived.Test.YtlmdnoeimegicaaDoorFrm
import Derived.Test.YtlmdnoeimegicaaDoorScript
import Derived.Test.YtlmdnoeimegicaaDoorCards
import Derived.Test.YtlmdnoeimegicaaDoorTie
import Derived.StillTailTactics
namespace Go.Proofs.YtlmdnoeimegicaaDoor.cellApart
open Go.ChangeShapes Go.WideShapes Go.ChangeAt Go.RowKit
open Go.Proofs.YtlmdnoeimegicaaDoor.Cell

theorem MemAt.drew {w : World} {b g : Nat} {l : List Int} {c : Int} (h : MemAt w b g l c) : MemAt w.drew b g l c := ⟨h.head, h.words⟩
set_option maxRecDepth 100000 in
theorem open_step {H : Type} {enc : TypeId × Value → H} {W : World} {base : Nat} {v : Value} {d : DataW H} {p : List MemPlace} (hok : Value.okWide Tryd.prog W .any base 32 v) (h : DataW.Trod enc Tryd.prog W 0 (fun _ => true) true 32 v d p) :
    ∃ x : St, v = x.val ∧ x.ok := by
  obtain ⟨cs, rfl, _⟩ := okWide_struct Tryd.underlying32 hok
  obtain ⟨fuel, hf⟩ := h
  obtain ⟨x, hx, hxo⟩ := step_read hf
  refine ⟨x, ?_, hxo⟩
  have : cs.toList = [.int .i64 x.kind, .int .i64 x.i, .int .i64 x.v] := hx
  unfold St.val
  congr 1
  exact Array.toList_inj.1 this
theorem lstN {w : World} {B : Nat} {v : Value} {l : List Int} {N : Nat} (h : Lst w B v l) (hl : l.length = N) : ∃ (A : Option Addr) (c : Nat), v = .slice A N c ∧ (0 < N → ∃ b o : Nat, A = some ⟨b, o, none⟩ ∧ ∀ j, j < N → w.cell? ⟨b, o + j, none⟩ = some (.int .i64 (nth l j))) := by
  obtain ⟨A, c, rfl, hA, _⟩ := lst_rd h
  refine ⟨A, c, by rw [hl], fun h0 => ?_⟩
  obtain ⟨b, o, rfl, hc⟩ := hA (by omega)
  exact ⟨b, o, rfl, fun j hj => hc j (by omega)⟩
theorem set_nth (l : List Int) (k j : Nat) (v : Int) (hj : j < l.length) : nth (l.set k v) j = if k = j then v else nth l j := by
  unfold nth
  simp only [List.getD_eq_getElem?_getD, List.getElem?_set]
  by_cases h : k = j
  · subst h; simp [hj]
  · simp [h]
def stc (x : St) : Array Value := #[.int .i64 x.kind, .int .i64 x.i, .int .i64 x.v]
def Inv (W : World) (x : St) (b g N : Nat) (k : Nat) (w : World) : Prop :=
  ∃ (l : List Int) (c : Int), MemAt w b g l c ∧ l.length = N ∧ 0 ≤ c ∧ c ≤ k ∧ Below W.heap.size W w ∧ Blk w W.heap.size 32 (stc x)

set_option maxRecDepth 100000 in
set_option maxHeartbeats 2000000 in
theorem walk (a0 : Int) (A : Option Addr) (n c : Nat) (s : Nat → St) (_hn : n ≤ c) (_hc : c ≤ 9223372036854775807) (y : St) (hy : y.ok) (W : World) (hg : Et W) (hs : Scr W A n s) :
    Calls Tryd.prog 5 #[.int .i64 a0, .slice A n c, y.val] W fun e w' => e = .returned (.bool true) ∧ Below W.heap.size W w' := by
  have p0 := hg.pos
  obtain ⟨yi, yv⟩ := hy
  have HS := Lib.hid hs; clear hs
  obtain ⟨q, hq, q0, q1⟩ : ∃ q, (IntKind.u64.wrap a0).tmod 41 = q ∧ 0 ≤ q ∧ q < 41 := ⟨_, rfl, modU_bd a0 41 (by decide)⟩
  have hg1 := hg.alloc (.cells (stc y) 32)
  have hbl := Blk.new W 32 (stc y)
  have hbw := (Below.refl W.heap.size W).alloc (Nat.le_refl _) (.cells (stc y) 32)
  have zW : (W.alloc (.cells (stc y) 32)).heap.size = W.heap.size + 1 := by simp
  have HZ := Lib.hid zW; clear zW
  have HG := Lib.hid hg1; clear hg1
  have HBL := Lib.hid hbl; clear hbl
  unfold St.val
  go_enter Tryd.func5, Tryd.ntmps5
  go_wp2_with fail
  refine (lives_any (W.alloc (.cells (stc y) 32)) HG.out).mono ?_
  rintro e w1 ⟨rfl, hb1⟩
  go_wp2_with fail
  refine (new_any q _).mono ?_
  rintro e w2 ⟨rfl, hm2, hb2⟩
  have z1 := hb1.size
  rw [HZ.out] at z1
  have hN : clampN q ≤ 40 := by unfold clampN; omega
  have HI : Hid (Inv W y (w1.heap.size + 1) w1.heap.size (clampN q) 0 w2) := ⟨zs (clampN q), 0, hm2, zs_length _, by omega, by omega, (hbw.trans (hb1.mono (by rw [HZ.out]; omega))).trans (hb2.mono (by omega)), (HBL.out.below hb1 (by rw [HZ.out]; omega)).below hb2 (by omega)⟩
  clear hq q0 q1
  generalize clampN q = N at *
  generalize hba : w1.heap.size + 1 = b at *
  generalize hga : w1.heap.size = g at *
  have r1 : W.heap.size < g := by omega
  have r2 : g < b := by omega
  clear hba hga hm2 hb1 hb2 z1 hbw HBL HG HZ
  go_wp2
  go_loopw [8] (fun i wr => ∃ k : Nat, k ≤ 40 ∧ k ≤ n ∧ i = .int .i64 k ∧ Inv W y b g N k wr) (fun i _ => 40 - (intOf i).toNat)
  case atStart => exact ⟨0, by omega, by omega, rfl, HI.out⟩
  case round =>
    obtain ⟨k, hk40, hkn, rfl, l, cc, hm, hl, c0, c1, hbw, hsb⟩ := hrel
    have HL := Lib.hid hl
    have hl' : l.length ≤ 4096 := by omega
    clear hl HI
    by_cases hgo : k < n ∧ k < 40
    · obtain ⟨hlt, hlt4⟩ := hgo
      obtain ⟨b', o, rfl, hbs, ⟨oki, okv⟩, hc1, hc2, hc3⟩ := HS.out.at_ hbw hlt
      generalize s k = x at *
      have gw : Et wr := hg.below hbw p0
      have sb := swN_bd l x.i x.v cc
      go_wp2
      go_still_tail 11, (by kernel_rfl)
      clear hc1 hc2 hc3
      go_wp2_with fail
      refine (write_any (w := wr.drew) (MemAt.drew hm) (show Et wr.drew from gw) hl' c0 (by omega) x.i x.v oki).mono ?_
      rintro e w5 ⟨rfl, hm5, hk5⟩
      have hbw5 := Below.keep (hbw.drew) hk5 hbw.size (by omega) (by omega)
      have hsb5 := Blk.keep (show Blk wr.drew W.heap.size 32 (stc y) from hsb) hk5 (by omega) (by omega)
      go_wp2
      go_roundw
      case rel => exact ⟨k + 1, by omega, by omega, by go_num, swL l x.i x.v, swN l x.i x.v cc, hm5, by rw [swL_length]; exact HL.out, by omega, by omega, hbw5, hsb5⟩
      case measure => simp [intOf]; omega
    · have hx : n ≤ k ∨ (k < n ∧ 40 ≤ k) := by omega
      clear hgo
      have hcase : (y.i < 0 ∨ (0 ≤ y.i ∧ (N : Int) ≤ y.i)) ∨ ((0 ≤ y.i ∧ y.i < N ∧ y.v < 0) ∨ (0 ≤ y.i ∧ y.i < N ∧ 2147483647 < y.v)) ∨ (0 ≤ y.i ∧ y.i < N ∧ 0 ≤ y.v ∧ y.v ≤ 2147483647) := by omega
      have hNl : (l.length : Int) = N := by rw [HL.out]
      have HN := Lib.hid hNl; clear hNl
      rcases hx with h6 | ⟨h6, h7⟩
      all_goals
        go_wp2_with fail
        refine (all_any hm hl').mono ?_
        rintro e w5 ⟨v1, rfl, hv1, hb5⟩
        have hm5 := hm.below_ hb5
        have hbw5 := hbw.trans (hb5.mono hbw.size)
        have g5 : Et w5 := hg.below hbw5 p0
        have hsb5 := hsb.below hb5 hsb.lt
        have e1 : w5.cell? ⟨W.heap.size, 1, none⟩ = some (.int .i64 y.i) := hsb5.cell 1
        have e2 : w5.cell? ⟨W.heap.size, 2, none⟩ = some (.int .i64 y.v) := hsb5.cell 2
        go_wp2_with fail
        refine (count_any hm5).mono ?_
        rintro e w6 ⟨rfl, rfl⟩
        go_wp2_with fail
        refine (write_any hm5 g5 hl' c0 (by omega) y.i y.v yi).mono ?_
        rintro e w7 ⟨rfl, hm7, hk7⟩
        have hv7 := hv1.keep hk7 hm.head.lt hm.words.lt
        have hbw7 := Below.keep hbw5 hk7 hbw5.size (by omega) (by omega)
        have hsb7 := hsb5.keep hk7 (by omega) (by omega)
        have hl7 : (swL l y.i y.v).length = N := by rw [swL_length]; exact HL.out
        have HL7 := Lib.hid hl7; clear hl7
        clear e1 e2
        go_wp2_with fail
        refine (all_any hm7 (by rw [HL7.out]; omega)).mono ?_
        rintro e w8 ⟨v2, rfl, hv2, hb8⟩
        have hbw8 := hbw7.trans (hb8.mono hbw7.size)
        have hsb8 := hsb7.below hb8 hsb7.lt
        have hm8 := hm7.below_ hb8
        have e1 : w8.cell? ⟨W.heap.size, 1, none⟩ = some (.int .i64 y.i) := hsb8.cell 1
        have e2 : w8.cell? ⟨W.heap.size, 2, none⟩ = some (.int .i64 y.v) := hsb8.cell 2
        obtain ⟨A1, ca1, rfl, t1⟩ := lstN (hv7.below hb8) HL.out
        obtain ⟨A2, ca2, rfl, t2⟩ := lstN hv2 HL7.out
        have T1 := Lib.hid t1; clear t1
        have T2 := Lib.hid t2; clear t2
        clear hv1 hv7 hv2 hm5 hm7 hk7 hb8 hbw7 hb5 hsb5 hsb7 hbw5 hm hsb hbw
        rcases hcase with (h1 | ⟨h1, h2⟩) | (⟨h1, h2, h3⟩ | ⟨h1, h2, h3⟩) | ⟨h1, h2, h3, h4⟩
        · have hin : inR l y.i 1 = false := decide_eq_false (by have := HN.out; omega)
          skip
          have E1 : Hid (whyC l y.i y.v = 7) := by show whyC l y.i y.v = 7; simp [whyC, hin]
          have E2 : Hid (swN l y.i y.v cc = cc) := by show swN l y.i y.v cc = cc; simp [swN, hin]
          have E3 : Hid (swL l y.i y.v = l) := by show swL l y.i y.v = l; simp [swL, hin]
          rw [E1.out]
          rw [E3.out, E2.out] at hm8
          rw [E3.out] at T2
          clear hin 
          go_wp2_with fail
          refine (count_any hm8).mono ?_
          rintro e w9 ⟨rfl, rfl⟩
          go_wp2
          go_loopw [14] (fun i w9 => ∃ j nd : Nat, j ≤ N ∧ i = .int .i64 j ∧ w9 = w8.drewN nd) (fun i _ => N - (intOf i).toNat)
          case atStart => exact ⟨0, 0, by omega, rfl, rfl⟩
          case round =>
            obtain ⟨j, nd, hj, rfl, hw9⟩ := hrel
            have HW := Lib.hid hw9; clear hw9
            by_cases hjN : j < N
            · obtain ⟨b1, o1, rfl, t1⟩ := T1.out (by omega)
              obtain ⟨b2, o2, rfl, t2⟩ := T2.out (by omega)
              have d1 : wr.cell? ⟨b1, o1 + j, none⟩ = some (.int .i64 (nth l j)) := by rw [HW.out]; exact t1 j hjN
              have d2 : wr.cell? ⟨b2, o2 + j, none⟩ = some (.int .i64 (nth l j)) := by rw [HW.out]; exact t2 j hjN
              clear t1 t2 e1 e2
              go_wp2
              go_quiet (fail)
              go_wp2
              go_roundw
              case rel => exact ⟨j + 1, nd + nq, by omega, by go_num, by rw [HW.out, World.drewN_drewN]⟩
              case measure => simp [intOf]; omega
            · have hm9 : MemAt wr b g l cc := by rw [HW.out]; exact hm8.drewN nd
              go_wp2_with fail
              refine (count_any hm9).mono ?_
              rintro e w10 ⟨rfl, rfl⟩
              go_wp2
              go_ret
              exact ⟨rfl, by rw [HW.out]; exact drewN_below hbw8 nd⟩
        · have hin : inR l y.i 1 = false := decide_eq_false (by have := HN.out; omega)
          skip
          have E1 : Hid (whyC l y.i y.v = 7) := by show whyC l y.i y.v = 7; simp [whyC, hin]
          have E2 : Hid (swN l y.i y.v cc = cc) := by show swN l y.i y.v cc = cc; simp [swN, hin]
          have E3 : Hid (swL l y.i y.v = l) := by show swL l y.i y.v = l; simp [swL, hin]
          rw [E1.out]
          rw [E3.out, E2.out] at hm8
          rw [E3.out] at T2
          clear hin 
          go_wp2_with fail
          refine (count_any hm8).mono ?_
          rintro e w9 ⟨rfl, rfl⟩
          go_wp2
          go_loopw [14] (fun i w9 => ∃ j nd : Nat, j ≤ N ∧ i = .int .i64 j ∧ w9 = w8.drewN nd) (fun i _ => N - (intOf i).toNat)
          case atStart => exact ⟨0, 0, by omega, rfl, rfl⟩
          case round =>
            obtain ⟨j, nd, hj, rfl, hw9⟩ := hrel
            have HW := Lib.hid hw9; clear hw9
            by_cases hjN : j < N
            · obtain ⟨b1, o1, rfl, t1⟩ := T1.out (by omega)
              obtain ⟨b2, o2, rfl, t2⟩ := T2.out (by omega)
              have d1 : wr.cell? ⟨b1, o1 + j, none⟩ = some (.int .i64 (nth l j)) := by rw [HW.out]; exact t1 j hjN
              have d2 : wr.cell? ⟨b2, o2 + j, none⟩ = some (.int .i64 (nth l j)) := by rw [HW.out]; exact t2 j hjN
              clear t1 t2 e1 e2
              go_wp2
              go_quiet (fail)
              go_wp2
              go_roundw
              case rel => exact ⟨j + 1, nd + nq, by omega, by go_num, by rw [HW.out, World.drewN_drewN]⟩
              case measure => simp [intOf]; omega
            · have hm9 : MemAt wr b g l cc := by rw [HW.out]; exact hm8.drewN nd
              go_wp2_with fail
              refine (count_any hm9).mono ?_
              rintro e w10 ⟨rfl, rfl⟩
              go_wp2
              go_ret
              exact ⟨rfl, by rw [HW.out]; exact drewN_below hbw8 nd⟩
        · have hin : inR l y.i 1 = true := decide_eq_true (by have := HN.out; omega)
          have hok : okV y.v = false := decide_eq_false (by omega)
          have E1 : Hid (whyC l y.i y.v = 3) := by show whyC l y.i y.v = 3; simp [whyC, hin, hok]
          have E2 : Hid (swN l y.i y.v cc = cc) := by show swN l y.i y.v cc = cc; simp [swN, hin, hok]
          have E3 : Hid (swL l y.i y.v = l) := by show swL l y.i y.v = l; simp [swL, hin, hok]
          rw [E1.out]
          rw [E3.out, E2.out] at hm8
          rw [E3.out] at T2
          clear hin hok
          go_wp2_with fail
          refine (count_any hm8).mono ?_
          rintro e w9 ⟨rfl, rfl⟩
          go_wp2
          go_loopw [14] (fun i w9 => ∃ j nd : Nat, j ≤ N ∧ i = .int .i64 j ∧ w9 = w8.drewN nd) (fun i _ => N - (intOf i).toNat)
          case atStart => exact ⟨0, 0, by omega, rfl, rfl⟩
          case round =>
            obtain ⟨j, nd, hj, rfl, hw9⟩ := hrel
            have HW := Lib.hid hw9; clear hw9
            by_cases hjN : j < N
            · obtain ⟨b1, o1, rfl, t1⟩ := T1.out (by omega)
              obtain ⟨b2, o2, rfl, t2⟩ := T2.out (by omega)
              have d1 : wr.cell? ⟨b1, o1 + j, none⟩ = some (.int .i64 (nth l j)) := by rw [HW.out]; exact t1 j hjN
              have d2 : wr.cell? ⟨b2, o2 + j, none⟩ = some (.int .i64 (nth l j)) := by rw [HW.out]; exact t2 j hjN
              clear t1 t2 e1 e2
              go_wp2
              go_quiet (fail)
              go_wp2
              go_roundw
              case rel => exact ⟨j + 1, nd + nq, by omega, by go_num, by rw [HW.out, World.drewN_drewN]⟩
              case measure => simp [intOf]; omega
            · have hm9 : MemAt wr b g l cc := by rw [HW.out]; exact hm8.drewN nd
              go_wp2_with fail
              refine (count_any hm9).mono ?_
              rintro e w10 ⟨rfl, rfl⟩
              go_wp2
              go_ret
              exact ⟨rfl, by rw [HW.out]; exact drewN_below hbw8 nd⟩
        · have h5 : 0 ≤ y.v := by omega
          have h8 : decide (y.v ≤ 2147483647) = false := decide_eq_false (by omega)
          have hin : inR l y.i 1 = true := decide_eq_true (by have := HN.out; omega)
          have hok : okV y.v = false := decide_eq_false (by omega)
          have E1 : Hid (whyC l y.i y.v = 3) := by show whyC l y.i y.v = 3; simp [whyC, hin, hok]
          have E2 : Hid (swN l y.i y.v cc = cc) := by show swN l y.i y.v cc = cc; simp [swN, hin, hok]
          have E3 : Hid (swL l y.i y.v = l) := by show swL l y.i y.v = l; simp [swL, hin, hok]
          rw [E1.out]
          rw [E3.out, E2.out] at hm8
          rw [E3.out] at T2
          clear hin hok
          go_wp2_with fail
          refine (count_any hm8).mono ?_
          rintro e w9 ⟨rfl, rfl⟩
          go_wp2
          go_loopw [14] (fun i w9 => ∃ j nd : Nat, j ≤ N ∧ i = .int .i64 j ∧ w9 = w8.drewN nd) (fun i _ => N - (intOf i).toNat)
          case atStart => exact ⟨0, 0, by omega, rfl, rfl⟩
          case round =>
            obtain ⟨j, nd, hj, rfl, hw9⟩ := hrel
            have HW := Lib.hid hw9; clear hw9
            by_cases hjN : j < N
            · obtain ⟨b1, o1, rfl, t1⟩ := T1.out (by omega)
              obtain ⟨b2, o2, rfl, t2⟩ := T2.out (by omega)
              have d1 : wr.cell? ⟨b1, o1 + j, none⟩ = some (.int .i64 (nth l j)) := by rw [HW.out]; exact t1 j hjN
              have d2 : wr.cell? ⟨b2, o2 + j, none⟩ = some (.int .i64 (nth l j)) := by rw [HW.out]; exact t2 j hjN
              clear t1 t2 e1 e2
              go_wp2
              go_quiet (fail)
              go_wp2
              go_roundw
              case rel => exact ⟨j + 1, nd + nq, by omega, by go_num, by rw [HW.out, World.drewN_drewN]⟩
              case measure => simp [intOf]; omega
            · have hm9 : MemAt wr b g l cc := by rw [HW.out]; exact hm8.drewN nd
              go_wp2_with fail
              refine (count_any hm9).mono ?_
              rintro e w10 ⟨rfl, rfl⟩
              go_wp2
              go_ret
              exact ⟨rfl, by rw [HW.out]; exact drewN_below hbw8 nd⟩
        · obtain ⟨ii, hii⟩ := Int.eq_ofNat_of_zero_le h1
          have hlt : ii < N := by omega
          have hin : inR l y.i 1 = true := decide_eq_true (by have := HN.out; omega)
          have hok : okV y.v = true := decide_eq_true (by omega)
          have E1 : Hid (whyC l y.i y.v = 0) := by show whyC l y.i y.v = 0; simp [whyC, hin, hok]
          have E2 : Hid (swN l y.i y.v cc = cc + 1) := by show swN l y.i y.v cc = cc + 1; simp [swN, hin, hok]
          have E3 : Hid (swL l y.i y.v = l.set ii y.v) := by show swL l y.i y.v = l.set ii y.v; unfold swL; rw [hin, hok]; simp [hii]
          rw [E1.out]
          rw [E3.out, E2.out] at hm8
          rw [E3.out] at T2
          rw [hii] at e1
          rw [hii]
          clear hin hok hii h1 h2
          go_wp2_with fail
          refine (count_any hm8).mono ?_
          rintro e w9 ⟨rfl, rfl⟩
          go_wp2
          go_loopw [14] (fun i w9 => ∃ j nd : Nat, j ≤ N ∧ i = .int .i64 j ∧ w9 = w8.drewN nd) (fun i _ => N - (intOf i).toNat)
          case atStart => exact ⟨0, 0, by omega, rfl, rfl⟩
          case round =>
            obtain ⟨j, nd, hj, rfl, hw9⟩ := hrel
            have HW := Lib.hid hw9; clear hw9
            by_cases hjN : j < N
            · obtain ⟨b1, o1, rfl, t1⟩ := T1.out (by omega)
              obtain ⟨b2, o2, rfl, t2⟩ := T2.out (by omega)
              have d1 : wr.cell? ⟨b1, o1 + j, none⟩ = some (.int .i64 (nth l j)) := by rw [HW.out]; exact t1 j hjN
              have d2 : wr.cell? ⟨b2, o2 + j, none⟩ = some (.int .i64 (if ii = j then y.v else nth l j)) := by rw [HW.out, ← set_nth l ii j y.v (by rw [HL.out]; exact hjN)]; exact t2 j hjN
              have d3 : wr.cell? ⟨b2, o2 + ii, none⟩ = some (.int .i64 y.v) := by
                have := t2 ii hlt
                rw [set_nth l ii ii y.v (by rw [HL.out]; exact hlt), if_pos rfl] at this
                rw [HW.out]; exact this
              have d4 : wr.cell? ⟨W.heap.size, 1, none⟩ = some (.int .i64 (ii : Int)) := by rw [HW.out]; exact e1
              have d5 : wr.cell? ⟨W.heap.size, 2, none⟩ = some (.int .i64 y.v) := by rw [HW.out]; exact e2
              clear t1 t2 e1 e2
              by_cases hji : ii = j
              · subst hji
                rw [if_pos rfl] at d2
                by_cases hv : y.v = nth l ii
                · rw [← hv] at d1
                  clear hv
                  go_wp2
                  go_quiet (fail)
                  go_wp2
                  go_roundw
                  case rel => exact ⟨ii + 1, nd + nq, by omega, by go_num, by rw [HW.out, World.drewN_drewN]⟩
                  case measure => simp [intOf]; omega
                · have hb : (y.v == nth l ii) = false := beq_eq_false_iff_ne.2 hv
                  have hb2 : (y.v != nth l ii) = true := by rw [bne_iff_ne]; exact hv
                  go_wp2
                  go_quiet (fail)
                  go_wp2
                  go_roundw
                  case rel => exact ⟨ii + 1, nd + nq, by omega, by go_num, by rw [HW.out, World.drewN_drewN]⟩
                  case measure => simp [intOf]; omega
              · rw [if_neg hji] at d2
                go_wp2
                go_quiet (fail)
                go_wp2
                go_roundw
                case rel => exact ⟨j + 1, nd + nq, by omega, by go_num, by rw [HW.out, World.drewN_drewN]⟩
                case measure => simp [intOf]; omega
            · go_wp2
              go_ret
              exact ⟨rfl, by rw [HW.out]; exact drewN_below hbw8 nd⟩

/-! ### The row -/
set_option maxHeartbeats 400000 in
set_option maxRecDepth 100000 in
theorem lifted (os : Os) (started : os.Started) (H : Type) (enc : TypeId × Value → H) :
    ReturnsInHanded {} Tryd.checked os 5 .any (fun w args => (Rows.cellApartSpec.pre enc Tryd.prog Tryd.f5 [] false w args ∧ laidMetH Tryd.prog laidL w) ∧ sizedMet enc Tryd.prog Tryd.f5 (OpenSpec.ofChange Rows.cellApartSpec) false w args)
      (Rows.cellApartSpec.post enc Tryd.prog Tryd.f5 false true false false) := by
  refine returnsInHanded_of_change_and (C := Tryd.checked) (X := fun w _ => laidMetH Tryd.prog laidL w) (fun _ _ _ hh h => h.of_heap hh) own started (by kernel_rfl) Tryd.func5
    (ChangeSpec.witness_at (enc := enc) (C := Tryd.checked) (os := os) (X := fun w _ => laidMetH Tryd.prog laidL w) false (laidWorld os) #[.int .i64 0, .slice none 0 0, .agg #[.int .i64 0, .int .i64 0, .int .i64 0]] 8 rfl (by kernel_rfl) (by kernel_rfl) (by kernel_rfl) (by kernel_rfl) (by kernel_rfl) (laidWorld_met os _)) ?_
  intro W base args ds gs before hval0 hW _ _ hL _
  have hval : ∀ (j : Nat) t v, Tryd.f5.params[j]? = some t → args[j]? = some v → Value.okWide Tryd.prog W .any base t v := hval0
  have hW' := hW
  obtain ⟨p, q, hA0, hV, rfl, hfz, hnd⟩ := hW
  have hA : DataW.TrodAll enc Tryd.prog W 0 (fun _ => true) true Tryd.f5.params.toList args.toList ds p := hA0
  rw [Tryd.params5] at hA hval
  obtain ⟨v0, vs0, d0, ds0, p0, q0, hargs, rfl, rfl, h0, r0⟩ := trodAll_cons hA
  obtain ⟨v1, vs1, d1, ds1, p1, q1, rfl, rfl, rfl, h1, r1⟩ := trodAll_cons r0
  obtain ⟨v2, vs2, d2, ds2, p2, q2, rfl, rfl, rfl, h2, r2⟩ := trodAll_cons r1
  obtain ⟨rfl, rfl, rfl⟩ := trodAll_nil r2
  obtain rfl : args = #[v0, v1, v2] := by cases args; simp_all
  obtain ⟨rfl, rfl⟩ := trodVars_none hV
  obtain ⟨a0, rfl, rfl, rfl, w0⟩ := open_int Tryd.underlying3 (hval 0 3 v0 rfl rfl) h0
  obtain ⟨A1, n1, c1, s1, rfl, hn1, hc1, hs1⟩ := open_script (hval 1 22 v1 rfl rfl) h1
  obtain ⟨x2, rfl, hx2⟩ := open_step (hval 2 32 v2 rfl rfl) h2
  clear hA0 hval0
  refine (walk a0 A1 n1 c1 s1 hn1 hc1 x2 hx2 W (et_of_laid hL) hs1).mono fun e W' ⟨he, hb⟩ => ?_
  subst he
  exact ⟨_, rfl, post_true hW' rfl rfl (by kernel_rfl) rfl hb⟩

theorem over : Rows.cellApartRow.holds Tryd.pinned (OpenSpec.ofChange Rows.cellApartSpec) :=
  OpenClaim.holds_of_wide 5 Tryd.f5 rfl rfl rfl rfl rfl rfl rfl ⟨rfl, rfl, rfl, rfl, rfl⟩ rfl rfl rfl rfl rfl (by kernel_rfl) Tryd.func5 (by kernel_rfl)
    (of_decide_eq_true (by kernel_rfl)) (by unfold Func.isWrapper; first | (rw [if_pos (by decide +kernel)]; kernel_rfl) | (rw [if_neg (by decide +kernel)]; exact ⟨rfl, rfl⟩))
    (fun os started H enc _ => lifted os started H enc)

theorem proved : Rows.CellApartCardSaid :=
  Claim7.holds_tied_plain_at .later [] [.handle] true (true, "8ad22192271aa5699a4cc611ddacb8a0f4adb4f459bf1e79af938f539e6c2f82") true
    over (fun _ h => by cases h) (by kernel_rfl) (fun _ h => by cases h) cellApart_row_tie rfl ⟨rfl, rfl⟩ (by kernel_rfl) rfl
    (fun f fn hf hfn => by
      obtain rfl : f = 5 := Option.some.inj ((show Tryd.prog.funcNamed "empennage/empennagelaw02.CellApart" = some 5 by kernel_rfl).symm.trans hf) |>.symm
      obtain rfl : fn = Tryd.f5 := (Option.some.inj (Tryd.func5.symm.trans hfn)).symm
      exact ⟨by kernel_rfl, fun j t ht => by
        rw [Tryd.params5] at ht
        rcases j with _ | _ | _ | j
        · obtain rfl : t = 3 := by simpa using ht.symm
          exact (show Tryd.prog.wantsStandIn 3 = false by kernel_rfl)
        · obtain rfl : t = 22 := by simpa using ht.symm
          exact (show Tryd.prog.wantsStandIn 22 = false by kernel_rfl)
        · obtain rfl : t = 32 := by simpa using ht.symm
          exact (show Tryd.prog.wantsStandIn 32 = false by kernel_rfl)
        · simp at ht⟩)
    (by kernel_rfl)
end Go.Proofs.YtlmdnoeimegicaaDoor.cellApart
namespace Go.Proofs.YtlmdnoeimegicaaDoor
theorem cellApart_holds : Rows.CellApartCardSaid := cellApart.proved
#print axioms cellApart_holds
end Go.Proofs.YtlmdnoeimegicaaDoor
