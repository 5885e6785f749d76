/- At the landed commit, for any script on a memory of 16 cells: what is read, and what is swapped out, is what was written last (0 at first, and behind a Reset), each access but a Reset is counted once, and at the end the memory has just the words that were written last. Conditions: the library's variable errors.errorType holds what the program's text lays (tied to the text by the card). -/
import Derived.Test.YtlmdnoeimegicaaDoorFrm
import Derived.Test.YtlmdnoeimegicaaDoorScript
import Derived.Test.YtlmdnoeimegicaaDoorCards
import Derived.Test.YtlmdnoeimegicaaDoorTie
namespace Go.Proofs.YtlmdnoeimegicaaDoor.cellLast
open Go.ChangeShapes Go.WideShapes Go.ChangeAt Go.RowKit
open Go.Proofs.YtlmdnoeimegicaaDoor.Cell

theorem write_ok {w : World} {b g : Nat} {l : List Int} {c : Int} (hm : MemAt w b g l c) (hl : l.length ≤ 4096) (c0 : 0 ≤ c) (c1 : c ≤ 1099511627776) (k : Nat) (hk : k < l.length) (v : Int) (hv : okV v = true) :
    Calls Tryd.prog 19 #[.pointer (some ⟨b, 0, none⟩), .int .i64 k, .int .i64 v] w fun e w' => e = .returned (.int .i64 0) ∧ MemAt w' b g (l.set k v) (c + 1) ∧ Keep b g w w' := by
  have HV := Lib.hid hv; clear hv
  go_enter Tryd.func19, Tryd.ntmps19
  go_wp2_with (go_at_call 21; refine (swap_ok hm hl c0 c1 k hk v HV.out).mono ?_; rintro e w' ⟨rfl, hm', hk⟩)
  go_ret
  exact ⟨rfl, hm', hk⟩
theorem reset_one {w : World} {b g : Nat} {l : List Int} {c : Int} (hm : MemAt w b g l c) (hl : l.length ≤ 4096) (k : Nat) (hk : k < l.length) :
    Calls Tryd.prog 23 #[.pointer (some ⟨b, 0, none⟩), .int .i64 k, .int .i64 1] w fun e w' => e = .returned (.int .i64 0) ∧ MemAt w' b g (l.set k 0) c ∧ Keep b g w w' :=
  reset_ok hm hl k 1 (by omega) (by omega)

theorem MemAt.alloc {w : World} {b g : Nat} {l : List Int} {c : Int} (h : MemAt w b g l c) (o : Obj) : MemAt (w.alloc o) b g l c := ⟨h.head.alloc o, h.words.alloc o⟩
theorem MemAt.drew {w : World} {b g : Nat} {l : List Int} {c : Int} (h : MemAt w b g l c) : MemAt w.drew b g l c := ⟨h.head, h.words⟩
theorem blk_rd {w : World} {a : Nat} {t : TypeId} {l : List Int} (h : Blk w a t (ints l)) : RdA w (some ⟨a, 0, none⟩) l := fun _ => ⟨a, 0, rfl, fun j hj => by rw [Nat.zero_add, h.cell, Cell.ints_at l j hj]⟩
theorem same_mixed {w : World} {Ba a t cb : Nat} {va : Value} {l : List Int} (n : Nat) (hn : n = l.length) (hl : l.length ≤ 4096) (ha : Lst w Ba va l) (hb : Blk w a t (ints l)) :
    Calls Tryd.prog 26 #[va, .slice (some ⟨a, 0, none⟩) n cb] w fun e w' => e = .returned (.bool true) ∧ ∃ n, w' = w.drewN n := by
  subst hn
  obtain ⟨A, ca, rfl, hA, _⟩ := lst_rd ha
  exact same_true hl hA (blk_rd hb)
/-- What holds at the head of each round: the law's own list has the memory's words. -/
def Inv (W : World) (b g a : Nat) (k : Nat) (c : Int) (w : World) : Prop :=
  ∃ l : List Int, MemAt w b g l c ∧ Blk w a 47 (ints l) ∧ l.length = 16 ∧ 0 ≤ c ∧ c ≤ k ∧ Below W.heap.size W w

set_option maxRecDepth 100000 in
set_option maxHeartbeats 2000000 in
theorem walk (A : Option Addr) (n c : Nat) (s : Nat → St) (hn : n ≤ c) (hc : c ≤ 9223372036854775807) (W : World) (hg : Et W) (hs : Scr W A n s) :
    Calls Tryd.prog 4 #[.slice A n c] W fun e w' => e = .returned (.bool true) ∧ Below W.heap.size W w' := by
  have p0 := hg.pos
  have HS : Hid (Scr W A (min n 80) s) := hs.less (by omega)
  clear hs
  have hm80 : min n 80 ≤ 80 := by omega
  go_enter Tryd.func4, Tryd.ntmps4
  go_wp2_with fail
  refine (lives_any _ hg).mono ?_
  rintro e w1 ⟨rfl, hb1⟩
  go_wp2_with fail
  refine (new_any 16 _).mono ?_
  rintro e w2 ⟨rfl, hm2, hb2⟩
  go_wp2_with fail
  refine (early_any n c hn hc _).mono ?_
  rintro e w4 ⟨⟨c', rfl⟩, rfl⟩
  have z1 := hb1.size
  have z2 := hm2.head.lt
  have z3 := hb2.size
  have HI : Hid (Inv W (w1.heap.size + 1) w1.heap.size w2.heap.size 0 0 (w2.alloc (.cells (ints (zs 16)) 47))) := ⟨zs 16, MemAt.alloc hm2 _, Blk.new w2 47 _, rfl, by omega, by omega, (hb1.trans (hb2.mono z1)).alloc (by omega) _⟩
  generalize hba : w1.heap.size + 1 = b at *
  generalize hga : w1.heap.size = g at *
  generalize haa : w2.heap.size = a at *
  have q1 : W.heap.size ≤ g := z1
  have q2 : g < b := by omega
  have q3 : b < a := by omega
  clear hba hga haa hm2 hb1 hb2 z1 z2 z3
  generalize min n 80 = m at *
  clear hn hc
  go_wp2
  go_loopw [5, 6] (fun nn i wr => ∃ (k : Nat) (cc : Int), k ≤ m ∧ i = .int .i64 k ∧ nn = .int .i64 cc ∧ Inv W b g a k cc wr) (fun _ i _ => m - (intOf i).toNat)
  case atStart => exact ⟨0, 0, by omega, rfl, rfl, HI.out⟩
  case round =>
    obtain ⟨k, cc, hk, rfl, rfl, l, hma, hla, hl, c0, c1, hbw⟩ := hrel
    have HL := Lib.hid hl
    have hl' : l.length ≤ 4096 := by omega
    have hl1 : 16 ≤ l.length := by omega
    clear hl HI
    by_cases hlt : k < m
    · obtain ⟨b', o, rfl, hbs, ⟨oki, okv⟩, hc1, hc2, hc3⟩ := HS.out.at_ hbw hlt
      generalize s k = x at *
      obtain ⟨kk, hkk, hk16⟩ : ∃ kk : Nat, (IntKind.u64.wrap x.i).tmod 16 = (kk : Int) ∧ kk < 16 := by
        have h := modU_bd x.i 16 (by decide)
        obtain ⟨kk, e⟩ := Int.eq_ofNat_of_zero_le h.1
        exact ⟨kk, e, by omega⟩
      obtain ⟨v, hv, v0, v1⟩ : ∃ v, (IntKind.u64.wrap x.v).tmod 2147483648 = v ∧ 0 ≤ v ∧ v < 2147483648 := ⟨_, rfl, modU_bd x.v 2147483648 (by decide)⟩
      have HV : Hid (okV v = true) := decide_eq_true (by omega)
      have hkd : modU x.kind 4 = 0 ∨ modU x.kind 4 = 1 ∨ modU x.kind 4 = 2 ∨ modU x.kind 4 = 3 := by have := modU_bd x.kind 4 (by decide); omega
      rcases hkd with hkd | hkd | hkd | hkd
      · have HK := Lib.hid hkd; clear hkd
        go_wp2_with fail
        refine (kind_any x _).mono ?_
        rintro e w4 ⟨rfl, rfl⟩
        rw [HK.out]
        have hma4 := MemAt.alloc hma (.cells #[.int .i64 x.kind, .int .i64 x.i, .int .i64 x.v] 32)
        have hla4 := hla.alloc (.cells #[.int .i64 x.kind, .int .i64 x.i, .int .i64 x.v] 32)
        have hbw4 := hbw.alloc hbw.size (.cells #[.int .i64 x.kind, .int .i64 x.i, .int .i64 x.v] 32)
        generalize wr.alloc (.cells #[.int .i64 x.kind, .int .i64 x.i, .int .i64 x.v] 32) = w4 at *
        clear hma hla hbw hc1 hc2 hc3
        go_wp2_with fail
        refine (read_ok hma4 hl' c0 (by omega) kk (by omega)).mono ?_
        rintro e w5 ⟨rfl, hma5, hk5⟩
        have hla5 := hla4.keep hk5 (by omega) (by omega)
        have hbw5 := Below.keep hbw4 hk5 hbw4.size (by omega) (by omega)
        have hcl := (hla5.cell kk).trans (Cell.ints_at l kk (by omega))
        have hfl := hla5.frozen kk
        go_wp2_with fail
        refine (count_any hma5).mono ?_
        rintro e w7 ⟨rfl, rfl⟩
        go_wp2
        go_roundw
        case rel => exact ⟨k + 1, cc + 1, by omega, by go_num, by go_num, l, hma5, hla5, HL.out, by omega, by omega, hbw5⟩
        case measure => simp [intOf]; omega
      · have HK := Lib.hid hkd; clear hkd
        go_wp2_with fail
        refine (kind_any x _).mono ?_
        rintro e w4 ⟨rfl, rfl⟩
        rw [HK.out]
        have hma4 := MemAt.alloc hma (.cells #[.int .i64 x.kind, .int .i64 x.i, .int .i64 x.v] 32)
        have hla4 := hla.alloc (.cells #[.int .i64 x.kind, .int .i64 x.i, .int .i64 x.v] 32)
        have hbw4 := hbw.alloc hbw.size (.cells #[.int .i64 x.kind, .int .i64 x.i, .int .i64 x.v] 32)
        generalize wr.alloc (.cells #[.int .i64 x.kind, .int .i64 x.i, .int .i64 x.v] 32) = w4 at *
        clear hma hla hbw hc1 hc2 hc3
        go_wp2_with fail
        refine (write_ok hma4 hl' c0 (by omega) kk (by omega) v HV.out).mono ?_
        rintro e w5 ⟨rfl, hma5, hk5⟩
        have hla5 := hla4.keep hk5 (by omega) (by omega)
        have hbw5 := Below.keep hbw4 hk5 hbw4.size (by omega) (by omega)
        have hcl := (hla5.cell kk).trans (Cell.ints_at l kk (by omega))
        have hfl := hla5.frozen kk
        have hma6 : MemAt (w5.setCell ⟨a, kk, none⟩ (.int .i64 v)) b g (l.set kk v) (cc + 1) := ⟨hma5.head.far (p := ⟨a, kk, none⟩) (by show b ≠ a; omega) _, hma5.words.far (p := ⟨a, kk, none⟩) (by show g ≠ a; omega) _⟩
        have hla6 := hla5.set_ kk (.int .i64 v)
        rw [Cell.ints_set] at hla6
        have hbw6 := hbw5.setCell (p := ⟨a, kk, none⟩) (by show W.heap.size ≤ a; omega) (.int .i64 v)
        have HM := Lib.hid hma6; clear hma6
        have HA := Lib.hid hla6; clear hla6
        have HB := Lib.hid hbw6; clear hbw6
        go_wp2_with fail
        refine (count_any HM.out).mono ?_
        rintro e w7 ⟨rfl, rfl⟩
        go_wp2
        go_roundw
        case rel => exact ⟨k + 1, cc + 1, by omega, by go_num, by go_num, l.set kk v, HM.out, HA.out, by rw [List.length_set]; exact HL.out, by omega, by omega, HB.out⟩
        case measure => simp [intOf]; omega
      · have HK := Lib.hid hkd; clear hkd
        go_wp2_with fail
        refine (kind_any x _).mono ?_
        rintro e w4 ⟨rfl, rfl⟩
        rw [HK.out]
        have hma4 := MemAt.alloc hma (.cells #[.int .i64 x.kind, .int .i64 x.i, .int .i64 x.v] 32)
        have hla4 := hla.alloc (.cells #[.int .i64 x.kind, .int .i64 x.i, .int .i64 x.v] 32)
        have hbw4 := hbw.alloc hbw.size (.cells #[.int .i64 x.kind, .int .i64 x.i, .int .i64 x.v] 32)
        generalize wr.alloc (.cells #[.int .i64 x.kind, .int .i64 x.i, .int .i64 x.v] 32) = w4 at *
        clear hma hla hbw hc1 hc2 hc3
        go_wp2_with fail
        refine (swap_ok hma4 hl' c0 (by omega) kk (by omega) v HV.out).mono ?_
        rintro e w5 ⟨rfl, hma5, hk5⟩
        have hla5 := hla4.keep hk5 (by omega) (by omega)
        have hbw5 := Below.keep hbw4 hk5 hbw4.size (by omega) (by omega)
        have hcl := (hla5.cell kk).trans (Cell.ints_at l kk (by omega))
        have hfl := hla5.frozen kk
        have hma6 : MemAt (w5.setCell ⟨a, kk, none⟩ (.int .i64 v)) b g (l.set kk v) (cc + 1) := ⟨hma5.head.far (p := ⟨a, kk, none⟩) (by show b ≠ a; omega) _, hma5.words.far (p := ⟨a, kk, none⟩) (by show g ≠ a; omega) _⟩
        have hla6 := hla5.set_ kk (.int .i64 v)
        rw [Cell.ints_set] at hla6
        have hbw6 := hbw5.setCell (p := ⟨a, kk, none⟩) (by show W.heap.size ≤ a; omega) (.int .i64 v)
        have HM := Lib.hid hma6; clear hma6
        have HA := Lib.hid hla6; clear hla6
        have HB := Lib.hid hbw6; clear hbw6
        go_wp2_with fail
        refine (count_any HM.out).mono ?_
        rintro e w7 ⟨rfl, rfl⟩
        go_wp2
        go_roundw
        case rel => exact ⟨k + 1, cc + 1, by omega, by go_num, by go_num, l.set kk v, HM.out, HA.out, by rw [List.length_set]; exact HL.out, by omega, by omega, HB.out⟩
        case measure => simp [intOf]; omega
      · have HK := Lib.hid hkd; clear hkd
        go_wp2_with fail
        refine (kind_any x _).mono ?_
        rintro e w4 ⟨rfl, rfl⟩
        rw [HK.out]
        have hma4 := MemAt.alloc hma (.cells #[.int .i64 x.kind, .int .i64 x.i, .int .i64 x.v] 32)
        have hla4 := hla.alloc (.cells #[.int .i64 x.kind, .int .i64 x.i, .int .i64 x.v] 32)
        have hbw4 := hbw.alloc hbw.size (.cells #[.int .i64 x.kind, .int .i64 x.i, .int .i64 x.v] 32)
        generalize wr.alloc (.cells #[.int .i64 x.kind, .int .i64 x.i, .int .i64 x.v] 32) = w4 at *
        clear hma hla hbw hc1 hc2 hc3
        go_wp2_with fail
        refine (reset_one hma4 hl' kk (by omega)).mono ?_
        rintro e w5 ⟨rfl, hma5, hk5⟩
        have hla5 := hla4.keep hk5 (by omega) (by omega)
        have hbw5 := Below.keep hbw4 hk5 hbw4.size (by omega) (by omega)
        have hcl := (hla5.cell kk).trans (Cell.ints_at l kk (by omega))
        have hfl := hla5.frozen kk
        have hma6 : MemAt (w5.setCell ⟨a, kk, none⟩ (.int .i64 0)) b g (l.set kk 0) (cc) := ⟨hma5.head.far (p := ⟨a, kk, none⟩) (by show b ≠ a; omega) _, hma5.words.far (p := ⟨a, kk, none⟩) (by show g ≠ a; omega) _⟩
        have hla6 := hla5.set_ kk (.int .i64 0)
        rw [Cell.ints_set] at hla6
        have hbw6 := hbw5.setCell (p := ⟨a, kk, none⟩) (by show W.heap.size ≤ a; omega) (.int .i64 0)
        have HM := Lib.hid hma6; clear hma6
        have HA := Lib.hid hla6; clear hla6
        have HB := Lib.hid hbw6; clear hbw6
        go_wp2_with fail
        refine (count_any HM.out).mono ?_
        rintro e w7 ⟨rfl, rfl⟩
        go_wp2
        go_roundw
        case rel => exact ⟨k + 1, cc, by omega, by go_num, by go_num, l.set kk 0, HM.out, HA.out, by rw [List.length_set]; exact HL.out, by omega, by omega, HB.out⟩
        case measure => simp [intOf]; omega
    · go_wp2
      go_region_with (first | (go_at_call 27; refine (all_any (b := b) (g := g) (l := l) (c := cc) (by first | exact hma | exact MemAt.drew hma) hl').mono ?_; rintro e w8 ⟨va, rfl, hva, hb8⟩) | (go_at_call 26; refine (same_mixed (l := l) (a := a) (t := 47) 16 HL.out.symm hl' hva (by first | exact hla.below hb8 hla.lt | exact (show Blk wr.drew a 47 (ints l) from hla).below hb8 hla.lt)).mono ?_; rintro e w9 ⟨rfl, nd, hw9⟩))
      all_goals
        have HW := Lib.hid hw9; clear hw9
        go_wp2
        go_ret
        first
          | exact ⟨rfl, by rw [HW.out]; exact drewN_below (hbw.drew.trans (hb8.mono hbw.size)) nd⟩
          | exact ⟨rfl, drewN_below (hbw.drew.trans (hb8.mono hbw.size)) nd⟩
          | exact ⟨rfl, by rw [HW.out]; exact drewN_below (hbw.trans (hb8.mono hbw.size)) nd⟩
          | exact ⟨rfl, drewN_below (hbw.trans (hb8.mono hbw.size)) nd⟩

/-! ### The row -/
set_option maxHeartbeats 400000 in
set_option maxRecDepth 100000 in
theorem lifted (os : Os) (started : os.Started) (H : Type) (enc : TypeId × Value → H) :
    ReturnsInHanded {} Tryd.checked os 4 .any (fun w args => (Rows.cellLastSpec.pre enc Tryd.prog Tryd.f4 [] false w args ∧ laidMetH Tryd.prog laidL w) ∧ sizedMet enc Tryd.prog Tryd.f4 (OpenSpec.ofChange Rows.cellLastSpec) false w args)
      (Rows.cellLastSpec.post enc Tryd.prog Tryd.f4 false true false false) := by
  refine returnsInHanded_of_change_and (C := Tryd.checked) (X := fun w _ => laidMetH Tryd.prog laidL w) (fun _ _ _ hh h => h.of_heap hh) own started (by kernel_rfl) Tryd.func4
    (ChangeSpec.witness_at (enc := enc) (C := Tryd.checked) (os := os) (X := fun w _ => laidMetH Tryd.prog laidL w) false (laidWorld os) #[.slice none 0 0] 8 rfl (by kernel_rfl) (by kernel_rfl) (by kernel_rfl) (by kernel_rfl) (by kernel_rfl) (laidWorld_met os _)) ?_
  intro W base args ds gs before hval0 hW _ _ hL _
  have hval : ∀ (j : Nat) t v, Tryd.f4.params[j]? = some t → args[j]? = some v → Value.okWide Tryd.prog W .any base t v := hval0
  have hW' := hW
  obtain ⟨p, q, hA0, hV, rfl, hfz, hnd⟩ := hW
  have hA : DataW.TrodAll enc Tryd.prog W 0 (fun _ => true) true Tryd.f4.params.toList args.toList ds p := hA0
  rw [Tryd.params4] at hA hval
  obtain ⟨v0, vs0, d0, ds0, p0, q0, hargs, rfl, rfl, h0, r0⟩ := trodAll_cons hA
  obtain ⟨rfl, rfl, rfl⟩ := trodAll_nil r0
  obtain rfl : args = #[v0] := by cases args; simp_all
  obtain ⟨rfl, rfl⟩ := trodVars_none hV
  obtain ⟨A0, n0, c0, s0, rfl, hn0, hc0, hs0⟩ := open_script (hval 0 22 v0 rfl rfl) h0
  clear hA0 hval0
  refine (walk A0 n0 c0 s0 hn0 hc0 W (et_of_laid hL) hs0).mono fun e W' ⟨he, hb⟩ => ?_
  subst he
  exact ⟨_, rfl, post_true hW' rfl rfl (by kernel_rfl) rfl hb⟩

theorem over : Rows.cellLastRow.holds Tryd.pinned (OpenSpec.ofChange Rows.cellLastSpec) :=
  OpenClaim.holds_of_wide 4 Tryd.f4 rfl rfl rfl rfl rfl rfl rfl ⟨rfl, rfl, rfl, rfl, rfl⟩ rfl rfl rfl rfl rfl (by kernel_rfl) Tryd.func4 (by kernel_rfl)
    (of_decide_eq_true (by kernel_rfl)) (by unfold Func.isWrapper; first | (rw [if_pos (by decide +kernel)]; kernel_rfl) | (rw [if_neg (by decide +kernel)]; exact ⟨rfl, rfl⟩))
    (fun os started H enc _ => lifted os started H enc)

theorem proved : Rows.CellLastCardSaid :=
  Claim7.holds_tied_plain_at .later [] [.handle] true (true, "8ad22192271aa5699a4cc611ddacb8a0f4adb4f459bf1e79af938f539e6c2f82") true
    over (fun _ h => by cases h) (by kernel_rfl) (fun _ h => by cases h) cellLast_row_tie rfl ⟨rfl, rfl⟩ (by kernel_rfl) rfl
    (fun f fn hf hfn => by
      obtain rfl : f = 4 := Option.some.inj ((show Tryd.prog.funcNamed "empennage/empennagelaw02.CellLast" = some 4 by kernel_rfl).symm.trans hf) |>.symm
      obtain rfl : fn = Tryd.f4 := (Option.some.inj (Tryd.func4.symm.trans hfn)).symm
      exact ⟨by kernel_rfl, fun j t ht => by
        rw [Tryd.params4] at ht
        rcases j with _ | j
        · obtain rfl : t = 22 := by simpa using ht.symm
          exact (show Tryd.prog.wantsStandIn 22 = false by kernel_rfl)
        · simp at ht⟩)
    (by kernel_rfl)
end Go.Proofs.YtlmdnoeimegicaaDoor.cellLast
namespace Go.Proofs.YtlmdnoeimegicaaDoor
theorem cellLast_holds : Rows.CellLastCardSaid := cellLast.proved
#print axioms cellLast_holds
end Go.Proofs.YtlmdnoeimegicaaDoor
