/- A pool: all slots of a state, Of, Free: contracts. -/
import Derived.Test.YtppmfmgmlicefaaPC2
import Derived.OwnWalk
import Derived.Deep.DeepCutAuto
import Derived.Deep.CutRange
import Derived.Deep.DeepMust
namespace Go.Proofs.Ytppmfmgmlicefaa.P9
open Go.RowKit Go.Proofs.Ytppmfmgmlicefaa.G
set_option maxRecDepth 100000
variable {w w' : World} {b n : Nat} {s : SS} {t : Nat → Int} {c : Int}

theorem info3 : (Try.prog.info? 3).map (fun i => (i.zero, i.size, i.bytes)) = some (some (.int .i64 0), 1, 8) := by kernel_rfl
def iv (l : List Int) : List Value := l.map (Value.int .i64)
theorem iv_snoc (l : List Int) (k : Int) : iv (l ++ [k]) = iv l ++ [.int .i64 k] := by simp [iv]
theorem iv_one (l : List Int) : ∀ u ∈ iv l, u.oneCell' = true := by
  intro u hu; obtain ⟨x, _, rfl⟩ := List.mem_map.1 hu; rfl
theorem iv_len (l : List Int) : (iv l).length = l.length := by simp [iv]
/-- A list of numbers in memory of its own. -/
def Lst (w : World) (B : Nat) (v : Value) (l : List Int) : Prop := Own w B 3 1 v l.length (iv l)
def LstPost (w : World) (l : List Int) (e : Ending) (w' : World) : Prop := ∃ v, e = .returned v ∧ Lst w' w.heap.size v l ∧ Below w.heap.size w w'
def InvA (w : World) (b n : Nat) (x : Option Int) (s : SS) (t : Nat → Int) (c : Int) (bx : Bool) (vx : Int) (l i : Value) (V : World) : Prop :=
  ∃ k : Nat, i = .int .i64 k ∧ k ≤ n ∧ Lst V w.heap.size l (all k s x) ∧ Pl V b n s t c ∧ Blk V w.heap.size 56 #[.bool bx, .int .i64 vx] ∧ Below w.heap.size w V
theorem blk_grown {g : Nat} {ty : TypeId} {cs : Array Value} {row : Option Nat} (h : Blk w g ty cs) (hb : w.grownBy w' row) (hg : some g ≠ row) : Blk w' g ty cs := (hb.block g h.lt hg).trans h
theorem own_ne {B m q g : Nat} {te ty : TypeId} {v : Value} {xs : List Value} {cs : Array Value} (h : Own w B te m v q xs) (hg : Blk w g ty cs) (hne : te ≠ ty) : some g ≠ v.ownBlock := fun e => by
  obtain ⟨_, cur, hc⟩ := Own.block_lt h e.symm
  exact Blk.ne_ hc hg hne rfl
theorem Pl.grown {B m q : Nat} {v : Value} {xs : List Value} (h : Pl w b n s t c) (ho : Own w B 3 m v q xs) (hb : w.grownBy w' v.ownBlock) : Pl w' b n s t c := by
  obtain ⟨cs, h1, h2⟩ := h.blk
  exact ⟨⟨cs, blk_grown h1 hb (own_ne ho h1 (by decide)), h2⟩, h.n64, h.tb⟩
set_option maxHeartbeats 2000000 in
theorem all_any (h : Pl w b n s t c) (x : Option Int) : Calls Try.prog 33 #[.pointer (some ⟨b, 0, none⟩), .agg #[.bool (B1 x), .int .i64 (V1 x)]] w (LstPost w (all n s x)) := by
  obtain ⟨i0, hi, hz0, hz1, hz2⟩ := info_parts info3
  have n64 := h.n64
  obtain ⟨bx, hbx⟩ : ∃ bx, B1 x = bx := ⟨_, rfl⟩
  obtain ⟨vx, hvx⟩ : ∃ vx, V1 x = vx := ⟨_, rfl⟩
  have HX := Lib.hid (And.intro hbx hvx)
  rw [hbx, hvx]
  have HP := Lib.hid (h.below (b01 w (.cells #[.bool bx, .int .i64 vx] 56)))
  have HG := Lib.hid (Blk.new w 56 #[.bool bx, .int .i64 vx])
  have HB := Lib.hid (b01 w (.cells #[.bool bx, .int .i64 vx] 56))
  clear h hbx hvx
  go_enter Try.func33, Try.ntmps33
  go_wp2_with fail
  refine (there_any HP.out).mono ?_
  rintro e w1 ⟨rfl, hb1⟩
  have HP1 := Lib.hid (HP.out.below hb1)
  have HG1 := Lib.hid (HG.out.bel hb1)
  have HB1 := Lib.hid (bt HB.out hb1)
  clear HP HG HB hb1
  go_wp2_with fail
  go_loopw [5, 11] (fun l i V => InvA w b n x s t c bx vx l i V) (fun _ i _ => n - (intOf i).toNat)
  case atStart => exact ⟨0, rfl, by omega, Own.nil_ _ _ _ _, HP1.out, HG1.out, HB1.out⟩
  case round =>
    obtain ⟨k, rfl, hk, hl, hp, hg, hb⟩ := hrel
    obtain ⟨A2, c2, rfl, _⟩ := Own.row hl
    have hll := all_len k s x
    have HL := Lib.hid hl
    have HP2 := Lib.hid hp
    have HG2 := Lib.hid hg
    have HB2 := Lib.hid hb
    clear HP1 HG1 HB1 hl hp hg hb
    by_cases hlt : k < n
    · obtain ⟨p1, p2⟩ := HP2.out.cells (show k < 64 by omega)
      have hBk : Hid (∀ r, decide (s k = x) = r → ∀ W, (binOp .eql 56 (.agg #[.bool (B1 (s k)), .int .i64 (V1 (s k))]) (.agg #[.bool bx, .int .i64 vx])).run Try.prog W = .ok (.bool r) W) := fun r hr W => by
        rw [← HX.out.1, ← HX.out.2]; exact run_eqlS (by rw [bv_dec]; exact hr) W
      generalize B1 (s k) = bb at *
      generalize V1 (s k) = vv at *
      have f1 : (k : Int) < n := by omega
      have N0 := b01 wr (.cells #[.bool bb, .int .i64 vv] 56)
      have NL := hi
      have HL3 := Lib.hid (Own.below HL.out N0)
      have HP3 := Lib.hid (HP2.out.below N0)
      have HG3 := Lib.hid (HG2.out.bel N0)
      have HB3 := Lib.hid (bt HB2.out N0)
      have g0 := HG3.out.cell 0
      have g1 := HG3.out.cell 1
      simp only [List.getElem?_toArray, List.getElem?_cons_zero, List.getElem?_cons_succ] at g0 g1
      clear N0 NL HL HG2
      by_cases hz : s k = x
      · have hE := hBk.out true (decide_eq_true hz)
        have HZ := Lib.hid (all_yes hz)
        have N1 := b01 (wr.alloc (.cells #[.bool bb, .int .i64 vv] 56)) (.cells #[.int .i64 (k : Int)] 3)
        have HO := Lib.hid (Own.below HL3.out N1)
        have HP4 := Lib.hid (HP3.out.below N1)
        have HG4 := Lib.hid (HG3.out.bel N1)
        have HB4 := Lib.hid (bt HB3.out N1)
        have hs3 : w.heap.size ≤ ((wr.alloc (.cells #[.bool bb, .int .i64 vv] 56)).alloc (.cells #[.int .i64 (k : Int)] 3)).heap.size := HB4.out.size
        have HRow : Hid (Row ((wr.alloc (.cells #[.bool bb, .int .i64 vv] 56)).alloc (.cells #[.int .i64 (k : Int)] 3)) (some ⟨wr.heap.size + 1, 0, none⟩) [.int .i64 (k : Int)]) := by
          have := Blk.new (wr.alloc (.cells #[.bool bb, .int .i64 vv] 56)) 3 #[.int .i64 (k : Int)]
          exact Row.of_blk (by simpa using this) fun j u hj => by simpa using hj
        clear hz N1 HL3 HP3 HG3 HB3 hBk
        go_wp2_with (at_builtin; go_must (refine wpList_app Try.underlying27 hi hz0 hz1 hz2 rfl (by omega) rfl (.tmp 19) (.tmp 21) rfl w.heap.size (.slice A2 (all k s x).length c2) (all k s x).length (iv (all k s x)) rfl HO.out (some ⟨wr.heap.size + 1, 0, none⟩) 1 1 _ rfl HRow.out rfl (iv_one [(k : Int)]) (by omega) (by omega) hs3 ?_); intro v' w5 ho5 hb5 hg5 hob5; clear hob5)
        go_roundw
        case rel =>
          refine ⟨k + 1, by go_num, by omega, ?_, HP4.out.grown HO.out hg5, blk_grown HG4.out hg5 (own_ne HO.out HG4.out (by decide)), HB4.out.trans hb5⟩
          rw [HZ.out]; unfold Lst; rw [iv_snoc, List.length_append]; exact ho5
        case measure => simp [intOf]; omega
      · have hE := hBk.out false (decide_eq_false hz)
        have HZ := Lib.hid (all_no hz)
        clear hz hBk
        go_wp2_with fail
        go_roundw
        case rel =>
          refine ⟨k + 1, by go_num, by omega, ?_, HP3.out, HG3.out, HB3.out⟩
          rw [HZ.out]; exact HL3.out
        case measure => simp [intOf]; omega
    · obtain rfl : k = n := by omega
      go_wp2_with fail
      go_ret
      exact ⟨_, rfl, HL.out, HB2.out⟩
theorem all_nil (x : Bool) (y : Int) (w : World) : Calls Try.prog 33 #[.pointer none, .agg #[.bool x, .int .i64 y]] w fun e w' => e = .returned (.slice none 0 0) ∧ Below w.heap.size w w' := by
  have HB := Lib.hid (b01 w (.cells #[.bool x, .int .i64 y] 56))
  go_enter Try.func33, Try.ntmps33
  go_wp2_with fail
  refine (there_nil _).mono ?_
  rintro e w1 ⟨rfl, rfl⟩
  go_wp2_with fail
  go_loopw [5, 11] (fun l i V => l = .slice none 0 0 ∧ i = .int .i64 0 ∧ Below w.heap.size w V) (fun _ _ _ => 0)
  case atStart => exact ⟨rfl, rfl, HB.out⟩
  case round =>
    obtain ⟨rfl, rfl, hb⟩ := hrel
    go_wp2_with fail
    go_ret
    exact ⟨rfl, hb⟩
theorem of_any (h : Pl w b n s t c) (v : Int) : Calls Try.prog 24 #[.pointer (some ⟨b, 0, none⟩), .int .i64 v] w (LstPost w (all n s (some v))) := by
  have HP := Lib.hid h
  clear h
  go_enter Try.func24, Try.ntmps24
  go_wp2_with fail
  refine (owned_any v _).mono ?_
  rintro e w1 ⟨rfl, hb1⟩
  go_wp2_with fail
  refine (all_any (HP.out.below hb1) (some v)).mono ?_
  rintro e w2 ⟨u, rfl, hl, hb2⟩
  go_wp2_with fail
  go_ret
  exact ⟨u, rfl, Own.less hl hb1.size, bt hb1 hb2⟩
theorem of_nil (v : Int) (w : World) : Calls Try.prog 24 #[.pointer none, .int .i64 v] w fun e w' => e = .returned (.slice none 0 0) ∧ Below w.heap.size w w' := by
  go_enter Try.func24, Try.ntmps24
  go_wp2_with fail
  refine (owned_any v _).mono ?_
  rintro e w1 ⟨rfl, hb1⟩
  go_wp2_with fail
  refine (all_nil true v _).mono ?_
  rintro e w2 ⟨rfl, hb2⟩
  go_wp2_with fail
  go_ret
  exact ⟨rfl, bt hb1 hb2⟩
def IPost (w : World) (m : Nat) (e : Ending) (w' : World) : Prop := e = .returned (.int .i64 (m : Int)) ∧ Below w.heap.size w w'
theorem free_any (h : Pl w b n s t c) : Calls Try.prog 20 #[.pointer (some ⟨b, 0, none⟩)] w (IPost w (all n s none).length) := by
  have HP := Lib.hid (all_any h none)
  rw [B1_none, V1_none] at HP
  have hl := all_len n s none
  have n64 := h.n64
  clear h
  go_enter Try.func20, Try.ntmps20
  go_wp2_with fail
  refine HP.out.mono ?_
  rintro e w2 ⟨u, rfl, hl, hb2⟩
  obtain ⟨A2, c2, rfl, _⟩ := Own.row hl
  go_wp2_with fail
  go_ret
  exact ⟨rfl, hb2⟩
theorem free_nil (w : World) : Calls Try.prog 20 #[.pointer none] w fun e w' => e = .returned (.int .i64 0) ∧ Below w.heap.size w w' := by
  go_enter Try.func20, Try.ntmps20
  go_wp2_with fail
  refine (all_nil false 0 _).mono ?_
  rintro e w2 ⟨rfl, hb2⟩
  go_wp2_with fail
  go_ret
  exact ⟨rfl, hb2⟩
end Go.Proofs.Ytppmfmgmlicefaa.P9
