/- package table, what is written: a list, how many first. Written by gen_pw5.py. -/
import Derived.Test.YtfbbgoahipejlabDoorPWB
import Derived.Test.YtfbbgoahipejlabDoorCln
import Derived.Test.YtfbbgoahipejlabDoorGood0
namespace Go.Proofs.YtfbbgoahipejlabDoor.T
open Go.RowKit Go.Proofs.YtfbbgoahipejlabDoor.G Go.Proofs.YtfbbgoahipejlabDoor.C04

theorem own_cells {w : World} {B m n c : Nat} {t : TypeId} {A : Option Addr} {xs : List Value} (h : Own w B t m (.slice A n c) n xs) {j : Nat} (hj : j < n) : ∃ g cur, A = some ⟨g, 0, none⟩ ∧ Blk w g t cur ∧ ∀ (i : Nat) (u : Value), xs[i]? = some u → cur[i]? = some u := by
  rcases h.2 with ⟨e, h0⟩ | ⟨g, cap, cur, e, hB, hh, hle, hm, hs, ht⟩
  · omega
  · injection e with e1 _ _
    refine ⟨g, cur, e1, hh, fun i u hu => ?_⟩
    rw [← ht, List.getElem?_take] at hu
    split at hu
    · rw [← Array.getElem?_toList]; exact hu
    · cases hu
def winB (x : Win) : List UInt8 := ob [ow x.o, x.s, x.l]
def winsB (xs : List Win) : List UInt8 := xs.flatMap winB
theorem winsB_take (xs : List Win) (j : Nat) (x : Win) (h : xs[j]? = some x) : winsB (xs.take (j + 1)) = winsB (xs.take j) ++ winB x := by
  rw [List.take_add_one, h]; simp [winsB]
theorem winsB_len (xs : List Win) : (winsB xs).length = 3 * xs.length := by
  induction xs with
  | nil => rfl
  | cons x r ih => simp only [winsB, List.flatMap_cons, List.length_append, List.length_cons] at ih ⊢; rw [ih]; simp [winB, ob_len]; omega
def InvLW (w : World) (gc : Nat) (l : List UInt8) (xs : List Win) (i : Value) (V : World) : Prop := ∃ j : Nat, i = .int .i64 j ∧ j ≤ xs.length ∧ WS gc (l ++ W.num 1 xs.length ++ winsB (xs.take j)) V ∧ w.grownBy V (some gc)
set_option maxHeartbeats 2000000 in
set_option maxRecDepth 100000 in
theorem listw_wr {w : World} {gc B c : Nat} {A : Option Addr} {l : List UInt8} (xs : List Win) (h : WS gc l w) (ho : Own w B 89 3 (.slice A xs.length c) xs.length (wvs xs)) (hok : ∀ x ∈ xs, (∀ z ∈ [ow x.o, x.s, x.l], W.inN 1 z = true) ∧ x.o ≠ 255) (hx : xs.length ≤ 10) (hl : l.length ≤ 1700) :
    Calls Tryd.prog 98 #[.slice A xs.length c, .func (.func 90) #[] #[.pointer (some ⟨gc, 0, none⟩)], .func (.func 99) #[] #[]] w fun e w' => e = .returned (.slice A xs.length c) ∧ WS gc (l ++ W.num 1 xs.length ++ winsB xs) w' ∧ w.grownBy w' (some gc) := by
  have hgl : gc < w.heap.size := by
    obtain ⟨A, c, h1, _⟩ := h
    exact h1.lt
  have HS := Lib.hid (h.alloc (.cells #[.int .i64 xs.length] 3))
  have HO := Lib.hid ho
  have HOK := Lib.hid hok
  have N0 := Blk.new w 3 #[.int .i64 xs.length]
  have n0 := N0.cell 0
  have hin : W.inN 1 (xs.length : Int) = true := decide_eq_true ⟨by omega, by show (xs.length : Int) < 256; omega⟩
  have hgn : w.heap.size ≠ gc := Nat.ne_of_gt hgl
  have hgb : ∀ g o, A = some ⟨g, o, none⟩ → g ≠ gc ∧ g < w.heap.size := fun g o e => by
    subst e
    obtain ⟨A', c', e', _, _, _, hAB⟩ := ho.row
    injection e' with e' _ _
    obtain ⟨_, _, cur, hcur⟩ := hAB g o e'.symm
    obtain ⟨A2, c2, h1, _⟩ := h
    exact ⟨hcur.ne_ h1 (by decide), hcur.lt⟩
  have HGB := Lib.hid hgb
  clear h ho hok hgb
  go_enter Tryd.func98, Tryd.ntmps98
  go_upto_region 3 with (go_at_call 90; (with_reducible refine (clos_any 1 (xs.length : Int) HS.out (by omega) rfl hin n0).mono ?_); rintro e w1 ⟨rfl, hw1, hg1⟩)
  have NB := gblk hg1 N0 hgn
  have k1 := NB.cell
  have z1 := NB.lt
  have G1 := Lib.hid (gtrans (galloc (grefl w gc) _) hg1)
  have HW := Lib.hid hw1
  clear n0 N0 hg1 hw1 NB hin HS
  go_loopw [0] (fun v V => v = .slice A xs.length c ∧ V = w1) (fun _ _ => 0)
  case atStart => exact ⟨rfl, rfl⟩
  case round =>
    obtain ⟨rfl, rfl⟩ := hrel
    go_wp2_with fail
    go_loopw [24] (fun i W => InvLW w gc l xs i W) (fun i _ => xs.length - (intOf i).toNat)
    case atStart => exact ⟨0, rfl, by omega, by simpa [winsB] using HW.out, G1.out⟩
    case round =>
      obtain ⟨j, rfl, hj, hw, hg⟩ := hrel
      by_cases hlt : j < xs.length
      · obtain ⟨x, hxj, _⟩ := drop_cons hlt
        obtain ⟨g, cur, rfl, hcur, hcc⟩ := own_cells HO.out hlt
        obtain ⟨hgc, hgs⟩ := HGB.out g 0 rfl
        have hB := gblk hg hcur hgc
        have hokx := HOK.out x (List.mem_of_getElem? hxj)
        have hq := fun i (hi : i < 3) => hcc (j * 3 + i) _ ((flat_at Win.cells_len xs j i x hxj hi).trans (List.getElem?_eq_getElem (by rw [Win.cells_len]; exact hi)))
        have HX := Lib.hid hxj
        have HG := Lib.hid hg
        have HW2 := Lib.hid hw
        have HQ := Lib.hid hq
        have hlw : (l ++ W.num 1 xs.length ++ winsB (xs.take j)).length ≤ 2000 := by rw [List.length_append, List.length_append, winsB_len, List.length_take]; simp [W.num]; omega
        clear hcc hxj hg hw hq hcur
        
        go_wp2_with (go_at_call 99; (with_reducible refine (window_any x HW2.out hB (HQ.out 0 (by omega)) (HQ.out 1 (by omega)) (HQ.out 2 (by omega)) hokx.1 hokx.2 hlw).mono ?_); rintro e w2 ⟨rfl, hw2, hg2⟩)
        go_roundw
        case rel => exact ⟨j + 1, by go_num, by omega, by rw [winsB_take _ _ _ HX.out, ← List.append_assoc]; exact hw2, gtrans HG.out hg2⟩
        case measure => simp [intOf]; omega
      · go_wp2_with fail
        go_ret
        rw [List.take_of_length_le (by omega)] at hw
        exact ⟨rfl, hw, hg⟩
def chnB1 (x : Chn) : List UInt8 := chnB x
def chnsB (xs : List Chn) : List UInt8 := xs.flatMap chnB1
theorem chnsB_take (xs : List Chn) (j : Nat) (x : Chn) (h : xs[j]? = some x) : chnsB (xs.take (j + 1)) = chnsB (xs.take j) ++ chnB1 x := by
  rw [List.take_add_one, h]; simp [chnsB]
theorem chnsB_len (xs : List Chn) : (chnsB xs).length = 17 * xs.length := by
  induction xs with
  | nil => rfl
  | cons x r ih => simp only [chnsB, List.flatMap_cons, List.length_append, List.length_cons] at ih ⊢; rw [ih]; simp [chnB1, chnB, ob_len, num4_len]; omega
def InvLC (w : World) (gc : Nat) (l : List UInt8) (xs : List Chn) (i : Value) (V : World) : Prop := ∃ j : Nat, i = .int .i64 j ∧ j ≤ xs.length ∧ WS gc (l ++ W.num 1 xs.length ++ chnsB (xs.take j)) V ∧ w.grownBy V (some gc)
set_option maxHeartbeats 2000000 in
set_option maxRecDepth 100000 in
theorem listc_wr {w : World} {gc B c : Nat} {A : Option Addr} {l : List UInt8} (xs : List Chn) (h : WS gc l w) (ho : Own w B 118 11 (.slice A xs.length c) xs.length (cvs xs)) (hok : ∀ x ∈ xs, ChnOk x) (hx : xs.length ≤ 10) (hl : l.length ≤ 1700) :
    Calls Tryd.prog 100 #[.slice A xs.length c, .func (.func 90) #[] #[.pointer (some ⟨gc, 0, none⟩)], .func (.func 101) #[] #[]] w fun e w' => e = .returned (.slice A xs.length c) ∧ WS gc (l ++ W.num 1 xs.length ++ chnsB xs) w' ∧ w.grownBy w' (some gc) := by
  have hgl : gc < w.heap.size := by
    obtain ⟨A, c, h1, _⟩ := h
    exact h1.lt
  have HS := Lib.hid (h.alloc (.cells #[.int .i64 xs.length] 3))
  have HO := Lib.hid ho
  have HOK := Lib.hid hok
  have N0 := Blk.new w 3 #[.int .i64 xs.length]
  have n0 := N0.cell 0
  have hin : W.inN 1 (xs.length : Int) = true := decide_eq_true ⟨by omega, by show (xs.length : Int) < 256; omega⟩
  have hgn : w.heap.size ≠ gc := Nat.ne_of_gt hgl
  have hgb : ∀ g o, A = some ⟨g, o, none⟩ → g ≠ gc ∧ g < w.heap.size := fun g o e => by
    subst e
    obtain ⟨A', c', e', _, _, _, hAB⟩ := ho.row
    injection e' with e' _ _
    obtain ⟨_, _, cur, hcur⟩ := hAB g o e'.symm
    obtain ⟨A2, c2, h1, _⟩ := h
    exact ⟨hcur.ne_ h1 (by decide), hcur.lt⟩
  have HGB := Lib.hid hgb
  clear h ho hok hgb
  go_enter Tryd.func100, Tryd.ntmps100
  go_upto_region 3 with (go_at_call 90; (with_reducible refine (clos_any 1 (xs.length : Int) HS.out (by omega) rfl hin n0).mono ?_); rintro e w1 ⟨rfl, hw1, hg1⟩)
  have NB := gblk hg1 N0 hgn
  have k1 := NB.cell
  have z1 := NB.lt
  have G1 := Lib.hid (gtrans (galloc (grefl w gc) _) hg1)
  have HW := Lib.hid hw1
  clear n0 N0 hg1 hw1 NB hin HS
  go_loopw [0] (fun v V => v = .slice A xs.length c ∧ V = w1) (fun _ _ => 0)
  case atStart => exact ⟨rfl, rfl⟩
  case round =>
    obtain ⟨rfl, rfl⟩ := hrel
    go_wp2_with fail
    go_loopw [24] (fun i W => InvLC w gc l xs i W) (fun i _ => xs.length - (intOf i).toNat)
    case atStart => exact ⟨0, rfl, by omega, by simpa [chnsB] using HW.out, G1.out⟩
    case round =>
      obtain ⟨j, rfl, hj, hw, hg⟩ := hrel
      by_cases hlt : j < xs.length
      · obtain ⟨x, hxj, _⟩ := drop_cons hlt
        obtain ⟨g, cur, rfl, hcur, hcc⟩ := own_cells HO.out hlt
        obtain ⟨hgc, hgs⟩ := HGB.out g 0 rfl
        have hB := gblk hg hcur hgc
        have hokx := HOK.out x (List.mem_of_getElem? hxj)
        have hq := fun i (hi : i < 11) => hcc (j * 11 + i) _ ((flat_at Chn.cells_len xs j i x hxj hi).trans (List.getElem?_eq_getElem (by rw [Chn.cells_len]; exact hi)))
        have HX := Lib.hid hxj
        have HG := Lib.hid hg
        have HW2 := Lib.hid hw
        have HQ := Lib.hid hq
        have hlw : (l ++ W.num 1 xs.length ++ chnsB (xs.take j)).length ≤ 2000 := by rw [List.length_append, List.length_append, chnsB_len, List.length_take]; simp [W.num]; omega
        clear hcc hxj hg hw hq hcur
        have hci : ChnIn cur (j * 11) x := ⟨HQ.out 0 (by omega), HQ.out 1 (by omega), HQ.out 2 (by omega), HQ.out 3 (by omega), HQ.out 4 (by omega), HQ.out 5 (by omega), HQ.out 6 (by omega), HQ.out 7 (by omega), HQ.out 8 (by omega), HQ.out 9 (by omega), HQ.out 10 (by omega)⟩
        go_wp2_with (go_at_call 101; (with_reducible refine (channel_wr x HW2.out hB hci hokx hlw).mono ?_); rintro e w2 ⟨rfl, hw2, hg2⟩)
        go_roundw
        case rel => exact ⟨j + 1, by go_num, by omega, by rw [chnsB_take _ _ _ HX.out, ← List.append_assoc]; exact hw2, gtrans HG.out hg2⟩
        case measure => simp [intOf]; omega
      · go_wp2_with fail
        go_ret
        rw [List.take_of_length_le (by omega)] at hw
        exact ⟨rfl, hw, hg⟩
def actB (x : Int) : List UInt8 := ob [x]
def actsB (xs : List Int) : List UInt8 := xs.flatMap actB
theorem actsB_take (xs : List Int) (j : Nat) (x : Int) (h : xs[j]? = some x) : actsB (xs.take (j + 1)) = actsB (xs.take j) ++ actB x := by
  rw [List.take_add_one, h]; simp [actsB]
theorem actsB_len (xs : List Int) : (actsB xs).length = 1 * xs.length := by
  induction xs with
  | nil => rfl
  | cons x r ih => simp only [actsB, List.flatMap_cons, List.length_append, List.length_cons] at ih ⊢; rw [ih]; simp [actB, ob_len]; omega
def InvLI (w : World) (gc : Nat) (l : List UInt8) (xs : List Int) (i : Value) (V : World) : Prop := ∃ j : Nat, i = .int .i64 j ∧ j ≤ xs.length ∧ WS gc (l ++ W.num 1 xs.length ++ actsB (xs.take j)) V ∧ w.grownBy V (some gc)
set_option maxHeartbeats 2000000 in
set_option maxRecDepth 100000 in
theorem listi_wr {w : World} {gc B c : Nat} {A : Option Addr} {l : List UInt8} (xs : List Int) (h : WS gc l w) (ho : Own w B 3 1 (.slice A xs.length c) xs.length (ivs xs)) (hok : ∀ x ∈ xs, W.inN 1 x = true) (hx : xs.length ≤ 10) (hl : l.length ≤ 1700) :
    Calls Tryd.prog 102 #[.slice A xs.length c, .func (.func 90) #[] #[.pointer (some ⟨gc, 0, none⟩)], .func (.func 103) #[] #[]] w fun e w' => e = .returned (.slice A xs.length c) ∧ WS gc (l ++ W.num 1 xs.length ++ actsB xs) w' ∧ w.grownBy w' (some gc) := by
  have hgl : gc < w.heap.size := by
    obtain ⟨A, c, h1, _⟩ := h
    exact h1.lt
  have HS := Lib.hid (h.alloc (.cells #[.int .i64 xs.length] 3))
  have HO := Lib.hid ho
  have HOK := Lib.hid hok
  have N0 := Blk.new w 3 #[.int .i64 xs.length]
  have n0 := N0.cell 0
  have hin : W.inN 1 (xs.length : Int) = true := decide_eq_true ⟨by omega, by show (xs.length : Int) < 256; omega⟩
  have hgn : w.heap.size ≠ gc := Nat.ne_of_gt hgl
  have hgb : ∀ g o, A = some ⟨g, o, none⟩ → g ≠ gc ∧ g < w.heap.size := fun g o e => by
    subst e
    obtain ⟨A', c', e', _, _, _, hAB⟩ := ho.row
    injection e' with e' _ _
    obtain ⟨_, _, cur, hcur⟩ := hAB g o e'.symm
    obtain ⟨A2, c2, h1, _⟩ := h
    exact ⟨hcur.ne_ h1 (by decide), hcur.lt⟩
  have HGB := Lib.hid hgb
  clear h ho hok hgb
  go_enter Tryd.func102, Tryd.ntmps102
  go_upto_region 3 with (go_at_call 90; (with_reducible refine (clos_any 1 (xs.length : Int) HS.out (by omega) rfl hin n0).mono ?_); rintro e w1 ⟨rfl, hw1, hg1⟩)
  have NB := gblk hg1 N0 hgn
  have k1 := NB.cell
  have z1 := NB.lt
  have G1 := Lib.hid (gtrans (galloc (grefl w gc) _) hg1)
  have HW := Lib.hid hw1
  clear n0 N0 hg1 hw1 NB hin HS
  go_loopw [0] (fun v V => v = .slice A xs.length c ∧ V = w1) (fun _ _ => 0)
  case atStart => exact ⟨rfl, rfl⟩
  case round =>
    obtain ⟨rfl, rfl⟩ := hrel
    go_wp2_with fail
    go_loopw [24] (fun i W => InvLI w gc l xs i W) (fun i _ => xs.length - (intOf i).toNat)
    case atStart => exact ⟨0, rfl, by omega, by simpa [actsB] using HW.out, G1.out⟩
    case round =>
      obtain ⟨j, rfl, hj, hw, hg⟩ := hrel
      by_cases hlt : j < xs.length
      · obtain ⟨x, hxj, _⟩ := drop_cons hlt
        obtain ⟨g, cur, rfl, hcur, hcc⟩ := own_cells HO.out hlt
        obtain ⟨hgc, hgs⟩ := HGB.out g 0 rfl
        have hB := gblk hg hcur hgc
        have hokx := HOK.out x (List.mem_of_getElem? hxj)
        have hq := hcc j (.int .i64 x) (by simp [ivs, iv, hxj])
        have HX := Lib.hid hxj
        have HG := Lib.hid hg
        have HW2 := Lib.hid hw
        have HQ := Lib.hid hq
        have hlw : (l ++ W.num 1 xs.length ++ actsB (xs.take j)).length ≤ 2000 := by rw [List.length_append, List.length_append, actsB_len, List.length_take]; simp [W.num]; omega
        clear hcc hxj hg hw hq hcur
        have hcell := (hB.cell j).trans (HQ.out)
        go_wp2_with (go_at_call 103; (with_reducible refine (action_wr x HW2.out hcell hokx hlw).mono ?_); rintro e w2 ⟨rfl, hw2, hg2⟩)
        go_roundw
        case rel => exact ⟨j + 1, by go_num, by omega, by rw [actsB_take _ _ _ HX.out, ← List.append_assoc]; exact hw2, gtrans HG.out hg2⟩
        case measure => simp [intOf]; omega
      · go_wp2_with fail
        go_ret
        rw [List.take_of_length_le (by omega)] at hw
        exact ⟨rfl, hw, hg⟩
end Go.Proofs.YtfbbgoahipejlabDoor.T
