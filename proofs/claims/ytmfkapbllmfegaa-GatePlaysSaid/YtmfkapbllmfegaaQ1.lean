/- Lanes: count, New, has, there, Len, first, laneOf, each: contracts. -/
import Derived.Test.YtmfkapbllmfegaaQMem
import Derived.BigFrame
import Derived.RegionTactic
import Derived.Deep.RegionWith
import Derived.Deep.QuietTactic
import Derived.BigQuiet
import Derived.Deep.DeepCutAuto
import Derived.Deep.CutRange
import Derived.Deep.DeepMust
namespace Go.Proofs.Ytmfkapbllmfegaa.L10
open Go.RowKit Go.Proofs.Ytmfkapbllmfegaa.G
set_option maxRecDepth 100000
variable {w w' : World} {b L P : Nat} {r : Value} {d : List MV}

theorem there_nil (w : World) : Calls Try.prog 68 #[.pointer none] w fun e w' => e = .returned (.slice none 0 0) ∧ w = w' := by
  go_enter Try.func68, Try.ntmps68
  go_wp2
  go_ret
  exact ⟨rfl, rfl⟩
theorem there_any (h : Ln w b L P r d) : Calls Try.prog 68 #[.pointer (some ⟨b, 0, none⟩)] w fun e w' => e = .returned r ∧ w = w' := by
  obtain ⟨k0, k1, k2⟩ := h.cells
  obtain ⟨A, c, rfl, _⟩ := h.own.row
  clear h
  go_enter Try.func68, Try.ntmps68
  go_wp2
  go_ret
  exact ⟨rfl, rfl⟩
theorem len_nil (w : World) : Calls Try.prog 46 #[.pointer none] w fun e w' => e = .returned (.int .i64 0) ∧ w = w' := by
  go_enter Try.func46, Try.ntmps46
  go_wp2_with fail
  refine (there_nil _).mono ?_
  rintro e w' ⟨rfl, rfl⟩
  go_wp2_with fail
  go_ret
  exact ⟨rfl, rfl⟩
theorem len_any (h : Ln w b L P r d) : Calls Try.prog 46 #[.pointer (some ⟨b, 0, none⟩)] w fun e w' => e = .returned (.int .i64 d.length) ∧ w = w' := by
  have HT := Lib.hid (there_any h)
  obtain ⟨A, c, rfl, _⟩ := h.own.row
  clear h
  go_enter Try.func46, Try.ntmps46
  go_wp2_with fail
  refine HT.out.mono ?_
  rintro e w' ⟨rfl, rfl⟩
  go_wp2_with fail
  go_ret
  exact ⟨rfl, rfl⟩
/-- Is there that lane? -/
def isL (L : Nat) (k : Int) : Bool := decide (0 ≤ k ∧ k < L)
theorem isL_of {k : Int} (h : isL L k = true) : 0 ≤ k ∧ k < L := of_decide_eq_true h
theorem isL_not {k : Int} (h : isL L k = false) : k < 0 ∨ L ≤ k := by have := of_decide_eq_false h; omega
theorem has_nil (k : Int) (w : World) : Calls Try.prog 57 #[.pointer none, .int .i64 k] w fun e w' => e = .returned (.bool false) ∧ w = w' := by
  go_enter Try.func57, Try.ntmps57
  go_wp2_with fail
  go_ret
  exact ⟨rfl, rfl⟩
theorem has_any (h : Ln w b L P r d) (k : Int) {y : Bool} (hr : isL L k = y) : Calls Try.prog 57 #[.pointer (some ⟨b, 0, none⟩), .int .i64 k] w fun e w' => e = .returned (.bool y) ∧ w = w' := by
  obtain ⟨k0, k1, k2⟩ := h.cells
  unfold isL at hr
  clear h
  by_cases h : 0 ≤ k
  · by_cases h2 : k < (L : Int)
    · obtain rfl : true = y := by rw [← hr]; exact (decide_eq_true ⟨h, h2⟩).symm
      clear hr
      have t1 : decide (k ≥ 0) = true := decide_eq_true h
      have t2 : decide (k < (L : Int)) = true := decide_eq_true h2
      go_enter Try.func57, Try.ntmps57
      go_wp2_with fail
      go_ret
      exact ⟨rfl, rfl⟩
    · obtain rfl : false = y := by rw [← hr]; exact (decide_eq_false (by omega)).symm
      clear hr
      have t1 : decide (k ≥ 0) = true := decide_eq_true h
      have t2 : decide (k < (L : Int)) = false := decide_eq_false h2
      go_enter Try.func57, Try.ntmps57
      go_wp2_with fail
      go_ret
      exact ⟨rfl, rfl⟩
  · obtain rfl : false = y := by rw [← hr]; exact (decide_eq_false (by omega)).symm
    clear hr
    have t1 : decide (k ≥ 0) = false := decide_eq_false h
    go_enter Try.func57, Try.ntmps57
    go_wp2_with fail
    go_ret
    exact ⟨rfl, rfl⟩
/-- A number, or the nearer end. -/
def near (n most : Int) : Int := min (max n 1) most
theorem count_any (n m : Int) (hm : 1 < m) (w : World) : Calls Try.prog 51 #[.int .i64 n, .int .i64 m] w fun e w' => e = .returned (.int .i64 (near n m)) ∧ w = w' := by
  by_cases h1 : n ≤ 1
  · have hn : near n m = 1 := by show min (max n 1) m = 1; omega
    rw [hn]
    clear hn
    go_enter Try.func51, Try.ntmps51
    go_wp2_with fail
    · go_ret
      exact ⟨rfl, rfl⟩
    · obtain rfl : n = 1 := by omega
      go_ret
      exact ⟨rfl, rfl⟩
  · have h2 : 1 < n := by omega
    by_cases h3 : n ≤ m
    · have hn : near n m = n := by show min (max n 1) m = n; omega
      rw [hn]
      clear hn h1
      go_enter Try.func51, Try.ntmps51
      go_wp2_with fail
      go_ret
      exact ⟨rfl, rfl⟩
    · have h4 : m < n := by omega
      have hn : near n m = m := by show min (max n 1) m = m; omega
      rw [hn]
      clear hn h1 h3
      go_enter Try.func51, Try.ntmps51
      go_wp2_with fail
      go_ret
      exact ⟨rfl, rfl⟩
theorem laneOf_any (m : MV) (w : World) : Calls Try.prog 73 #[m.val] w fun e w' => e = .returned (.int .i64 m.ln) ∧ Below w.heap.size w w' := by
  unfold MV.val
  go_enter Try.func73, Try.ntmps73
  go_wp2_with fail
  go_ret
  exact ⟨rfl, b01 _ _⟩
theorem each_any (m : MV) (w : World) : Calls Try.prog 67 #[m.val] w fun e w' => e = .returned (.bool true) ∧ Below w.heap.size w w' := by
  unfold MV.val
  go_enter Try.func67, Try.ntmps67
  go_wp2_with fail
  go_ret
  exact ⟨rfl, b01 _ _⟩
def z0 : MV := ⟨none, [], 0, 0, 0, 0, 0⟩
def FstPost (d : List MV) (w : World) (e : Ending) (w' : World) : Prop := e = .returned (.tuple #[(d.headD z0).val, .bool (!d.isEmpty)]) ∧ Below w.heap.size w w'
theorem first_any {A : Option Addr} {c : Nat} (h : Row w A (mvs d)) : Calls Try.prog 62 #[.slice A d.length c] w (FstPost d w) := by
  cases d with
  | nil =>
    clear h
    go_enter Try.func62, Try.ntmps62
    go_wp2_with fail
    refine bodyPost_ret (v := .tuple #[z0.val, .bool false]) (by simp [results, Try.results62, go_sem, z0, MV.val]) rfl ⟨rfl, ?_⟩
    exact b01 _ _
  | cons m t =>
    obtain ⟨b, o, rfl, hb, k0, k1, k2, k3, k4⟩ := row_msg h (k := 0) (m := m) rfl
    clear h
    have e0 : o + 0 * 5 = o := by omega
    rw [e0] at k0 k1 k2 k3 k4
    clear e0
    go_enter Try.func62, Try.ntmps62
    go_wp2_with fail
    exact bodyPost_ret (v := .tuple #[m.val, .bool true]) (by simp [results, Try.results62, go_sem, MV.val]) rfl ⟨rfl, b01 _ _⟩
/-- How many of that lane. -/
def cnt (d : List MV) (k : Int) : Nat := (d.filter fun m => m.ln = k).length
theorem cnt_le (d : List MV) (k : Int) : cnt d k ≤ d.length := List.length_filter_le _ _
theorem cnt_app (d e : List MV) (k : Int) : cnt (d ++ e) k = cnt d k + cnt e k := by simp [cnt, List.filter_append]
theorem take_snoc {α : Type} {d : List α} {k : Nat} {m : α} (h : d[k]? = some m) : d.take (k + 1) = d.take k ++ [m] := by
  rw [List.take_add_one, h]; rfl
theorem cnt_yes {d : List MV} {k : Nat} {m : MV} (h : d[k]? = some m) {l : Int} (hl : m.ln = l) : cnt (d.take (k + 1)) l = cnt (d.take k) l + 1 := by
  rw [take_snoc h, cnt_app]; simp [cnt, hl]
theorem cnt_no {d : List MV} {k : Nat} {m : MV} (h : d[k]? = some m) {l : Int} (hl : m.ln ≠ l) : cnt (d.take (k + 1)) l = cnt (d.take k) l := by
  rw [take_snoc h, cnt_app]; simp [cnt, hl]
/-- How many more that lane may have. -/
def room (L P : Nat) (d : List MV) (k : Int) : Int := if isL L k = true then (P : Int) - cnt d k else 0
def InvR (w : World) (b L P : Nat) (r : Value) (d : List MV) (l : Int) (v i : Value) (V : World) : Prop :=
  ∃ k : Nat, i = .int .i64 k ∧ k ≤ d.length ∧ v = .int .i64 ((P : Int) - cnt (d.take k) l) ∧ Ln V b L P r d ∧ Below w.heap.size w V
theorem room_nil (k : Int) (w : World) : Calls Try.prog 37 #[.pointer none, .int .i64 k] w fun e w' => e = .returned (.int .i64 0) ∧ w = w' := by
  go_enter Try.func37, Try.ntmps37
  go_wp2_with fail
  refine (has_nil k _).mono ?_
  rintro e w' ⟨rfl, rfl⟩
  go_wp2_with fail
  go_ret
  exact ⟨rfl, rfl⟩
set_option maxHeartbeats 1000000 in
theorem room_any (h : Ln w b L P r d) (l : Int) (hP : P ≤ 8) (hd : d.length ≤ 1000) : Calls Try.prog 37 #[.pointer (some ⟨b, 0, none⟩), .int .i64 l] w fun e w' => e = .returned (.int .i64 (room L P d l)) ∧ Below w.heap.size w w' := by
  obtain ⟨y, hy⟩ : ∃ y, isL L l = y := ⟨_, rfl⟩
  obtain ⟨k0, k1, k2⟩ := h.cells
  have HH := Lib.hid h
  have HA := Lib.hid (has_any h l hy)
  obtain ⟨A, c, rfl, _⟩ := h.own.row
  unfold room
  rw [hy]
  clear h hy
  cases y with
  | false =>
    rw [if_neg (by simp)]
    go_enter Try.func37, Try.ntmps37
    go_wp2_with fail
    refine HA.out.mono ?_
    rintro e w' ⟨rfl, rfl⟩
    go_wp2_with fail
    go_ret
    exact ⟨rfl, Below.refl _ _⟩
  | true =>
    rw [if_pos rfl]
    go_enter Try.func37, Try.ntmps37
    go_wp2_with fail
    refine HA.out.mono ?_
    rintro e w' ⟨rfl, rfl⟩
    go_wp2_with fail
    clear k0 k1 k2
    go_loopw [5, 21] (fun v i V => InvR w b L P (.slice A d.length c) d l v i V) (fun _ i _ => d.length - (intOf i).toNat)
    case atStart => exact ⟨0, rfl, by omega, by simp [cnt], HH.out, Below.refl _ _⟩
    case round =>
      obtain ⟨k, rfl, hk, rfl, hp, hb⟩ := hrel
      by_cases hlt : k < d.length
      · obtain ⟨m, hm⟩ : ∃ m, d[k]? = some m := ⟨_, List.getElem?_eq_getElem hlt⟩
        obtain ⟨_, g, rfl, hg, q0, q1, q2, q3, q4⟩ := own_msg hp.own hm
        have f1 : (k : Int) < d.length := by omega
        have N0 := b01 wr (.cells #[.slice m.a m.ws.length m.c, .int .i64 m.ln, .int .i64 m.st, .int .i64 m.lt, .int .i64 m.sq] 43)
        have HP := Lib.hid (hp.below N0)
        have HB := Lib.hid (bt hb N0)
        have HM := Lib.hid hm
        have HC := Lib.hid (cnt_le (d.take k) l)
        clear hp hb N0 hm
        by_cases hl : m.ln = l
        · have HY := Lib.hid (cnt_yes HM.out hl)
          have t1 : (m.ln == l) = true := by simpa using hl
          generalize cnt (d.take k) l = ct at *
          have HQ := HC.out
          rw [List.length_take] at HQ
          clear hl HC
          go_wp2_with fail
          go_roundw
          case rel =>
            refine ⟨k + 1, by go_num, by omega, ?_, HP.out, HB.out⟩
            rw [HY.out]
            exact congrArg (Value.int IntKind.i64) (by omega)
          case measure => simp [intOf]; omega
        · have HY := Lib.hid (cnt_no HM.out hl)
          have t1 : (m.ln == l) = false := by simpa using hl
          generalize cnt (d.take k) l = ct at *
          clear hl HC
          go_wp2_with fail
          go_roundw
          case rel =>
            refine ⟨k + 1, by go_num, by omega, ?_, HP.out, HB.out⟩
            rw [HY.out]
          case measure => simp [intOf]; omega
      · obtain rfl : k = d.length := by omega
        have hct : cnt (d.take d.length) l = cnt d l := by rw [List.take_length]
        rw [hct]
        clear hct
        have HB := Lib.hid hb
        clear hb hp hlt
        go_wp2_with fail
        go_ret
        exact ⟨rfl, HB.out⟩
end Go.Proofs.Ytmfkapbllmfegaa.L10
