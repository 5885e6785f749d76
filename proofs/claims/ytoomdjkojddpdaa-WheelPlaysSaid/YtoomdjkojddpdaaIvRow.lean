/- Rows of numbers in memory, and the document's own Same of numbers: contracts. -/
import Derived.Test.YtoomdjkojddpdaaGen
import Derived.Laws.StructEq
import Derived.Deep.QuietTactic
import Derived.BigQuiet
namespace Go.Proofs.Ytoomdjkojddpdaa.C04
open Go.RowKit Go.Proofs.Ytoomdjkojddpdaa.G

def iv (z : Int) : Value := .int .i64 z
def ivs (l : List Int) : List Value := l.map iv
theorem ivs_len (l : List Int) : (ivs l).length = l.length := by simp [ivs]
theorem ivs_one (l : List Int) : ∀ u ∈ ivs l, u.oneCell' = true := by
  intro u hu; obtain ⟨x, _, rfl⟩ := List.mem_map.1 hu; rfl
theorem ivs_app (l r : List Int) : ivs (l ++ r) = ivs l ++ ivs r := List.map_append
theorem row_int {w : World} {A : Option Addr} {l : List Int} (h : Row w A (ivs l)) {k : Nat} {x : Int} (hx : l[k]? = some x) : ∃ b o : Nat, A = some ⟨b, o, none⟩ ∧ b < w.heap.size ∧ w.cell? ⟨b, o + k, none⟩ = some (.int .i64 x) := by
  have hk := (List.getElem?_eq_some_iff.1 hx).1
  obtain ⟨b, o, e, hlt, hc⟩ := h (by rw [ivs_len]; omega)
  exact ⟨b, o, e, hlt, hc k _ (by simp [ivs, iv, hx])⟩

theorem drop_cons {α : Type} {l : List α} {k : Nat} (h : k < l.length) : ∃ x, l[k]? = some x ∧ l.drop k = x :: l.drop (k + 1) := ⟨l[k], List.getElem?_eq_getElem h, List.drop_eq_getElem_cons h⟩
def QPost (b : Bool) (w : World) (e : Ending) (w' : World) : Prop := e = .returned (.bool b) ∧ ∃ n, w' = w.drewN n
def eqb {α : Type} [DecidableEq α] (l r : List α) : Bool := decide (l = r)
theorem drop_eq {α : Type} {l r : List α} {k : Nat} (hk : k < l.length) (hl : l.length = r.length) (h : l.take k = r.take k) {x y : α} (hx : l[k]? = some x) (hy : r[k]? = some y) (e : x = y) : l.take (k + 1) = r.take (k + 1) := by
  rw [List.take_add_one, List.take_add_one, h, hx, hy, e]
def InvE {α : Type} (w : World) (l r : List α) (i : Value) (wr : World) : Prop := ∃ k m : Nat, i = .int .i64 k ∧ k ≤ l.length ∧ l.take k = r.take k ∧ wr = w.drewN m

set_option maxHeartbeats 1000000 in
theorem rsame1_any {w : World} {A B : Option Addr} {c d : Nat} {l r : List Int} (ha : Row w A (ivs l)) (hb : Row w B (ivs r)) (hc : l.length ≤ 9223372036854775807) (hd : r.length ≤ 9223372036854775807) :
    Calls Try.prog 17 #[.slice A l.length c, .slice B r.length d] w (QPost (eqb l r) w) := by
  unfold eqb
  have HA := Lib.hid ha
  have HB := Lib.hid hb
  clear ha hb
  by_cases hl : l.length = r.length
  · have HL := Lib.hid hl
    have t0 : ((l.length : Int) != (r.length : Int)) = false := by rw [bne_eq_false_iff_eq]; omega
    clear hl
    go_enter Try.func17, Try.ntmps17
    go_wp2
    go_loopw [5] (fun i wr => InvE w l r i wr) (fun i _ => l.length - (intOf i).toNat)
    case atStart => exact ⟨0, 0, rfl, by omega, rfl, rfl⟩
    case round =>
      obtain ⟨k, m, rfl, hk, ht, hw⟩ := hrel
      have HT := Lib.hid ht
      have HW := Lib.hid hw
      clear ht hw
      by_cases hlt : k < l.length
      · obtain ⟨x, hx, _⟩ := drop_cons hlt
        obtain ⟨y, hy, _⟩ := drop_cons (l := r) (k := k) (by rw [← HL.out]; exact hlt)
        obtain ⟨b1, o1, rfl, _, g1⟩ := row_int HA.out hx
        obtain ⟨b2, o2, rfl, _, g2⟩ := row_int HB.out hy
        have g1' : wr.cell? ⟨b1, o1 + k, none⟩ = some (.int .i64 x) := by rw [HW.out]; exact g1
        have g2' : wr.cell? ⟨b2, o2 + k, none⟩ = some (.int .i64 y) := by rw [HW.out]; exact g2
        have HX := Lib.hid hx
        have HY := Lib.hid hy
        have hr : (k : Int) < (r.length : Int) := by have := HL.out; omega
        have f0 : (0 : Int) ≤ (k : Int) := by omega
        clear g1 g2 hx hy HA HB
        by_cases hxy : x = y
        · subst hxy
          go_wp2
          go_quiet (fail)
          go_wp2
          go_roundw
          case rel => exact ⟨k + 1, m + nq, by go_num, by omega, drop_eq hlt HL.out HT.out HX.out HY.out rfl, by rw [HW.out, World.drewN_drewN]⟩
          case measure => simp [intOf]; omega
        · have t1 : (x != y) = true := by simpa using hxy
          have HN := Lib.hid hxy; clear hxy
          go_wp2
          go_quiet (fail)
          go_wp2
          go_ret
          refine ⟨?_, m + nq, by rw [HW.out, World.drewN_drewN]⟩
          have : ¬ l = r := by
            intro e
            have h1 := HX.out; rw [e, HY.out] at h1
            exact HN.out (Option.some.inj h1).symm
          rw [decide_eq_false this]; rfl
      · go_wp2
        go_ret
        refine ⟨?_, m, HW.out⟩
        have h1 := HT.out
        rw [List.take_of_length_le (by omega), List.take_of_length_le (by have := HL.out; omega)] at h1
        rw [decide_eq_true h1]; rfl
  · have HD : Hid (decide (l = r) = false) := by show decide (l = r) = false; exact decide_eq_false (fun e => hl (by rw [e]))
    have t0 : ((l.length : Int) != (r.length : Int)) = true := by rw [bne_iff_ne]; omega
    clear hl
    go_enter Try.func17, Try.ntmps17
    go_wp2
    go_ret
    exact ⟨by rw [HD.out]; rfl, 0, rfl⟩

end Go.Proofs.Ytoomdjkojddpdaa.C04
