/- slices.Index and slices.Contains on a list of ints; arrays of bools in memory. -/
import Derived.Test.YtcaalecfideldaaDoorReach
namespace Go.Proofs.YtcaalecfideldaaDoor.C04
open Go.RowKit Go.Proofs.YtcaalecfideldaaDoor.G

def idxF (z : Int) : Nat → List Int → Int
  | _, [] => -1
  | i, x :: r => if z = x then (i : Int) else idxF z (i + 1) r
theorem idxF_mem {z : Int} : ∀ (l : List Int) (i : Nat), (0 ≤ idxF z i l ↔ z ∈ l)
  | [], i => by simp [idxF]
  | x :: r, i => by
    rw [idxF]
    by_cases h : z = x
    · rw [if_pos h]; simp [h]
    · rw [if_neg h, idxF_mem r (i + 1)]; simp [h]
def memV (z : Int) (l : List Int) : Bool := decide (z ∈ l)
set_option maxHeartbeats 1000000 in
theorem index_any {w : World} {A : Option Addr} {n : Nat} {l : List Int} (z : Int) (h : Row w A (ivs l)) (hn : l.length ≤ n) (hm : n ≤ 9223372036854775807) : Calls Tryd.prog 64 #[.slice A l.length n, .int .i64 z] w fun e w' => e = .returned (.int .i64 (idxF z 0 l)) ∧ w = w' := by
  have H3 := Lib.hid h
  clear h
  go_enter Tryd.func64, Tryd.ntmps64
  go_wp2
  go_loop [8] (fun i => ∃ k : Nat, i = .int .i64 k ∧ k ≤ l.length ∧ idxF z 0 l = idxF z k (l.drop k)) (fun i => l.length - (intOf i).toNat)
  case atStart => exact ⟨0, rfl, by omega, rfl⟩
  case round =>
    obtain ⟨k, rfl, hk, ha⟩ := hrel
    have HR := Lib.hid ha; clear ha
    by_cases hlt : k < l.length
    · obtain ⟨x, hx, hd⟩ := drop_cons hlt
      obtain ⟨b, o, rfl, hb, hc⟩ := row_int H3.out hx
      have HX := Lib.hid hd; clear hd hx
      by_cases ht : z = x
      · subst ht
        go_wp2
        go_ret
        exact ⟨by rw [HR.out, HX.out, idxF, if_pos rfl]; rfl, rfl⟩
      · have HT := Lib.hid ht
        have t1 : (z == x) = false := by simpa using ht
        clear ht
        go_wp2
        go_round
        case rel => exact ⟨k + 1, by go_num, by omega, by rw [HR.out, HX.out, idxF, if_neg HT.out]⟩
        case measure => simp [intOf]; omega
    · go_wp2
      go_ret
      refine ⟨?_, rfl⟩
      rw [HR.out, List.drop_of_length_le (by omega)]
      rfl
set_option maxHeartbeats 1000000 in
theorem contains_any {w : World} {A : Option Addr} {n : Nat} {l : List Int} (z : Int) (h : Row w A (ivs l)) (hn : l.length ≤ n) (hm : n ≤ 9223372036854775807) : Calls Tryd.prog 37 #[.slice A l.length n, .int .i64 z] w fun e w' => e = .returned (.bool (memV z l)) ∧ w = w' := by
  have H3 := Lib.hid h
  have HM := Lib.hid (idxF_mem (z := z) l 0)
  clear h
  by_cases hz : z ∈ l
  · have HV : Hid (memV z l = true) := by show memV z l = true; simpa [memV] using hz
    have h0 : 0 ≤ idxF z 0 l := HM.out.2 hz
    clear hz
    go_enter Tryd.func37, Tryd.ntmps37
    go_wp2_with (go_at_call 64; refine (index_any z H3.out hn hm).mono ?_; rintro e w' ⟨rfl, rfl⟩)
    go_ret
    exact ⟨by rw [HV.out]; rfl, rfl⟩
  · have HV : Hid (memV z l = false) := by show memV z l = false; simpa [memV] using hz
    have h0 : decide (0 ≤ idxF z 0 l) = false := decide_eq_false fun h => hz (HM.out.1 h)
    clear hz
    go_enter Tryd.func37, Tryd.ntmps37
    go_wp2_with (go_at_call 64; refine (index_any z H3.out hn hm).mono ?_; rintro e w' ⟨rfl, rfl⟩)
    go_ret
    exact ⟨by rw [HV.out]; rfl, rfl⟩

/-! ### Bools in a row -/
def arr (s : Int → Bool) (n : Nat) : Array Value := ((List.range n).map fun i : Nat => Value.bool (s i)).toArray
theorem arr_get (s : Int → Bool) {n k : Nat} (h : k < n) : (arr s n)[k]? = some (.bool (s k)) := by
  simp [arr, List.getElem?_range h]
theorem arr_set (s : Int → Bool) (n k : Nat) (v : Bool) : (arr s n).setIfInBounds k (.bool v) = arr (upd s k v) n := by
  apply Array.ext_getElem?
  intro i
  by_cases hi : i < n
  · rw [arr_get _ hi, Array.getElem?_setIfInBounds]
    by_cases e : k = i
    · subst e
      rw [if_pos rfl, if_pos (by simpa [arr] using hi), upd_same]
    · rw [if_neg e, arr_get _ hi, upd_other _ _ (by omega)]
  · rw [Array.getElem?_eq_none (by simp [arr]; omega), Array.getElem?_eq_none (by simp [arr]; omega)]
theorem arr_no (n : Nat) : arr (fun _ => false) n = (List.replicate n (Value.bool false)).toArray := by
  apply Array.ext_getElem?
  intro i
  by_cases hi : i < n
  · rw [arr_get _ hi]; simp [hi]
  · rw [Array.getElem?_eq_none (by simp [arr]; omega), Array.getElem?_eq_none (by simp; omega)]
theorem arr_one (r n : Nat) : (arr (fun _ => false) n).setIfInBounds r (.bool true) = arr (one1 r) n := by
  rw [arr_set]
  congr 1
theorem Blk.arr_cell {w : World} {g n : Nat} {t : TypeId} {s : Int → Bool} (h : Blk w g t (arr s n)) {k : Nat} (hk : k < n) : w.cell? ⟨g, k, none⟩ = some (.bool (s k)) := (h.cell k).trans (arr_get s hk)
end Go.Proofs.YtcaalecfideldaaDoor.C04
