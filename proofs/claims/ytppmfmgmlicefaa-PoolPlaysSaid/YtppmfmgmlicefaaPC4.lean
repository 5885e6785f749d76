/- A pool: New, Owner, Turn: contracts. -/
import Derived.Test.YtppmfmgmlicefaaPC3
namespace Go.Proofs.Ytppmfmgmlicefaa.P9
open Go.RowKit Go.Proofs.Ytppmfmgmlicefaa.G
set_option maxRecDepth 100000
variable {w w' : World} {b n : Nat} {s : SS} {t : Nat → Int} {c : Int}

def clampS (n : Int) : Nat := (min (max n 0) 64).toNat
theorem clampS_bd (n : Int) : clampS n ≤ 64 := by unfold clampS; omega
def zl : List Value := (List.range 193).map fun i => if i < 129 ∧ i % 2 = 1 then .bool false else .int .i64 0
def Z : Array Value := zl.toArray
theorem zero60 (W : World) : (zeroValue 60).run Try.prog W = .ok (.agg Z) W := by kernel_rfl
theorem Z_size : Z.size = 193 := by simp [Z, zl]
theorem Z_ne : Z = #[] ↔ False := by
  constructor
  · intro h; have := congrArg Array.size h; rw [Z_size] at this; simp at this
  · exact False.elim
theorem Z_at (i : Nat) (h : i < 193) : Z[i]? = some (if i < 129 ∧ i % 2 = 1 then .bool false else .int .i64 0) := by
  unfold Z zl
  simp [List.getElem?_range h]
theorem Z_cs (m : Nat) : Cs (Z.setIfInBounds 0 (.int .i64 (m : Int))) m (fun _ => none) (fun _ => 0) := by
  refine ⟨by simp [Z_size], by simp [Z_size], fun k hk => ?_, fun k hk => ?_, fun k hk => ?_⟩
  · rw [Array.getElem?_setIfInBounds_ne (by omega), Z_at _ (by omega), if_pos (by omega)]; rfl
  · rw [Array.getElem?_setIfInBounds_ne (by omega), Z_at _ (by omega), if_neg (by omega)]; rfl
  · rw [Array.getElem?_setIfInBounds_ne (by omega), Z_at _ (by omega), if_neg (by omega)]
def NewPost (w : World) (n : Nat) (e : Ending) (w' : World) : Prop := ∃ b, e = .returned (.pointer (some ⟨b, 0, none⟩)) ∧ Pl w' b n (fun _ => none) (fun _ => 0) 0 ∧ w.heap.size ≤ b ∧ Below w.heap.size w w'
theorem pl_new (w : World) (m : Nat) (hm : m ≤ 64) : NewPost w m (.returned (.pointer (some ⟨w.heap.size, 0, none⟩))) (w.alloc (.cells (Z.setIfInBounds 0 (.int .i64 (m : Int))) 60)) :=
  ⟨w.heap.size, rfl, ⟨⟨_, Blk.new _ _ _, Z_cs m⟩, hm, fun _ => ⟨Int.le_refl _, Int.le_refl _⟩⟩, Nat.le_refl _, b01 _ _⟩
theorem new_any (n : Int) (w : World) : Calls Try.prog 10 #[.int .i64 n] w (NewPost w (clampS n)) := by
  have hz := zero60
  have hZ := Z_ne
  have key := pl_new w
  have KEY := Lib.hid key
  clear key
  by_cases h0 : n < 0
  · have HC : Hid (clampS n = 0) := by show clampS n = 0; unfold clampS; omega
    go_enter Try.func10, Try.ntmps10
    go_wp2
    go_ret
    rw [HC.out]
    exact KEY.out 0 (by omega)
  · by_cases h1 : 64 < n
    · have HC : Hid (clampS n = 64) := by show clampS n = 64; unfold clampS; omega
      go_enter Try.func10, Try.ntmps10
      go_wp2
      go_ret
      rw [HC.out]
      exact KEY.out 64 (by omega)
    · obtain ⟨k, rfl⟩ := Int.eq_ofNat_of_zero_le (show 0 ≤ n by omega)
      have HC : Hid (clampS (k : Int) = k) := by show clampS (k : Int) = k; unfold clampS; omega
      have hk : k ≤ 64 := by omega
      go_enter Try.func10, Try.ntmps10
      go_wp2
      go_ret
      rw [HC.out]
      exact KEY.out k hk
/-- What Owner answers. -/
def OwPost (w : World) (o : Option Int) (e : Ending) (w' : World) : Prop := e = .returned (.tuple #[.int .i64 (V1 o), .bool (B1 o)]) ∧ Below w.heap.size w w'
theorem owner_in (h : Pl w b n s t c) (k : Nat) (hk : k < n) : Calls Try.prog 26 #[.pointer (some ⟨b, 0, none⟩), .int .i64 (k : Int)] w (OwPost w (s k)) := by
  have n64 := h.n64
  have hk64 : (k : Int) < 64 := by omega
  have hk0 : (0 : Int) ≤ k := by omega
  have HH := Lib.hid (has_any h k (r := true) (decide_eq_true (by omega)))
  have HP := Lib.hid h
  unfold OwPost
  generalize hbb : B1 (s k) = bb
  generalize hvv : V1 (s k) = vv
  have HE := Lib.hid (And.intro hbb hvv)
  clear h hbb hvv
  go_enter Try.func26, Try.ntmps26
  go_wp2_with fail
  refine HH.out.mono ?_
  rintro e w1 ⟨rfl, hb1⟩
  obtain ⟨p1, p2⟩ := (HP.out.below hb1).cells (show k < 64 by omega)
  rw [HE.out.1] at p1
  rw [HE.out.2] at p2
  go_wp2_with fail
  go_quiet (fail)
  go_wp2_with fail
  go_ret2
  exact ⟨rfl, bn hb1 _⟩
theorem owner_out (h : Pl w b n s t c) (k : Int) (hk : isIn n k = false) : Calls Try.prog 26 #[.pointer (some ⟨b, 0, none⟩), .int .i64 k] w (OwPost w none) := by
  have HH := Lib.hid (has_any h k hk)
  clear h hk
  go_enter Try.func26, Try.ntmps26
  go_wp2_with fail
  refine HH.out.mono ?_
  rintro e w1 ⟨rfl, hb1⟩
  go_wp2_with fail
  go_ret2
  exact ⟨rfl, hb1⟩
theorem owner_nil (k : Int) (w : World) : Calls Try.prog 26 #[.pointer none, .int .i64 k] w (OwPost w none) := by
  go_enter Try.func26, Try.ntmps26
  go_wp2_with fail
  refine (has_nil k _).mono ?_
  rintro e w1 ⟨rfl, rfl⟩
  go_wp2_with fail
  go_ret2
  exact ⟨rfl, Below.refl _ _⟩
def TuPost (w : World) (v : Int) (e : Ending) (w' : World) : Prop := e = .returned (.int .i64 v) ∧ Below w.heap.size w w'
theorem turn_in (h : Pl w b n s t c) (k : Nat) (hk : k < n) : Calls Try.prog 27 #[.pointer (some ⟨b, 0, none⟩), .int .i64 (k : Int)] w (TuPost w (t k)) := by
  have n64 := h.n64
  have hk64 : (k : Int) < 64 := by omega
  have hk0 : (0 : Int) ≤ k := by omega
  have HH := Lib.hid (has_any h k (r := true) (decide_eq_true (by omega)))
  have HP := Lib.hid h
  clear h
  go_enter Try.func27, Try.ntmps27
  go_wp2_with fail
  refine HH.out.mono ?_
  rintro e w1 ⟨rfl, hb1⟩
  have p1 := (HP.out.below hb1).turn (show k < 64 by omega)
  go_wp2_with fail
  go_ret
  exact ⟨rfl, hb1⟩
theorem turn_out (h : Pl w b n s t c) (k : Int) (hk : isIn n k = false) : Calls Try.prog 27 #[.pointer (some ⟨b, 0, none⟩), .int .i64 k] w (TuPost w 0) := by
  have HH := Lib.hid (has_any h k hk)
  clear h hk
  go_enter Try.func27, Try.ntmps27
  go_wp2_with fail
  refine HH.out.mono ?_
  rintro e w1 ⟨rfl, hb1⟩
  go_wp2_with fail
  go_ret
  exact ⟨rfl, hb1⟩
theorem turn_nil (k : Int) (w : World) : Calls Try.prog 27 #[.pointer none, .int .i64 k] w (TuPost w 0) := by
  go_enter Try.func27, Try.ntmps27
  go_wp2_with fail
  refine (has_nil k _).mono ?_
  rintro e w1 ⟨rfl, rfl⟩
  go_wp2_with fail
  go_ret
  exact ⟨rfl, Below.refl _ _⟩
end Go.Proofs.Ytppmfmgmlicefaa.P9
