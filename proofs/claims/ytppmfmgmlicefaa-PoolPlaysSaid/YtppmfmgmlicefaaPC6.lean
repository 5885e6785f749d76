/- A pool: Give, Let: contracts. -/
import Derived.Test.YtppmfmgmlicefaaPC5
namespace Go.Proofs.Ytppmfmgmlicefaa.P9
open Go.RowKit Go.Proofs.Ytppmfmgmlicefaa.G
set_option maxRecDepth 100000
variable {w w' : World} {b n : Nat} {s : SS} {t : Nat → Int} {c : Int}

def GvPost (b n : Nat) (s : SS) (t : Nat → Int) (c : Int) (r : Int) (w : World) (e : Ending) (w' : World) : Prop :=
  e = .returned (.int .i64 r) ∧ Pl w' b n s t c ∧ Ob b w w'
theorem give_nil (k v : Int) (w : World) : Calls Try.prog 17 #[.pointer none, .int .i64 k, .int .i64 v] w fun e w' => e = .returned (.int .i64 7) ∧ Below w.heap.size w w' := by
  go_enter Try.func17, Try.ntmps17
  go_wp2_with fail
  refine (has_nil k _).mono ?_
  rintro e w1 ⟨rfl, rfl⟩
  go_wp2_with fail
  go_ret
  exact ⟨rfl, Below.refl _ _⟩
theorem give_out (h : Pl w b n s t c) (k v : Int) (hk : isIn n k = false) : Calls Try.prog 17 #[.pointer (some ⟨b, 0, none⟩), .int .i64 k, .int .i64 v] w (GvPost b n s t c 7 w) := by
  have HH := Lib.hid (has_any h k hk)
  have HP := Lib.hid h
  clear h hk
  go_enter Try.func17, Try.ntmps17
  go_wp2_with fail
  refine HH.out.mono ?_
  rintro e w1 ⟨rfl, hb1⟩
  go_wp2_with fail
  go_ret
  exact ⟨rfl, HP.out.below hb1, Ob.of hb1⟩
set_option maxHeartbeats 1000000 in
theorem give_free (h : Pl w b n s t c) (k : Nat) (v : Int) (hk : k < n) (hs : s k = none) : Calls Try.prog 17 #[.pointer (some ⟨b, 0, none⟩), .int .i64 (k : Int), .int .i64 v] w (GvPost b n s t c 11 w) := by
  have n64 := h.n64
  have hk64 : (k : Int) < 64 := by omega
  have hk0 : (0 : Int) ≤ k := by omega
  have HH := Lib.hid (has_any h k (r := true) (decide_eq_true (by omega)))
  have HP := Lib.hid h
  have HS := Lib.hid hs
  have hz := zero56
  have hE := run_eqlS (a := false) (x := 0) (a' := false) (x' := 0) (r := true) rfl
  clear h hs
  go_enter Try.func17, Try.ntmps17
  go_wp2_with fail
  refine HH.out.mono ?_
  rintro e w1 ⟨rfl, hb1⟩
  obtain ⟨p1, p2⟩ := (HP.out.below hb1).cells (show k < 64 by omega)
  rw [HS.out, B1_none] at p1
  rw [HS.out, V1_none] at p2
  go_wp2_with fail
  go_ret
  exact ⟨rfl, HP.out.below hb1, Ob.of hb1⟩
set_option maxHeartbeats 2000000 in
theorem give_other (h : Pl w b n s t c) (k : Nat) (v : Int) (hk : k < n) {o : Int} (hs : s k = some o) (hne : o ≠ v) : Calls Try.prog 17 #[.pointer (some ⟨b, 0, none⟩), .int .i64 (k : Int), .int .i64 v] w (GvPost b n s t c 2 w) := by
  have n64 := h.n64
  have hk64 : (k : Int) < 64 := by omega
  have hk0 : (0 : Int) ≤ k := by omega
  have HH := Lib.hid (has_any h k (r := true) (decide_eq_true (by omega)))
  have HP := Lib.hid h
  have HS := Lib.hid hs
  have hz := zero56
  have hE := run_eqlS (a := true) (x := o) (a' := false) (x' := 0) (r := false) (by simp)
  have hN := run_neqS (a := true) (x := o) (a' := true) (x' := v) (r := false) (decide_eq_false fun e => hne e.2)
  clear h hs hne
  go_enter Try.func17, Try.ntmps17
  go_wp2_with fail
  refine HH.out.mono ?_
  rintro e w1 ⟨rfl, hb1⟩
  have HP1 := Lib.hid (HP.out.below hb1)
  obtain ⟨p1, p2⟩ := HP1.out.cells (show k < 64 by omega)
  rw [HS.out, B1_some] at p1
  rw [HS.out, V1_some] at p2
  have HV : Hid (∀ V, Below w1.heap.size w1 V → Below w1.heap.size w1 V ∧ V.cell? ⟨b, 1 + k * 2, none⟩ = some (.bool true) ∧ V.cell? ⟨b, 1 + k * 2 + 1, none⟩ = some (.int .i64 o)) := fun V hV => by
    have := (HP1.out.below hV).cells (show k < 64 by omega)
    rw [HS.out, B1_some, V1_some] at this
    exact ⟨hV, this⟩
  have S0 : Below w1.heap.size w1 w1.drew := (Below.refl _ _).drew
  go_upto_region 5 with fail
  go_region_held3 (fun V => Below w1.heap.size w1 V ∧ V.cell? ⟨b, 1 + k * 2, none⟩ = some (.bool true) ∧ V.cell? ⟨b, 1 + k * 2 + 1, none⟩ = some (.int .i64 o)) (first | (with_reducible exact HV.out _ S0) | fail)
    (first
      | (go_at_call 31; (with_reducible refine (owned_any _ _).mono ?_); rintro e w10 ⟨rfl, hb10⟩; have S0 := bt S0 hb10)
      | fail)
  all_goals
    have HX := Lib.hid (bt hb1 S0)
    have HX2 := Lib.hid (HP1.out.below S0)
    go_wp2_with fail
    go_ret
    exact ⟨rfl, HX2.out, Ob.of HX.out⟩
set_option maxHeartbeats 2000000 in
theorem give_own (h : Pl w b n s t c) (k : Nat) (v : Int) (hk : k < n) (hs : s k = some v) : Calls Try.prog 17 #[.pointer (some ⟨b, 0, none⟩), .int .i64 (k : Int), .int .i64 v] w (GvPost b n (upd s k none) t c 0 w) := by
  have n64 := h.n64
  have k64 : k < 64 := by omega
  have hk64 : (k : Int) < 64 := by omega
  have hk0 : (0 : Int) ≤ k := by omega
  have HH := Lib.hid (has_any h k (r := true) (decide_eq_true (by omega)))
  have HP := Lib.hid h
  have HS := Lib.hid hs
  have hz := zero56
  have hE := run_eqlS (a := true) (x := v) (a' := false) (x' := 0) (r := false) (by simp)
  have hN := run_neqS (a := true) (x := v) (a' := true) (x' := v) (r := true) (decide_eq_true ⟨rfl, rfl⟩)
  clear h hs
  go_enter Try.func17, Try.ntmps17
  go_wp2_with fail
  refine HH.out.mono ?_
  rintro e w1 ⟨rfl, hb1⟩
  have HP1 := Lib.hid (HP.out.below hb1)
  obtain ⟨p1, p2⟩ := HP1.out.cells (show k < 64 by omega)
  rw [HS.out, B1_some] at p1
  rw [HS.out, V1_some] at p2
  have HV : Hid (∀ V, Below w1.heap.size w1 V → Below w1.heap.size w1 V ∧ V.cell? ⟨b, 1 + k * 2, none⟩ = some (.bool true) ∧ V.cell? ⟨b, 1 + k * 2 + 1, none⟩ = some (.int .i64 v)) := fun V hV => by
    have := (HP1.out.below hV).cells (show k < 64 by omega)
    rw [HS.out, B1_some, V1_some] at this
    exact ⟨hV, this⟩
  have S0 : Below w1.heap.size w1 w1.drew := (Below.refl _ _).drew
  go_upto_region 5 with fail
  go_region_held3 (fun V => Below w1.heap.size w1 V ∧ V.cell? ⟨b, 1 + k * 2, none⟩ = some (.bool true) ∧ V.cell? ⟨b, 1 + k * 2 + 1, none⟩ = some (.int .i64 v)) (first | (with_reducible exact HV.out _ S0) | fail)
    (first
      | (go_at_call 31; (with_reducible refine (owned_any _ _).mono ?_); rintro e w10 ⟨rfl, hb10⟩; have S0 := bt S0 hb10)
      | fail)
  all_goals
    have HX := Lib.hid (bt hb1 S0)
    have HX2 := Lib.hid (HP1.out.below S0)
    have fz := HX2.out.frozen
    clear p1 p2
    obtain ⟨p1, p2⟩ := HX2.out.cells k64
    rw [HS.out, B1_some] at p1
    rw [HS.out, V1_some] at p2
    go_wp2_with fail
    go_ret
    have hp := HX2.out.own_ k64 none
    rw [B1_none, V1_none] at hp
    exact ⟨rfl, hp, (Ob.of HX.out).trans (Ob.own_ _ _ _ _ _)⟩
theorem give_any (h : Pl w b n s t c) (k v : Int) : Calls Try.prog 17 #[.pointer (some ⟨b, 0, none⟩), .int .i64 k, .int .i64 v] w (GvPost b n (gst n s k v) t c (gcode n s k v) w) := by
  by_cases hi : 0 ≤ k ∧ k < n
  · obtain ⟨j, rfl⟩ := Int.eq_ofNat_of_zero_le hi.1
    have hj : j < n := by have := hi.2; omega
    have ej : ((j : Int)).toNat = j := by omega
    cases hs : s j with
    | none =>
      have eg : gcode n s (j : Int) v = 11 := by unfold gcode; rw [if_pos hi, ej, hs]
      have es : gst n s (j : Int) v = s := by unfold gst; rw [eg]; rfl
      rw [eg, es]; exact give_free h j v hj hs
    | some o =>
      by_cases ho : o = v
      · subst ho
        have eg : gcode n s (j : Int) o = 0 := by unfold gcode; rw [if_pos hi, ej, hs]; simp
        have es : gst n s (j : Int) o = upd s j none := by unfold gst; rw [eg, if_pos rfl, ej]
        rw [eg, es]; exact give_own h j o hj hs
      · have eg : gcode n s (j : Int) v = 2 := by unfold gcode; rw [if_pos hi, ej, hs]; simp [ho]
        have es : gst n s (j : Int) v = s := by unfold gst; rw [eg]; rfl
        rw [eg, es]; exact give_other h j v hj hs ho
  · have eg : gcode n s k v = 7 := by unfold gcode; rw [if_neg hi]
    have es : gst n s k v = s := by unfold gst; rw [eg]; rfl
    rw [eg, es]; exact give_out h k v (decide_eq_false hi)
end Go.Proofs.Ytppmfmgmlicefaa.P9
