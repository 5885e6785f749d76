/- What a reader's Next answers, and leaves in memory. -/
import Derived.Test.YtfbbgoahipejlabDoorBRdr
namespace Go.Proofs.YtfbbgoahipejlabDoor.W
open Go.RowKit Go.Proofs.YtfbbgoahipejlabDoor.G

theorem ofInt_small (a : Nat) (ha : a < 9223372036854775808) : (BitVec.ofInt 64 (a : Int)).toNat = a := by
  rw [BitVec.ofInt_natCast, BitVec.toNat_ofNat]; exact Nat.mod_eq_of_lt (by omega)
theorem or_bare (a x : Int) (a0 : 0 ≤ a) (a1 : a < 1099511627776) (x0 : 0 ≤ x) (x1 : x ≤ 255) : bits .or .i64 (a * 256) x = a * 256 + x := by
  obtain ⟨a, rfl⟩ := Int.eq_ofNat_of_zero_le a0
  obtain ⟨x, rfl⟩ := Int.eq_ofNat_of_zero_le x0
  rw [show (a : Int) * 256 = ((a * 256 : Nat) : Int) by omega]
  show IntKind.i64.wrap ((BitVec.ofInt 64 ((a * 256 : Nat) : Int) ||| BitVec.ofInt 64 (x : Int)).toNat : Int) = _
  rw [BitVec.toNat_or, ofInt_small _ (by omega), ofInt_small x (by omega)]
  have h : a * 256 ||| x = a * 256 + x := by
    have := Nat.two_pow_add_eq_or_of_lt (i := 8) (b := x) (by omega) a
    rw [Nat.mul_comm a 256]; exact this.symm
  rw [h, IntKind.wrap_i64]
  omega
theorem or_low (a x : Int) (a0 : 0 ≤ a) (a1 : a < 1099511627776) (x0 : 0 ≤ x) (x1 : x ≤ 255) : bits .or .i64 (wrap64 (a * 256)) x = a * 256 + x := by
  have hw : wrap64 (a * 256) = a * 256 := by unfold wrap64; omega
  rw [hw, or_bare a x a0 a1 x0 x1]
theorem or_zero (x : Int) (x0 : 0 ≤ x) (x1 : x ≤ 255) : bits .or .i64 0 x = x := by
  have := or_bare 0 x (by omega) (by omega) x0 x1
  rw [Int.zero_mul] at this; omega
def be (l : List UInt8) (n : Int) : Int := if n = 1 then nth l 0 else if n = 2 then nth l 0 * 256 + nth l 1 else ((nth l 0 * 256 + nth l 1) * 256 + nth l 2) * 256 + nth l 3
theorem nth_tail (l : List UInt8) (k : Nat) : nth l.tail k = nth l (k + 1) := by cases l <;> simp [nth]
theorem returned_int {a b : Int} (h : a = b) : Ending.returned (.int .i64 a) = .returned (.int .i64 b) := by rw [h]
def NextPost (w : World) (b : Nat) (v : Int) (l : List UInt8) (e : Int) (r : Ending) (w' : World) : Prop := r = .returned (.int .i64 v) ∧ Rdr w' b l e ∧ w.grownBy w' (some b)

theorem next_1 {w : World} {b : Nat} {l : List UInt8} (h : Rdr w b l 0) (hl : 1 ≤ l.length) (hm : l.length ≤ 4096) :
    Calls Tryd.prog 61 #[.pointer (some ⟨b, 0, none⟩), .int .i64 1] w (NextPost w b (be l 1) (l.drop 1) 0) := by
  have hn0 := nth_bd l 0
  obtain ⟨A, c, h'⟩ := h
  have hc0 := h'.head.cell 0
  simp only [List.getElem?_toArray, List.getElem?_cons_zero] at hc0
  have H := Lib.hid (show Rdr w b l 0 from ⟨A, c, h'⟩); clear h'
  go_enter Tryd.func61, Tryd.ntmps61
  go_wp2_with (first
    | (go_at_call 104; refine (err_any H.out).mono ?_; rintro e w' ⟨rfl, rfl⟩)
    | (go_at_call 105; refine (size_1 _).mono ?_; rintro e w' ⟨rfl, rfl⟩)
    | (go_at_call 107; refine (take_any H.out (by omega)).mono ?_; rintro e w1 ⟨rfl, h1, g1⟩; have H1 := Lib.hid h1; clear h1))
  go_ret
  exact ⟨returned_int (or_zero _ hn0.1 hn0.2), H1.out, g1⟩
theorem next_2 {w : World} {b : Nat} {l : List UInt8} (h : Rdr w b l 0) (hl : 2 ≤ l.length) (hm : l.length ≤ 4096) :
    Calls Tryd.prog 61 #[.pointer (some ⟨b, 0, none⟩), .int .i64 2] w (NextPost w b (be l 2) (l.drop 2) 0) := by
  have hn0 := nth_bd l 0
  have hn1 := nth_bd l 1
  obtain ⟨A, c, h'⟩ := h
  have hc0 := h'.head.cell 0
  simp only [List.getElem?_toArray, List.getElem?_cons_zero] at hc0
  have H := Lib.hid (show Rdr w b l 0 from ⟨A, c, h'⟩); clear h'
  go_enter Tryd.func61, Tryd.ntmps61
  go_wp2_with (first
    | (go_at_call 104; refine (err_any H.out).mono ?_; rintro e w' ⟨rfl, rfl⟩)
    | (go_at_call 105; refine (size_2 _).mono ?_; rintro e w' ⟨rfl, rfl⟩)
    | (go_at_call 107; refine (take_any H.out (by omega)).mono ?_; rintro e w1 ⟨rfl, h1, g1⟩; have H1 := Lib.hid h1; clear h1)
    | (go_at_call 107; refine (take_any H1.out (by simp; omega)).mono ?_; rintro e w2 ⟨rfl, h2, g2⟩; have H2 := Lib.hid h2; clear h2))
  go_ret
  refine ⟨returned_int ?_, by simpa using H2.out, g1.trans g2⟩
  rw [or_zero _ hn0.1 hn0.2, nth_tail, or_low _ _ hn0.1 (by omega) hn1.1 hn1.2]; rfl
theorem next_4 {w : World} {b : Nat} {l : List UInt8} (h : Rdr w b l 0) (hl : 4 ≤ l.length) (hm : l.length ≤ 4096) :
    Calls Tryd.prog 61 #[.pointer (some ⟨b, 0, none⟩), .int .i64 4] w (NextPost w b (be l 4) (l.drop 4) 0) := by
  have hn0 := nth_bd l 0
  have hn1 := nth_bd l 1
  have hn2 := nth_bd l 2
  have hn3 := nth_bd l 3
  obtain ⟨A, c, h'⟩ := h
  have hc0 := h'.head.cell 0
  simp only [List.getElem?_toArray, List.getElem?_cons_zero] at hc0
  have H := Lib.hid (show Rdr w b l 0 from ⟨A, c, h'⟩); clear h'
  go_enter Tryd.func61, Tryd.ntmps61
  go_wp2_with (first
    | (go_at_call 104; refine (err_any H.out).mono ?_; rintro e w' ⟨rfl, rfl⟩)
    | (go_at_call 105; refine (size_4 _).mono ?_; rintro e w' ⟨rfl, rfl⟩)
    | (go_at_call 107; refine (take_any H.out (by omega)).mono ?_; rintro e w1 ⟨rfl, h1, g1⟩; have H1 := Lib.hid h1; clear h1)
    | (go_at_call 107; refine (take_any H1.out (by simp; omega)).mono ?_; rintro e w2 ⟨rfl, h2, g2⟩; have H2 := Lib.hid h2; clear h2)
    | (go_at_call 107; refine (take_any H2.out (by simp; omega)).mono ?_; rintro e w3 ⟨rfl, h3, g3⟩; have H3 := Lib.hid h3; clear h3)
    | (go_at_call 107; refine (take_any H3.out (by simp; omega)).mono ?_; rintro e w4 ⟨rfl, h4, g4⟩; have H4 := Lib.hid h4; clear h4))
  go_ret
  refine ⟨returned_int ?_, by simpa using H4.out, ((g1.trans g2).trans g3).trans g4⟩
  simp only [nth_tail, nth_drop]
  rw [or_bare _ _ hn0.1 (by omega) hn1.1 hn1.2, or_low _ _ (by omega) (by omega) hn2.1 hn2.2, or_low _ _ (by omega) (by omega) hn3.1 hn3.2]; rfl
theorem next_form {w : World} {b : Nat} {l : List UInt8} (h : Rdr w b l 0) (n : Int) (hn : sz n = false) :
    Calls Tryd.prog 61 #[.pointer (some ⟨b, 0, none⟩), .int .i64 n] w (NextPost w b 0 [] 8) := by
  have H := Lib.hid h; clear h
  have HN := Lib.hid hn; clear hn
  go_enter Tryd.func61, Tryd.ntmps61
  go_wp2_with (first
    | (go_at_call 104; refine (err_any H.out).mono ?_; rintro e w' ⟨rfl, rfl⟩)
    | (go_at_call 105; refine (size_no n HN.out _).mono ?_; rintro e w' ⟨rfl, rfl⟩)
    | (go_at_call 106; refine (fail_any H.out 8).mono ?_; rintro e w1 ⟨rfl, h1, g1⟩; have H1 := Lib.hid h1; clear h1))
  go_ret
  exact ⟨rfl, H1.out, g1⟩
theorem next_err {w : World} {b : Nat} {l : List UInt8} {e : Int} (h : Rdr w b l e) (n : Int) (he : (e == 0) = false) :
    Calls Tryd.prog 61 #[.pointer (some ⟨b, 0, none⟩), .int .i64 n] w (NextPost w b 0 l e) := by
  have H := Lib.hid h; clear h
  have he' : (e != 0) = true := by simpa using he
  go_enter Tryd.func61, Tryd.ntmps61
  go_wp2_with (first
    | (go_at_call 104; refine (err_any H.out).mono ?_; rintro e w' ⟨rfl, rfl⟩))
  go_ret
  exact ⟨rfl, H.out, World.grownBy.refl _ _⟩
theorem next_nil (n : Int) (w : World) : Calls Tryd.prog 61 #[.pointer none, .int .i64 n] w fun r w' => r = .returned (.int .i64 0) ∧ w = w' := by
  go_enter Tryd.func61, Tryd.ntmps61
  go_wp2_with (first
    | (go_at_call 104; refine (err_nil _).mono ?_; rintro e w' ⟨rfl, rfl⟩))
  go_ret
  exact ⟨rfl, rfl⟩
theorem next_short1 {w : World} {b : Nat} {l : List UInt8} (h : Rdr w b l 0) (hl : l.length < 1) :
    Calls Tryd.prog 61 #[.pointer (some ⟨b, 0, none⟩), .int .i64 1] w (NextPost w b 0 [] 9) := by
  obtain ⟨A, c, h'⟩ := h
  have hc0 := h'.head.cell 0
  simp only [List.getElem?_toArray, List.getElem?_cons_zero] at hc0
  have H := Lib.hid (show Rdr w b l 0 from ⟨A, c, h'⟩); clear h'
  go_enter Tryd.func61, Tryd.ntmps61
  go_wp2_with (first
    | (go_at_call 104; refine (err_any H.out).mono ?_; rintro e w' ⟨rfl, rfl⟩)
    | (go_at_call 105; refine (size_1 _).mono ?_; rintro e w' ⟨rfl, rfl⟩)
    | (go_at_call 106; refine (fail_any H.out 9).mono ?_; rintro e w1 ⟨rfl, h1, g1⟩; have H1 := Lib.hid h1; clear h1))
  go_ret
  exact ⟨rfl, H1.out, g1⟩
theorem next_short2 {w : World} {b : Nat} {l : List UInt8} (h : Rdr w b l 0) (hl : l.length < 2) :
    Calls Tryd.prog 61 #[.pointer (some ⟨b, 0, none⟩), .int .i64 2] w (NextPost w b 0 [] 9) := by
  obtain ⟨A, c, h'⟩ := h
  have hc0 := h'.head.cell 0
  simp only [List.getElem?_toArray, List.getElem?_cons_zero] at hc0
  have H := Lib.hid (show Rdr w b l 0 from ⟨A, c, h'⟩); clear h'
  go_enter Tryd.func61, Tryd.ntmps61
  go_wp2_with (first
    | (go_at_call 104; refine (err_any H.out).mono ?_; rintro e w' ⟨rfl, rfl⟩)
    | (go_at_call 105; refine (size_2 _).mono ?_; rintro e w' ⟨rfl, rfl⟩)
    | (go_at_call 106; refine (fail_any H.out 9).mono ?_; rintro e w1 ⟨rfl, h1, g1⟩; have H1 := Lib.hid h1; clear h1))
  go_ret
  exact ⟨rfl, H1.out, g1⟩
theorem next_short4 {w : World} {b : Nat} {l : List UInt8} (h : Rdr w b l 0) (hl : l.length < 4) :
    Calls Tryd.prog 61 #[.pointer (some ⟨b, 0, none⟩), .int .i64 4] w (NextPost w b 0 [] 9) := by
  obtain ⟨A, c, h'⟩ := h
  have hc0 := h'.head.cell 0
  simp only [List.getElem?_toArray, List.getElem?_cons_zero] at hc0
  have H := Lib.hid (show Rdr w b l 0 from ⟨A, c, h'⟩); clear h'
  go_enter Tryd.func61, Tryd.ntmps61
  go_wp2_with (first
    | (go_at_call 104; refine (err_any H.out).mono ?_; rintro e w' ⟨rfl, rfl⟩)
    | (go_at_call 105; refine (size_4 _).mono ?_; rintro e w' ⟨rfl, rfl⟩)
    | (go_at_call 106; refine (fail_any H.out 9).mono ?_; rintro e w1 ⟨rfl, h1, g1⟩; have H1 := Lib.hid h1; clear h1))
  go_ret
  exact ⟨rfl, H1.out, g1⟩
def nxV (l : List UInt8) (e n : Int) : Int := if (e == 0) = false then 0 else if sz n = false then 0 else if (l.length : Int) < n then 0 else be l n
def nxL (l : List UInt8) (e n : Int) : List UInt8 := if (e == 0) = false then l else if sz n = false then [] else if (l.length : Int) < n then [] else l.drop n.toNat
def nxE (l : List UInt8) (e n : Int) : Int := if (e == 0) = false then e else if sz n = false then 8 else if (l.length : Int) < n then 9 else 0
theorem nxL_length (l : List UInt8) (e n : Int) : (nxL l e n).length ≤ l.length := by
  unfold nxL
  split
  · omega
  · split
    · simp
    · split <;> simp
theorem next_any {w : World} {b : Nat} {l : List UInt8} {e : Int} (h : Rdr w b l e) (hm : l.length ≤ 4096) (n : Int) :
    Calls Tryd.prog 61 #[.pointer (some ⟨b, 0, none⟩), .int .i64 n] w (NextPost w b (nxV l e n) (nxL l e n) (nxE l e n)) := by
  unfold nxV nxL nxE
  by_cases he : (e == 0) = false
  · simp only [if_pos he]; exact next_err h n he
  · simp only [if_neg he]
    obtain rfl : e = 0 := by simpa using he
    by_cases hs : sz n = false
    · simp only [if_pos hs]; exact next_form h n hs
    · simp only [if_neg hs]
      by_cases hl : (l.length : Int) < n
      · simp only [if_pos hl]
        rcases of_decide_eq_true (show sz n = true by simpa using hs) with rfl | rfl | rfl
        · exact next_short1 h (by omega)
        · exact next_short2 h (by omega)
        · exact next_short4 h (by omega)
      · simp only [if_neg hl]
        rcases of_decide_eq_true (show sz n = true by simpa using hs) with rfl | rfl | rfl
        · exact next_1 h (by omega) hm
        · exact next_2 h (by omega) hm
        · exact next_4 h (by omega) hm
end Go.Proofs.YtfbbgoahipejlabDoor.W
