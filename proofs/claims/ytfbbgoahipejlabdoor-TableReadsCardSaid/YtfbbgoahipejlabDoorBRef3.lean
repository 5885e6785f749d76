/- The document's own Next and End: contracts against the same plain functions as a reader's calls. -/
import Derived.Test.YtfbbgoahipejlabDoorBRefA
namespace Go.Proofs.YtfbbgoahipejlabDoor.W
open Go.RowKit Go.Proofs.YtfbbgoahipejlabDoor.G

def RNextPost (w0 w : World) (l : List UInt8) (e v : Int) (r : Ending) (w' : World) : Prop := ∃ A c, r = .returned (.tuple #[.agg #[.slice A l.length c, .int .i64 e], .int .i64 v]) ∧ Rd w0 A l ∧ l.length ≤ c ∧ c ≤ 9223372036854775807 ∧ Below w.heap.size w w'

theorem rnext_err {w0 w : World} {A : Option Addr} {c : Nat} {l : List UInt8} {e : Int} (hr : Rd w0 A l) (hc : l.length ≤ c) (hc1 : c ≤ 9223372036854775807) (n : Int) (he : (e == 0) = false) :
    Calls Tryd.prog 110 #[.agg #[.slice A l.length c, .int .i64 e], .int .i64 n] w (RNextPost w0 w l e 0) := by
  have he' : (e != 0) = true := by simpa using he
  go_enter Tryd.func110, Tryd.ntmps110
  go_wp2
  refine bodyPost_ret (v := .tuple #[.agg #[.slice A l.length c, .int .i64 e], .int .i64 0]) (by simp [results, Tryd.results110, go_sem]) rfl ⟨A, c, rfl, hr, hc, hc1, ?_⟩
  exact ((Below.refl _ _).alloc (Nat.le_refl _) _).alloc (by simp) _
theorem rnext_form {w0 w : World} {A : Option Addr} {c : Nat} {l : List UInt8} (n : Int) (h : sz n = false) :
    Calls Tryd.prog 110 #[.agg #[.slice A l.length c, .int .i64 0], .int .i64 n] w (RNextPost w0 w [] 8 0) := by
  have HH := Lib.hid h; clear h
  go_enter Tryd.func110, Tryd.ntmps110
  go_wp2_with (first | (go_at_call 93; refine (most_no n HH.out _).mono ?_; rintro e w' ⟨rfl, rfl⟩))
  refine bodyPost_ret (v := .tuple #[.agg #[.slice none 0 0, .int .i64 8], .int .i64 0]) (by simp [results, Tryd.results110, go_sem]) rfl ⟨none, 0, rfl, Rd.none_, by simp, by omega, ?_⟩
  exact ((Below.refl _ _).alloc (Nat.le_refl _) _).alloc (by simp) _
theorem rnext_short {w0 w : World} {A : Option Addr} {c : Nat} {l : List UInt8} (n : Int) (h : sz n = true) (hl : (l.length : Int) < n) :
    Calls Tryd.prog 110 #[.agg #[.slice A l.length c, .int .i64 0], .int .i64 n] w (RNextPost w0 w [] 9 0) := by
  have hm := mx_pos h
  have HM := Lib.hid (fun w => most_mx n w)
  clear h
  generalize mx n = M at *
  have t0 : (M == 0) = false := by rw [beq_eq_false_iff_ne]; omega
  have t1 : decide ((l.length : Int) < n) = true := decide_eq_true hl
  clear hm
  go_enter Tryd.func110, Tryd.ntmps110
  go_wp2_with (first | (go_at_call 93; refine (HM.out _).mono ?_; rintro e w' ⟨rfl, rfl⟩))
  refine bodyPost_ret (v := .tuple #[.agg #[.slice none 0 0, .int .i64 9], .int .i64 0]) (by simp [results, Tryd.results110, go_sem]) rfl ⟨none, 0, rfl, Rd.none_, by simp, by omega, ?_⟩
  exact ((Below.refl _ _).alloc (Nat.le_refl _) _).alloc (by simp) _
def bk (l : List UInt8) : Nat → Int
  | 0 => 0
  | k + 1 => 256 * bk l k + nth l k
theorem bk_bd (l : List UInt8) : ∀ k, 0 ≤ bk l k ∧ bk l k < 256 ^ k
  | 0 => by simp [bk]
  | k + 1 => by
    have := bk_bd l k
    have hn := nth_bd l k
    rw [bk, Int.pow_succ]
    omega
theorem bk_be (l : List UInt8) (n : Nat) (h : sz n = true) : bk l n = be l n := by
  rcases of_decide_eq_true h with e | e | e
  · obtain rfl : n = 1 := by omega
    simp [bk, be]
  · obtain rfl : n = 2 := by omega
    simp [bk, be]; omega
  · obtain rfl : n = 4 := by omega
    simp [bk, be]; omega
set_option maxHeartbeats 400000 in
theorem rnext_ok {w0 w : World} {A : Option Addr} {c : Nat} {l : List UInt8} (hr0 : Rd w0 A l) (hr : Rd w A l) (hc : l.length ≤ c) (hc1 : c ≤ 9223372036854775807) (n : Nat) (h : sz n = true) (hl : n ≤ l.length) :
    Calls Tryd.prog 110 #[.agg #[.slice A l.length c, .int .i64 0], .int .i64 n] w (RNextPost w0 w (l.drop n) 0 (be l n)) := by
  have hm := mx_pos h
  have HB := Lib.hid (bk_be l n h)
  have HM := Lib.hid (fun w => most_mx n w)
  have hn : 0 < n ∧ n ≤ 4 := by rcases of_decide_eq_true h with e | e | e <;> omega
  have hb3 := bk_bd l
  obtain ⟨b, o, rfl, hlt, _⟩ := hr.at_ (k := 0) (by omega)
  have HD := Lib.hid (hr0.drop n (cap := c) hc)
  have HR := Lib.hid hr
  have HBD := Lib.hid hb3
  clear h hr hr0 hb3
  generalize mx n = M at *
  have t0 : (M == 0) = false := by rw [beq_eq_false_iff_ne]; omega
  have t1 : decide (l.length < n) = false := decide_eq_false (by omega)
  clear hm
  go_enter Tryd.func110, Tryd.ntmps110
  go_wp2_with (first | (go_at_call 93; refine (HM.out _).mono ?_; rintro e w' ⟨rfl, rfl⟩))
  go_loop [6, 7] (fun v i => ∃ k : Nat, k ≤ n ∧ i = .int .i64 k ∧ v = .int .i64 (bk l k)) (fun _ i => n - (intOf i).toNat)
  case atStart => exact ⟨0, by omega, rfl, rfl⟩
  case round =>
    obtain ⟨k, hk, rfl, rfl⟩ := hrel
    have hbd := HBD.out k
    have hp : (256 : Int) ^ k ≤ 4294967296 := by
      have : k = 0 ∨ k = 1 ∨ k = 2 ∨ k = 3 ∨ k = 4 := by omega
      rcases this with rfl | rfl | rfl | rfl | rfl <;> decide
    have hbd1 : bk l k < 4294967296 := by omega
    have hbd0 := hbd.1
    clear hbd hp
    by_cases hkn : k < n
    · obtain ⟨b', o', e', _, hcell⟩ := HR.out.at_ (k := k) (by omega)
      injection e' with e'
      injection e' with e1 e2
      subst e1 e2
      have hnb := nth_bd l k
      have HS : Hid (bk l (k + 1) = 256 * bk l k + nth l k) := rfl
      go_wp2
      go_round
      case rel => exact ⟨k + 1, by omega, by go_num, by rw [HS.out]⟩
      case measure => simp [intOf]; omega
    · obtain rfl : k = n := by omega
      rw [Option.map_some, Addr.add_lit] at HD
      by_cases hcn : c = k
      · subst hcn
        have hlc : l.length = c := by omega
        rw [if_pos rfl] at HD
        go_wp2
        refine bodyPost_ret (v := .tuple #[.agg #[.slice (some ⟨b, o, none⟩) 0 0, .int .i64 0], .int .i64 (bk l c)]) (by simp [results, Tryd.results110, go_sem]) rfl ⟨some ⟨b, o, none⟩, 0, by rw [HB.out, List.length_drop, hlc, Nat.sub_self], HD.out, by simp [hlc], by omega, ?_⟩
        exact ((Below.refl _ _).alloc (Nat.le_refl _) _).alloc (by simp) _
      · rw [if_neg hcn] at HD
        have hkc : k < c := by omega
        go_wp2
        refine bodyPost_ret (v := .tuple #[.agg #[.slice (some ⟨b, o + k, none⟩) (l.length - k) (c - k), .int .i64 0], .int .i64 (bk l k)]) (by simp [results, Tryd.results110, go_sem]) rfl ⟨some ⟨b, o + k, none⟩, c - k, by rw [HB.out, List.length_drop], HD.out, by simp; omega, by omega, ?_⟩
        exact ((Below.refl _ _).alloc (Nat.le_refl _) _).alloc (by simp) _
theorem rnext_any {w0 w : World} {A : Option Addr} {c : Nat} {l : List UInt8} {e : Int} (hr0 : Rd w0 A l) (hr : Rd w A l) (hc : l.length ≤ c) (hc1 : c ≤ 9223372036854775807) (n : Int) :
    Calls Tryd.prog 110 #[.agg #[.slice A l.length c, .int .i64 e], .int .i64 n] w (RNextPost w0 w (nxL l e n) (nxE l e n) (nxV l e n)) := by
  unfold nxV nxL nxE
  by_cases he : (e == 0) = false
  · simp only [if_pos he]; exact rnext_err hr0 hc hc1 n he
  · simp only [if_neg he]
    obtain rfl : e = 0 := by simpa using he
    by_cases hs : sz n = false
    · simp only [if_pos hs]; exact rnext_form n hs
    · simp only [if_neg hs]
      have hs' : sz n = true := by simpa using hs
      by_cases hl : (l.length : Int) < n
      · simp only [if_pos hl]
        exact rnext_short n hs' hl
      · simp only [if_neg hl]
        obtain ⟨k, rfl⟩ := Int.eq_ofNat_of_zero_le (show 0 ≤ n by rcases of_decide_eq_true hs' with rfl | rfl | rfl <;> omega)
        exact rnext_ok hr0 hr hc hc1 k hs' (by omega)
theorem rend_any {w : World} {A : Option Addr} {c : Nat} {l : List UInt8} {e : Int} :
    Calls Tryd.prog 67 #[.agg #[.slice A l.length c, .int .i64 e]] w fun r w' => r = .returned (.int .i64 (endE l e)) ∧ Below w.heap.size w w' := by
  by_cases h0 : e = 0
  · subst h0
    by_cases h1 : 0 < l.length
    · have HE : Hid (endE l 0 = 8) := by show endE l 0 = 8; unfold endE; rw [if_pos ⟨rfl, h1⟩]
      go_enter Tryd.func67, Tryd.ntmps67
      go_wp2
      go_ret
      exact ⟨by rw [HE.out]; rfl, (Below.refl _ _).alloc (Nat.le_refl _) _⟩
    · have HE : Hid (endE l 0 = 0) := by show endE l 0 = 0; unfold endE; rw [if_neg (by omega)]
      have t : decide (0 < l.length) = false := decide_eq_false h1
      go_enter Tryd.func67, Tryd.ntmps67
      go_wp2
      go_ret
      exact ⟨by rw [HE.out]; rfl, (Below.refl _ _).alloc (Nat.le_refl _) _⟩
  · have HE : Hid (endE l e = e) := by show endE l e = e; unfold endE; rw [if_neg (by omega)]
    have t : (e == 0) = false := by simpa using h0
    clear h0
    go_enter Tryd.func67, Tryd.ntmps67
    go_wp2
    go_ret
    exact ⟨by rw [HE.out]; rfl, (Below.refl _ _).alloc (Nat.le_refl _) _⟩
end Go.Proofs.YtfbbgoahipejlabDoor.W
