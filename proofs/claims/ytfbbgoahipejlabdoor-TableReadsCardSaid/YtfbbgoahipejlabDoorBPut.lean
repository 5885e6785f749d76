/- What wire.Put, Sum and Seal answer: contracts against plain functions on lists of bytes. -/
import Derived.Test.YtfbbgoahipejlabDoorBApp
import Derived.Laws.BitsAllLaws
import Derived.Laws.BitsLemmas
namespace Go.Proofs.YtfbbgoahipejlabDoor.W
open Go.RowKit Go.Proofs.YtfbbgoahipejlabDoor.G

def mx (n : Int) : Int := if n = 1 then 256 else if n = 2 then 65536 else if n = 4 then 4294967296 else 0
def num (n v : Int) : List UInt8 := if n = 1 then [by_ v] else if n = 2 then [by_ (v / 256), by_ (v % 256)] else [by_ (v / 16777216), by_ (v / 65536 % 256), by_ (v / 256 % 256), by_ (v % 256)]
def inN (n v : Int) : Bool := decide (0 ≤ v ∧ v < mx n)
def putE (n v : Int) : Int := if sz n then (if inN n v then 0 else 7) else 8
def putL (l : List UInt8) (n v : Int) : List UInt8 := if sz n then (if inN n v then l ++ num n v else l) else l
/-- Bytes and a code are answered; of what was there nothing has turned. -/
def PairPost (w : World) (l : List UInt8) (c : Int) (e : Ending) (w' : World) : Prop := ∃ x, e = .returned (.tuple #[x, .int .i64 c]) ∧ Lst w' w.heap.size x l ∧ Below w.heap.size w w'

theorem put_4 {w : World} {A : Option Addr} {c : Nat} {l : List UInt8} (hr : Rd w A l) (hl : l.length ≤ 2048) (v : Int) (h0 : 0 ≤ v) (h1 : v < 4294967296) :
    Calls Tryd.prog 91 #[.slice A l.length c, .int .i64 4, .int .i64 v] w (PairPost w (l ++ num 4 v) 0) := by
  have t1 : decide (v < 0) = false := decide_eq_false (by omega)
  have t2 : decide (4294967296 ≤ v) = false := decide_eq_false (by omega)
  go_enter Tryd.func91, Tryd.ntmps91
  go_wp2_with (first
    | (go_at_call 134; refine (clone_any hr (by omega)).mono ?_; rintro e w1 ⟨x1, rfl, hx1, hb1⟩; have HX1 := Lib.hid hx1; clear hx1)
    | (go_at_call 105; refine (size_4 _).mono ?_; rintro e w' ⟨rfl, rfl⟩)
    | (at_builtin
       refine wpList_app rfl (.tmp 32) (.tmp 39) rfl w.heap.size x1 l rfl (HX1.out.alloc _) (some ⟨w1.heap.size, 0, none⟩) 2 [by_ (v / 16777216), by_ (v / 65536 % 256)] rfl (rd_new2 _ _ _ (by omega) (by omega) (by omega) (by omega)) (by simp; omega) (by have := hb1.size; simp; omega) ?_
       intro x2 w2 hx2 hb2 _ _
       have HX2 := Lib.hid hx2; clear hx2)
    | (at_builtin
       refine wpList_app rfl (.tmp 41) (.tmp 45) rfl w.heap.size x2 _ rfl (HX2.out.alloc _) (some ⟨w2.heap.size, 0, none⟩) 1 [by_ (v / 256 % 256)] rfl (rd_new1 _ _ (by omega) (by omega)) (by simp; omega) (by have := hb1.size; have := hb2.size; simp at *; omega) ?_
       intro x3 w3 hx3 hb3 _ _
       have HX3 := Lib.hid hx3; clear hx3)
    | (at_builtin
       refine wpList_app rfl (.tmp 47) (.tmp 50) rfl w.heap.size x3 _ rfl (HX3.out.alloc _) (some ⟨w3.heap.size, 0, none⟩) 1 [by_ (v % 256)] rfl (rd_new1 _ _ (by omega) (by omega)) (by simp; omega) (by have := hb1.size; have := hb2.size; have := hb3.size; simp at *; omega) ?_
       intro x4 w4 hx4 hb4 _ _
       have HX4 := Lib.hid hx4; clear hx4))
  go_ret2
  have s1 := hb1.size
  have s2 := hb2.size
  have s3 := hb3.size
  simp at s2 s3
  refine ⟨x4, rfl, by simpa [num] using HX4.out, ?_⟩
  exact (((hb1.alloc s1 _).trans hb2).alloc (by omega) _).trans hb3 |>.alloc (by omega) _ |>.trans hb4
theorem put_2 {w : World} {A : Option Addr} {c : Nat} {l : List UInt8} (hr : Rd w A l) (hl : l.length ≤ 2048) (v : Int) (h0 : 0 ≤ v) (h1 : v < 65536) :
    Calls Tryd.prog 91 #[.slice A l.length c, .int .i64 2, .int .i64 v] w (PairPost w (l ++ num 2 v) 0) := by
  have t1 : decide (v < 0) = false := decide_eq_false (by omega)
  have t2 : decide (65536 ≤ v) = false := decide_eq_false (by omega)
  go_enter Tryd.func91, Tryd.ntmps91
  go_wp2_with (first
    | (go_at_call 134; refine (clone_any hr (by omega)).mono ?_; rintro e w1 ⟨x2, rfl, hx2, hb2⟩; have HX2 := Lib.hid hx2; clear hx2)
    | (go_at_call 105; refine (size_2 _).mono ?_; rintro e w' ⟨rfl, rfl⟩)
    | (at_builtin
       refine wpList_app rfl (.tmp 41) (.tmp 45) rfl w.heap.size x2 _ rfl (HX2.out.alloc _) (some ⟨w1.heap.size, 0, none⟩) 1 [by_ (v / 256)] rfl (rd_new1 _ _ (by omega) (by omega)) (by simp; omega) (by have := hb2.size; simp at *; omega) ?_
       intro x3 w3 hx3 hb3 _ _
       have HX3 := Lib.hid hx3; clear hx3)
    | (at_builtin
       refine wpList_app rfl (.tmp 47) (.tmp 50) rfl w.heap.size x3 _ rfl (HX3.out.alloc _) (some ⟨w3.heap.size, 0, none⟩) 1 [by_ (v % 256)] rfl (rd_new1 _ _ (by omega) (by omega)) (by simp; omega) (by have := hb2.size; have := hb3.size; simp at *; omega) ?_
       intro x4 w4 hx4 hb4 _ _
       have HX4 := Lib.hid hx4; clear hx4))
  go_ret2
  have s2 := hb2.size
  have s3 := hb3.size
  simp at s2 s3
  refine ⟨x4, rfl, by simpa [num] using HX4.out, ?_⟩
  exact ((hb2.alloc s2 _).trans hb3).alloc (by omega) _ |>.trans hb4
theorem put_1 {w : World} {A : Option Addr} {c : Nat} {l : List UInt8} (hr : Rd w A l) (hl : l.length ≤ 2048) (v : Int) (h0 : 0 ≤ v) (h1 : v < 256) :
    Calls Tryd.prog 91 #[.slice A l.length c, .int .i64 1, .int .i64 v] w (PairPost w (l ++ num 1 v) 0) := by
  have t1 : decide (v < 0) = false := decide_eq_false (by omega)
  have t2 : decide (256 ≤ v) = false := decide_eq_false (by omega)
  go_enter Tryd.func91, Tryd.ntmps91
  go_wp2_with (first
    | (go_at_call 134; refine (clone_any hr (by omega)).mono ?_; rintro e w3 ⟨x3, rfl, hx3, hb3⟩; have HX3 := Lib.hid hx3; clear hx3)
    | (go_at_call 105; refine (size_1 _).mono ?_; rintro e w' ⟨rfl, rfl⟩)
    | (at_builtin
       refine wpList_app rfl (.tmp 47) (.tmp 50) rfl w.heap.size x3 _ rfl (HX3.out.alloc _) (some ⟨w3.heap.size, 0, none⟩) 1 [by_ v] rfl (rd_new1 _ _ (by omega) (by omega)) (by simp; omega) (by have := hb3.size; simp at *; omega) ?_
       intro x4 w4 hx4 hb4 _ _
       have HX4 := Lib.hid hx4; clear hx4))
  go_ret2
  have s3 := hb3.size
  refine ⟨x4, rfl, by simpa [num] using HX4.out, ?_⟩
  exact (hb3.alloc s3 _).trans hb4
theorem put_form {w : World} {A : Option Addr} {c : Nat} {l : List UInt8} (hr : Rd w A l) (hl : l.length ≤ 2048) (n v : Int) (h : sz n = false) :
    Calls Tryd.prog 91 #[.slice A l.length c, .int .i64 n, .int .i64 v] w (PairPost w l 8) := by
  have HH := Lib.hid h; clear h
  go_enter Tryd.func91, Tryd.ntmps91
  go_wp2_with (first
    | (go_at_call 134; refine (clone_any hr (by omega)).mono ?_; rintro e w3 ⟨x3, rfl, hx3, hb3⟩; have HX3 := Lib.hid hx3; clear hx3)
    | (go_at_call 105; refine (size_no n HH.out _).mono ?_; rintro e w' ⟨rfl, rfl⟩))
  go_ret2
  exact ⟨x3, rfl, HX3.out, hb3⟩
theorem put_lo1 {w : World} {A : Option Addr} {c : Nat} {l : List UInt8} (hr : Rd w A l) (hl : l.length ≤ 2048) (v : Int) (h : v < 0) :
    Calls Tryd.prog 91 #[.slice A l.length c, .int .i64 1, .int .i64 v] w (PairPost w l 7) := by
  have t1 : decide (v < 0) = true := decide_eq_true h
  go_enter Tryd.func91, Tryd.ntmps91
  go_wp2_with (first
    | (go_at_call 134; refine (clone_any hr (by omega)).mono ?_; rintro e w3 ⟨x3, rfl, hx3, hb3⟩; have HX3 := Lib.hid hx3; clear hx3)
    | (go_at_call 105; refine (size_1 _).mono ?_; rintro e w' ⟨rfl, rfl⟩))
  go_ret2
  exact ⟨x3, rfl, HX3.out, hb3⟩
theorem put_hi1 {w : World} {A : Option Addr} {c : Nat} {l : List UInt8} (hr : Rd w A l) (hl : l.length ≤ 2048) (v : Int) (h : 256 ≤ v) :
    Calls Tryd.prog 91 #[.slice A l.length c, .int .i64 1, .int .i64 v] w (PairPost w l 7) := by
  have t1 : decide (v < 0) = false := decide_eq_false (by omega)
  have t2 : decide (256 ≤ v) = true := decide_eq_true h
  go_enter Tryd.func91, Tryd.ntmps91
  go_wp2_with (first
    | (go_at_call 134; refine (clone_any hr (by omega)).mono ?_; rintro e w3 ⟨x3, rfl, hx3, hb3⟩; have HX3 := Lib.hid hx3; clear hx3)
    | (go_at_call 105; refine (size_1 _).mono ?_; rintro e w' ⟨rfl, rfl⟩))
  go_ret2
  exact ⟨x3, rfl, HX3.out, hb3⟩
theorem put_lo2 {w : World} {A : Option Addr} {c : Nat} {l : List UInt8} (hr : Rd w A l) (hl : l.length ≤ 2048) (v : Int) (h : v < 0) :
    Calls Tryd.prog 91 #[.slice A l.length c, .int .i64 2, .int .i64 v] w (PairPost w l 7) := by
  have t1 : decide (v < 0) = true := decide_eq_true h
  go_enter Tryd.func91, Tryd.ntmps91
  go_wp2_with (first
    | (go_at_call 134; refine (clone_any hr (by omega)).mono ?_; rintro e w3 ⟨x3, rfl, hx3, hb3⟩; have HX3 := Lib.hid hx3; clear hx3)
    | (go_at_call 105; refine (size_2 _).mono ?_; rintro e w' ⟨rfl, rfl⟩))
  go_ret2
  exact ⟨x3, rfl, HX3.out, hb3⟩
theorem put_hi2 {w : World} {A : Option Addr} {c : Nat} {l : List UInt8} (hr : Rd w A l) (hl : l.length ≤ 2048) (v : Int) (h : 65536 ≤ v) :
    Calls Tryd.prog 91 #[.slice A l.length c, .int .i64 2, .int .i64 v] w (PairPost w l 7) := by
  have t1 : decide (v < 0) = false := decide_eq_false (by omega)
  have t2 : decide (65536 ≤ v) = true := decide_eq_true h
  go_enter Tryd.func91, Tryd.ntmps91
  go_wp2_with (first
    | (go_at_call 134; refine (clone_any hr (by omega)).mono ?_; rintro e w3 ⟨x3, rfl, hx3, hb3⟩; have HX3 := Lib.hid hx3; clear hx3)
    | (go_at_call 105; refine (size_2 _).mono ?_; rintro e w' ⟨rfl, rfl⟩))
  go_ret2
  exact ⟨x3, rfl, HX3.out, hb3⟩
theorem put_lo4 {w : World} {A : Option Addr} {c : Nat} {l : List UInt8} (hr : Rd w A l) (hl : l.length ≤ 2048) (v : Int) (h : v < 0) :
    Calls Tryd.prog 91 #[.slice A l.length c, .int .i64 4, .int .i64 v] w (PairPost w l 7) := by
  have t1 : decide (v < 0) = true := decide_eq_true h
  go_enter Tryd.func91, Tryd.ntmps91
  go_wp2_with (first
    | (go_at_call 134; refine (clone_any hr (by omega)).mono ?_; rintro e w3 ⟨x3, rfl, hx3, hb3⟩; have HX3 := Lib.hid hx3; clear hx3)
    | (go_at_call 105; refine (size_4 _).mono ?_; rintro e w' ⟨rfl, rfl⟩))
  go_ret2
  exact ⟨x3, rfl, HX3.out, hb3⟩
theorem put_hi4 {w : World} {A : Option Addr} {c : Nat} {l : List UInt8} (hr : Rd w A l) (hl : l.length ≤ 2048) (v : Int) (h : 4294967296 ≤ v) :
    Calls Tryd.prog 91 #[.slice A l.length c, .int .i64 4, .int .i64 v] w (PairPost w l 7) := by
  have t1 : decide (v < 0) = false := decide_eq_false (by omega)
  have t2 : decide (4294967296 ≤ v) = true := decide_eq_true h
  go_enter Tryd.func91, Tryd.ntmps91
  go_wp2_with (first
    | (go_at_call 134; refine (clone_any hr (by omega)).mono ?_; rintro e w3 ⟨x3, rfl, hx3, hb3⟩; have HX3 := Lib.hid hx3; clear hx3)
    | (go_at_call 105; refine (size_4 _).mono ?_; rintro e w' ⟨rfl, rfl⟩))
  go_ret2
  exact ⟨x3, rfl, HX3.out, hb3⟩
theorem put_any {w : World} {A : Option Addr} {c : Nat} {l : List UInt8} (hr : Rd w A l) (hl : l.length ≤ 2048) (n v : Int) :
    Calls Tryd.prog 91 #[.slice A l.length c, .int .i64 n, .int .i64 v] w (PairPost w (putL l n v) (putE n v)) := by
  unfold putL putE
  by_cases h : sz n = true
  · simp only [h, if_true]
    by_cases hv : inN n v = true
    · simp only [hv, if_true]
      obtain ⟨v0, v1⟩ := of_decide_eq_true hv
      rcases of_decide_eq_true h with rfl | rfl | rfl
      · exact put_1 hr hl v v0 (by simpa [mx] using v1)
      · exact put_2 hr hl v v0 (by simpa [mx] using v1)
      · exact put_4 hr hl v v0 (by simpa [mx] using v1)
    · simp only [hv, if_false, Bool.false_eq_true]
      have hv' := of_decide_eq_false (show inN n v = false by simpa using hv)
      by_cases hv0 : v < 0
      · rcases of_decide_eq_true h with rfl | rfl | rfl
        · exact put_lo1 hr hl v hv0
        · exact put_lo2 hr hl v hv0
        · exact put_lo4 hr hl v hv0
      · rcases of_decide_eq_true h with rfl | rfl | rfl
        · exact put_hi1 hr hl v (by simp [mx] at hv'; omega)
        · exact put_hi2 hr hl v (by simp [mx] at hv'; omega)
        · exact put_hi4 hr hl v (by simp [mx] at hv'; omega)
  · have h' : sz n = false := by simpa using h
    simp only [h', if_false, Bool.false_eq_true]
    exact put_form hr hl n v h'
theorem num_length (n v : Int) (h : sz n = true) : ((num n v).length : Int) = n := by
  rcases of_decide_eq_true h with rfl | rfl | rfl <;> rfl
theorem putL_length (l : List UInt8) (n v : Int) : (putL l n v).length ≤ l.length + 4 := by
  unfold putL
  split
  · split
    · have := num_length n v ‹_›
      rcases of_decide_eq_true (show sz n = true from ‹_›) with rfl | rfl | rfl <;> simp <;> omega
    · omega
  · omega

/-! ### Sum, Seal -/
def su (l : List UInt8) : Nat → Int
  | 0 => 0
  | k + 1 => (su l k + nth l k) % 65536
theorem su_bd (l : List UInt8) (k : Nat) : 0 ≤ su l k ∧ su l k < 65536 := by
  cases k with
  | zero => simp [su]
  | succ k => unfold su; omega
def sum (l : List UInt8) : Int := su l l.length
theorem sum_any {w : World} {A : Option Addr} {c : Nat} {l : List UInt8} (hr : Rd w A l) (hl : l.length ≤ 4096) :
    Calls Tryd.prog 135 #[.slice A l.length c] w fun e w' => e = .returned (.int .i64 (sum l)) ∧ w = w' := by
  have HR := Lib.hid hr; clear hr
  go_enter Tryd.func135, Tryd.ntmps135
  go_wp2
  go_loop [3, 8] (fun s i => ∃ k : Nat, k ≤ l.length ∧ i = .int .i64 k ∧ s = .int .u16 (su l k)) (fun _ i => l.length - (intOf i).toNat)
  case atStart => exact ⟨0, by omega, rfl, rfl⟩
  case round =>
    obtain ⟨k, hk, rfl, rfl⟩ := hrel
    have hb := su_bd l k
    by_cases hlt : k < l.length
    · obtain ⟨b, o, rfl, _, hc⟩ := HR.out.at_ hlt
      have hn := nth_bd l k
      have HS : Hid (su l (k + 1) = (su l k + nth l k) % 65536) := rfl
      go_wp2
      go_round
      case rel => exact ⟨k + 1, by omega, by go_num, by rw [HS.out, IntKind.wrap_u16]⟩
      case measure => simp [intOf]; omega
    · have HK : Hid (k = l.length) := by show k = l.length; omega
      go_wp2
      go_ret
      exact ⟨by unfold sum; rw [← HK.out]; rfl, rfl⟩
theorem sum_bd (l : List UInt8) : 0 ≤ sum l ∧ sum l < 65536 := su_bd _ _
def sealL (l : List UInt8) : List UInt8 := l ++ num 2 (sum l)
theorem seal_any {w : World} {A : Option Addr} {c : Nat} {l : List UInt8} (hr : Rd w A l) (hl : l.length ≤ 2048) :
    Calls Tryd.prog 92 #[.slice A l.length c] w (NewPost w (sealL l)) := by
  have hs := sum_bd l
  go_enter Tryd.func92, Tryd.ntmps92
  go_wp2_with (first
    | (go_at_call 135; refine (sum_any hr (by omega)).mono ?_; rintro e w' ⟨rfl, rfl⟩)
    | (go_at_call 91; refine (put_2 hr hl _ (by omega) (by omega)).mono ?_; rintro e w1 ⟨x1, rfl, hx1, hb1⟩; have HX1 := Lib.hid hx1; clear hx1))
  go_ret
  exact ⟨x1, rfl, HX1.out, hb1⟩
theorem sealL_length (l : List UInt8) : (sealL l).length = l.length + 2 := by simp [sealL, num]
end Go.Proofs.YtfbbgoahipejlabDoor.W
