/- What wire.Open answers. -/
import Derived.Test.YtfbbgoahipejlabDoorBNxt
import Derived.RegionTactic
import Derived.Deep.RegionWith
import Derived.Deep.RegionHeld3
import Derived.Deep.DrawnRows
namespace Go.Proofs.YtfbbgoahipejlabDoor.W
open Go.RowKit Go.Proofs.YtfbbgoahipejlabDoor.G
attribute [local go_sem ↓] Go.wp_at_zero Go.wp_at_succ

theorem open_short {w : World} {A : Option Addr} {n c : Nat} (hn : n < 2) :
    Calls Tryd.prog 94 #[.slice A n c] w fun e w' => e = .returned (.tuple #[.slice none 0 0, .int .i64 9]) ∧ w = w' := by
  go_enter Tryd.func94, Tryd.ntmps94
  go_wp2
  go_ret2
  exact ⟨rfl, rfl⟩
theorem open_yes {w : World} {b o c : Nat} {p : List UInt8} {x y : UInt8} (hr : Rd w (some ⟨b, o, none⟩) (p ++ [x, y])) (hl : p.length ≤ 2048) (hc : p.length + 2 ≤ c) (ht : be [x, y] 2 = sum p) :
    Calls Tryd.prog 94 #[.slice (some ⟨b, o, none⟩) (p.length + 2) c] w (PairPost w p 0) := by
  have t1 : (be [x, y] 2 != sum p) = false := by simpa using ht
  clear ht

  have f1 : (0 : Int) ≤ p.length := by omega
  have f2 : (p.length : Int) ≤ p.length + 2 := by omega
  have f3 : (p.length : Int) + 2 ≤ c := by omega
  have f4 : (p.length : Int) ≤ c := by omega
  have f5 : p.length < c := by omega
  go_enter Tryd.func94, Tryd.ntmps94
  have hp : Rd w (some ⟨b, o, none⟩) p := by have := hr.take p.length; simpa using this
  have hxy : Rd w (if c = p.length then some ⟨b, o, none⟩ else some ⟨b, o + p.length, none⟩) [x, y] := by
    have := hr.drop p.length (cap := c) (by simp; omega)
    simpa [Addr.add_lit] using this
  have HP := Lib.hid hp; have HXY := Lib.hid hxy; have HR := Lib.hid hr; clear hp hxy hr
  have hS0 : Below w.heap.size w w := Below.refl _ _
  go_wp2_with fail
  have CR : Hid (∀ (W : World) (_ : Below w.heap.size w W) (c' : Nat), Calls Tryd.prog 95 #[.slice (if c = p.length then some ⟨b, o, none⟩ else some ⟨b, o + p.length, none⟩) 2 c'] W (ReadPost W [x, y])) := fun W h c' => read_any (c := c') (l := [x, y]) (HXY.out.below h) (by simp)
  have CS := Lib.hid (fun (W : World) (h : Below w.heap.size w W) (c : Nat) => sum_any (c := c) (HP.out.below h) (by omega))
  go_region_held3 (fun W => Below w.heap.size w W) (first | exact hS0.drew | assumption)
    (first
     | (go_at_call 135; (with_reducible refine (CS.out _ (by assumption) _).mono ?_); rintro e w' ⟨rfl, rfl⟩)
     | (go_at_call 95; (with_reducible refine (CR.out _ (by assumption) _).mono ?_); rintro e w1 ⟨b1, rfl, hb1, h1, g1⟩; have hS1 := bt (w := w) (by assumption) g1; have hl1 := bs (w := w) (by assumption) hb1)
     | (go_at_call 61; (with_reducible refine (next_2 (l := [x, y]) h1 (by simp) (by simp)).mono ?_); rintro e w2 ⟨rfl, h2, g2⟩; have hS2 := bg hS1 g2 hl1))
  go_wp2_with (go_at_call 134; refine (clone_any (HP.out.below hS2) (by omega)).mono ?_; rintro e w3 ⟨x3, rfl, hx3, hb3⟩; have HX3 := Lib.hid hx3; clear hx3)
  go_ret2
  exact ⟨x3, rfl, HX3.out.less hS2.size, bt hS2 hb3⟩
theorem open_no {w : World} {b o c : Nat} {p : List UInt8} {x y : UInt8} (hr : Rd w (some ⟨b, o, none⟩) (p ++ [x, y])) (hl : p.length ≤ 2048) (hc : p.length + 2 ≤ c) (ht : be [x, y] 2 ≠ sum p) :
    Calls Tryd.prog 94 #[.slice (some ⟨b, o, none⟩) (p.length + 2) c] w (PairPost w [] 8) := by
  have t1 : (be [x, y] 2 != sum p) = true := by simpa using ht
  clear ht

  have f1 : (0 : Int) ≤ p.length := by omega
  have f2 : (p.length : Int) ≤ p.length + 2 := by omega
  have f3 : (p.length : Int) + 2 ≤ c := by omega
  have f4 : (p.length : Int) ≤ c := by omega
  have f5 : p.length < c := by omega
  go_enter Tryd.func94, Tryd.ntmps94
  have hp : Rd w (some ⟨b, o, none⟩) p := by have := hr.take p.length; simpa using this
  have hxy : Rd w (if c = p.length then some ⟨b, o, none⟩ else some ⟨b, o + p.length, none⟩) [x, y] := by
    have := hr.drop p.length (cap := c) (by simp; omega)
    simpa [Addr.add_lit] using this
  have HP := Lib.hid hp; have HXY := Lib.hid hxy; have HR := Lib.hid hr; clear hp hxy hr
  have hS0 : Below w.heap.size w w := Below.refl _ _
  go_wp2_with fail
  have CR : Hid (∀ (W : World) (_ : Below w.heap.size w W) (c' : Nat), Calls Tryd.prog 95 #[.slice (if c = p.length then some ⟨b, o, none⟩ else some ⟨b, o + p.length, none⟩) 2 c'] W (ReadPost W [x, y])) := fun W h c' => read_any (c := c') (l := [x, y]) (HXY.out.below h) (by simp)
  have CS := Lib.hid (fun (W : World) (h : Below w.heap.size w W) (c : Nat) => sum_any (c := c) (HP.out.below h) (by omega))
  go_region_held3 (fun W => Below w.heap.size w W) (first | exact hS0.drew | assumption)
    (first
     | (go_at_call 135; (with_reducible refine (CS.out _ (by assumption) _).mono ?_); rintro e w' ⟨rfl, rfl⟩)
     | (go_at_call 95; (with_reducible refine (CR.out _ (by assumption) _).mono ?_); rintro e w1 ⟨b1, rfl, hb1, h1, g1⟩; have hS1 := bt (w := w) (by assumption) g1; have hl1 := bs (w := w) (by assumption) hb1)
     | (go_at_call 61; (with_reducible refine (next_2 (l := [x, y]) h1 (by simp) (by simp)).mono ?_); rintro e w2 ⟨rfl, h2, g2⟩; have hS2 := bg hS1 g2 hl1))
  go_wp2
  go_ret2
  exact ⟨_, rfl, Lst.nil_ _ _, hS2⟩

def front (l : List UInt8) : List UInt8 := l.take (l.length - 2)
def back (l : List UInt8) : List UInt8 := l.drop (l.length - 2)
def openB (l : List UInt8) : Bool := decide (be (back l) 2 = sum (front l))
def openE (l : List UInt8) : Int := if l.length < 2 then 9 else if openB l then 0 else 8
def openL (l : List UInt8) : List UInt8 := if l.length < 2 then [] else if openB l then front l else []
theorem two_back {l : List UInt8} (h : 2 ≤ l.length) : ∃ x y, l = front l ++ [x, y] ∧ back l = [x, y] := by
  have hb : (back l).length = 2 := by simp [back]; omega
  match hm : back l, hb with
  | [x, y], _ => exact ⟨x, y, by rw [← hm]; simp [front, back], rfl⟩
theorem open_any {w : World} {A : Option Addr} {c : Nat} {l : List UInt8} (hr : Rd w A l) (hl : l.length ≤ 2048) (hc : l.length ≤ c) :
    Calls Tryd.prog 94 #[.slice A l.length c] w (PairPost w (openL l) (openE l)) := by
  unfold openL openE
  by_cases h : l.length < 2
  · simp only [if_pos h]
    exact (open_short h).mono fun e w' ⟨he, hw⟩ => by
      subst hw; exact ⟨_, he, Lst.nil_ _ _, Below.refl _ _⟩
  · simp only [if_neg h]
    obtain ⟨x, y, e1, e2⟩ := two_back (l := l) (by omega)
    obtain ⟨b, o, rfl, _⟩ := hr.at_ (k := 0) (by omega)
    have hlen : l.length = (front l).length + 2 := by simp [front]; omega
    rw [e1] at hr
    by_cases ho : openB l = true
    · simp only [if_pos ho]
      have ht := of_decide_eq_true ho
      rw [e2] at ht
      have := open_yes (c := c) hr (by omega) (by omega) ht
      rwa [← hlen] at this
    · simp only [if_neg ho]
      have ht := of_decide_eq_false (show openB l = false by simpa using ho)
      rw [e2] at ht
      have := open_no (c := c) hr (by omega) (by omega) ht
      rwa [← hlen] at this
theorem openL_length (l : List UInt8) : (openL l).length ≤ l.length := by
  unfold openL
  split
  · simp
  · split <;> simp [front]
end Go.Proofs.YtfbbgoahipejlabDoor.W
