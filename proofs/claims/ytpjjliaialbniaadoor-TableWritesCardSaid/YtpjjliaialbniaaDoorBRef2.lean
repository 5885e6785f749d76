/- The document's own Sum, Seal, Open: contracts against the same plain functions as the program's calls. -/
import Derived.Test.YtpjjliaialbniaaDoorBRef
namespace Go.Proofs.YtpjjliaialbniaaDoor.W
open Go.RowKit Go.Proofs.YtpjjliaialbniaaDoor.G

theorem rsum_any {w : World} {A : Option Addr} {c : Nat} {l : List UInt8} (hr : Rd w A l) (hl : l.length ≤ 4096) :
    Calls Tryd.prog 24 #[.slice A l.length c] w fun e w' => e = .returned (.int .i64 (sum l)) ∧ w = w' := by
  have HR := Lib.hid hr; clear hr
  go_enter Tryd.func24, Tryd.ntmps24
  go_wp2
  go_loop [3, 4] (fun s i => ∃ k : Nat, k ≤ l.length ∧ i = .int .i64 k ∧ s = .int .i64 (su l k)) (fun _ i => l.length - (intOf i).toNat)
  case atStart => exact ⟨0, by omega, rfl, rfl⟩
  case round =>
    obtain ⟨k, hk, rfl, rfl⟩ := hrel
    have hb := su_bd l k
    by_cases hlt : k < l.length
    · obtain ⟨b, o, rfl, _, hc⟩ := HR.out.at_ hlt
      have hn := nth_bd l k
      have HS : Hid (su l (k + 1) = (su l k + nth l k) % 65536) := rfl
      go_wp2
      go_round
      case rel => exact ⟨k + 1, by omega, by go_num, by rw [HS.out]⟩
      case measure => simp [intOf]; omega
    · have HK : Hid (k = l.length) := by show k = l.length; omega
      go_wp2
      go_ret
      exact ⟨by unfold sum; rw [← HK.out]; rfl, rfl⟩
def RSealPost (w : World) (l : List UInt8) (e : Ending) (w' : World) : Prop := ∃ x, e = .returned x ∧ Sl w' x l ∧ Below w.heap.size w w'
theorem put_seal (l : List UInt8) : putL l 2 (sum l) = sealL l := by
  have h : inN 2 (sum l) = true := decide_eq_true (sum_bd l)
  unfold putL sealL
  rw [if_pos (show sz 2 = true from rfl), if_pos h]
theorem rseal_any {w : World} {A : Option Addr} {c : Nat} {l : List UInt8} (hr : Rd w A l) (hl : l.length ≤ 2048) (hc : l.length ≤ c) (hc1 : c ≤ 9223372036854775807) :
    Calls Tryd.prog 10 #[.slice A l.length c] w (RSealPost w (sealL l)) := by
  have HP := Lib.hid (put_seal l)
  go_enter Tryd.func10, Tryd.ntmps10
  go_wp2_with (first
    | (go_at_call 24; refine (rsum_any hr (by omega)).mono ?_; rintro e w' ⟨rfl, rfl⟩)
    | (go_at_call 23; refine (rput_any hr hl hc hc1 2 (sum l)).mono ?_; rintro e w1 ⟨x1, rfl, hx1, hb1⟩; have HX1 := Lib.hid hx1; clear hx1))
  go_ret
  exact ⟨x1, rfl, by rw [← HP.out]; exact HX1.out, hb1⟩
theorem ropen_short {w : World} {A : Option Addr} {n c : Nat} (hn : n < 2) :
    Calls Tryd.prog 29 #[.slice A n c] w fun e w' => e = .returned (.tuple #[.slice none 0 0, .int .i64 9]) ∧ w = w' := by
  go_enter Tryd.func29, Tryd.ntmps29
  go_wp2
  go_ret2
  exact ⟨rfl, rfl⟩
theorem Sl.nil_ (w : World) : Sl w (.slice none 0 0) [] := ⟨none, 0, rfl, by simp, by omega, Rd.none_⟩
set_option maxRecDepth 100000 in
theorem ropen_yes {w : World} {A : Option Addr} {c : Nat} {l p : List UInt8} (hr : Rd w A l) (hpl : l.length = p.length + 2) (hp : Rd w A p) (hl : p.length ≤ 2048) (hc : p.length + 2 ≤ c) (hc1 : c ≤ 9223372036854775807) (ht : (sealL p == l) = true) :
    Calls Tryd.prog 29 #[.slice A (p.length + 2) c] w (RefPost w p 0) := by
  have f1 : (0 : Int) ≤ p.length := by omega
  have f2 : (p.length : Int) ≤ p.length + 2 := by omega
  have f3 : (p.length : Int) + 2 ≤ c := by omega
  have f4 : (p.length : Int) ≤ c := by omega
  have cv : ∀ W : World, Below w.heap.size w W → (convert 29 9 (.slice A (p.length + 2) c)).run Tryd.prog W = .ok (.string ⟨l.toArray⟩) W := fun W h => by
    rw [← hpl]; exact conv_any (hr.below h) c
  have CV := Lib.hid cv
  have CS : Hid (∀ (W : World) (_ : Below w.heap.size w W), Calls Tryd.prog 10 #[.slice A p.length c] W (RSealPost W (sealL p))) := fun W h => rseal_any (hp.below h) hl (by omega) hc1
  have hS0 : Below w.heap.size w w := Below.refl _ _
  have hcv0 := cv _ hS0.drew
  have HP := Lib.hid hp
  clear cv hpl hr hp
  go_enter Tryd.func29, Tryd.ntmps29
  go_wp2_with fail
  go_region_with (first
     | (go_at_call 10; (with_reducible refine (CS.out _ hS0.drew).mono ?_); rintro e w1 ⟨x1, rfl, hx1, g1⟩; have hS1 := bt (w := w) hS0.drew g1; have hcv1 := CV.out _ hS1; have hcx : (convert 29 9 x1).run Tryd.prog w1 = .ok (.string ⟨(sealL p).toArray⟩) w1 := hx1.conv; clear hx1))
  all_goals
    go_wp2
    go_ret2
    exact ⟨_, rfl, ⟨A, c, rfl, by omega, hc1, HP.out.below hS1⟩, hS1⟩
set_option maxRecDepth 100000 in
theorem ropen_no {w : World} {A : Option Addr} {c : Nat} {l p : List UInt8} (hr : Rd w A l) (hpl : l.length = p.length + 2) (hp : Rd w A p) (hl : p.length ≤ 2048) (hc : p.length + 2 ≤ c) (hc1 : c ≤ 9223372036854775807) (ht : (sealL p == l) = false) :
    Calls Tryd.prog 29 #[.slice A (p.length + 2) c] w (RefPost w [] 8) := by
  have f1 : (0 : Int) ≤ p.length := by omega
  have f2 : (p.length : Int) ≤ p.length + 2 := by omega
  have f3 : (p.length : Int) + 2 ≤ c := by omega
  have f4 : (p.length : Int) ≤ c := by omega
  have cv : ∀ W : World, Below w.heap.size w W → (convert 29 9 (.slice A (p.length + 2) c)).run Tryd.prog W = .ok (.string ⟨l.toArray⟩) W := fun W h => by
    rw [← hpl]; exact conv_any (hr.below h) c
  have CV := Lib.hid cv
  have CS : Hid (∀ (W : World) (_ : Below w.heap.size w W), Calls Tryd.prog 10 #[.slice A p.length c] W (RSealPost W (sealL p))) := fun W h => rseal_any (hp.below h) hl (by omega) hc1
  have hS0 : Below w.heap.size w w := Below.refl _ _
  have hcv0 := cv _ hS0.drew
  clear cv hpl hr hp
  go_enter Tryd.func29, Tryd.ntmps29
  go_wp2_with fail
  go_region_with (first
     | (go_at_call 10; (with_reducible refine (CS.out _ hS0.drew).mono ?_); rintro e w1 ⟨x1, rfl, hx1, g1⟩; have hS1 := bt (w := w) hS0.drew g1; have hcv1 := CV.out _ hS1; have hcx : (convert 29 9 x1).run Tryd.prog w1 = .ok (.string ⟨(sealL p).toArray⟩) w1 := hx1.conv; clear hx1))
  all_goals
    go_wp2
    go_ret2
    exact ⟨_, rfl, Sl.nil_ _, hS1⟩
theorem seal_eq (p : List UInt8) (x y : UInt8) : (sealL p == p ++ [x, y]) = openB (p ++ [x, y]) := by
  obtain ⟨h, l, e, hs⟩ := seal_two p
  rw [openB_two, e, ← hs]
  have hx := x.toNat_lt
  have hy := y.toNat_lt
  have hh := h.toNat_lt
  have hl := l.toNat_lt
  rw [Bool.eq_iff_iff]
  simp only [beq_iff_eq, List.append_cancel_left_eq, List.cons.injEq, and_true, decide_eq_true_eq]
  constructor
  · rintro ⟨rfl, rfl⟩; rfl
  · intro he
    exact ⟨UInt8.toNat_inj.1 (by omega), UInt8.toNat_inj.1 (by omega)⟩
theorem ropen_any {w : World} {A : Option Addr} {c : Nat} {l : List UInt8} (hr : Rd w A l) (hl : l.length ≤ 2048) (hc : l.length ≤ c) (hc1 : c ≤ 9223372036854775807) :
    Calls Tryd.prog 29 #[.slice A l.length c] w (RefPost w (openL l) (openE l)) := by
  unfold openL openE
  by_cases h : l.length < 2
  · simp only [if_pos h]
    exact (ropen_short h).mono fun e w' ⟨he, hw⟩ => by
      subst hw; exact ⟨_, he, Sl.nil_ _, Below.refl _ _⟩
  · simp only [if_neg h]
    obtain ⟨x, y, e1, e2⟩ := two_back (l := l) (by omega)
    have hlen : l.length = (front l).length + 2 := by simp [front]; omega
    have hp : Rd w A (front l) := hr.take _
    have ht : (sealL (front l) == l) = openB l := by
      have := seal_eq (front l) x y
      rwa [← e1] at this
    by_cases ho : openB l = true
    · simp only [if_pos ho]
      rw [ho] at ht
      have := ropen_yes (c := c) hr hlen hp (by omega) (by omega) hc1 ht
      rwa [← hlen] at this
    · simp only [if_neg ho]
      rw [show openB l = false by simpa using ho] at ht
      have := ropen_no (c := c) hr hlen hp (by omega) (by omega) hc1 ht
      rwa [← hlen] at this
end Go.Proofs.YtpjjliaialbniaaDoor.W
