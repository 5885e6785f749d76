/- A register of four slots: New, Write, Read. -/
import Derived.Test.YthkpopphefolmaaDoorRMake
namespace Go.Proofs.YthkpopphefolmaaDoor.F4
open Go.RowKit Go.Proofs.YthkpopphefolmaaDoor.G Go.Proofs.YthkpopphefolmaaDoor.Cell
attribute [local go_sem ↓] Go.wp_at_zero Go.wp_at_succ
set_option maxRecDepth 100000
variable {w w' : World} {br bm gm rb tb pb qb : Nat} {wa : WA} {ra : RA} {s : St} {c : Int} {F : Nat → Prop} {x : Wr} {y : Rr}

/-! ### areWords -/
def allOk (l : List Int) : Bool := l.all okV
theorem whyC_one (v x : Int) : whyC [v] 0 x = if okV x then 0 else 3 := by
  unfold whyC
  rw [show inR [v] 0 1 = true from rfl]; simp
theorem swL_one (v x : Int) (h : okV x = true) : swL [v] 0 x = [x] := by
  unfold swL
  rw [show inR [v] 0 1 = true from rfl, h]; rfl
def InvA (w : World) (l : List Int) (bm gm : Nat) (i : Value) (V : World) : Prop := ∃ (k : Nat) (v cc : Int), i = .int .i64 k ∧ k ≤ l.length ∧ allOk (l.take k) = true ∧ MemAt V bm gm [v] cc ∧ 0 ≤ cc ∧ cc ≤ k ∧ Below w.heap.size w V
theorem allOk_step {l : List Int} {k : Nat} (hk : k < l.length) : allOk (l.take (k + 1)) = (allOk (l.take k) && okV (nth l k)) := by
  unfold allOk
  rw [List.take_succ_eq_append_getElem hk, List.all_append]
  simp [nth, hk]
theorem allOk_no {l : List Int} {k : Nat} (hk : k < l.length) (h : okV (nth l k) = false) : allOk l = false := by
  unfold allOk
  rw [List.all_eq_false]
  exact ⟨l[k], List.getElem_mem hk, by simpa [nth, hk] using h⟩
def BPost (b : Bool) (w : World) (e : Ending) (w' : World) : Prop := e = .returned (.bool b) ∧ Below w.heap.size w w'
set_option maxHeartbeats 1000000 in
theorem are_any {A : Option Addr} {cp : Nat} {l : List Int} (hE : Et w) (hr : Row w A (iv' l)) (hl : l.length ≤ 6) :
    Calls Tryd.prog 100 #[.slice A l.length cp] w (BPost (allOk l) w) := by
  have HR := Lib.hid hr
  have HE := Lib.hid hE
  clear hr hE
  go_enter Tryd.func100, Tryd.ntmps100
  go_wp2_with fail
  refine (Cell.new_any 1 _).mono ?_
  rintro e w1 ⟨rfl, hm1, hb1⟩
  have e3 : zs (clampN 1) = [0] := rfl
  rw [e3] at hm1
  obtain ⟨gm, hgm⟩ : ∃ g, w.heap.size = g := ⟨_, rfl⟩
  have HGM := Lib.hid hgm
  rw [hgm] at hm1 ⊢
  have HM1 := Lib.hid hm1
  have HB1 := Lib.hid hb1
  clear hm1 hb1 hgm
  go_wp2_with fail
  go_loopw [9] (fun i V => InvA w l (gm + 1) gm i V) (fun i _ => l.length - (intOf i).toNat)
  case atStart => exact ⟨0, 0, 0, rfl, by omega, rfl, HM1.out, by omega, by omega, HB1.out⟩
  case round =>
    obtain ⟨k, v, cc, rfl, hk, hall, hm, h0, h1, hb⟩ := hrel
    have HM := Lib.hid hm
    have HB := Lib.hid hb
    by_cases hlt : k < l.length
    · obtain ⟨b, o, rfl, hbs, hc⟩ := row_at (HR.out.below hb) hlt
      have hbd : nth l k ≤ 9223372036854775807 ∨ True := .inr trivial
      obtain ⟨z, hz⟩ : ∃ z, nth l k = z := ⟨_, rfl⟩
      have HZ := Lib.hid hz
      rw [hz] at hc
      have HWr := Lib.hid (Cell.write_any (hm) (HE.out.below hb HE.out.pos) (by simp) h0 (by omega) 0 z (by omega))
      rw [whyC_one] at HWr
      have HA := Lib.hid hall
      clear hm hb hz hbd hall
      by_cases hok : okV z = true
      · rw [if_pos hok, swL_one _ _ hok] at HWr
        have HOK := Lib.hid hok
        have sb := swN_bd [v] 0 z cc
        have HS := Lib.hid sb
        clear hok sb
        go_wp2_with (go_at_call 25; refine HWr.out.mono ?_; rintro e w5 ⟨rfl, hm5, hk5⟩)
        have HM5 := Lib.hid hm5
        have hgs := HGM.out
        have HB5 := Lib.hid (Below.keep HB.out hk5 HB.out.size (by omega) (by omega))
        clear hm5 hk5 hgs
        go_roundw
        case rel =>
          refine ⟨k + 1, z, _, by go_num, by omega, ?_, HM5.out, ?_, ?_, HB5.out⟩
          · rw [allOk_step hlt, HA.out, HZ.out, HOK.out]; rfl
          · have := HS.out; omega
          · have := HS.out; omega
        case measure => simp [intOf]; omega
      · have hok' : okV z = false := by simpa using hok
        rw [if_neg hok] at HWr
        have HOK := Lib.hid hok'
        clear hok hok'
        go_wp2_with (go_at_call 25; refine HWr.out.mono ?_; rintro e w5 ⟨rfl, hm5, hk5⟩)
        have hgs := HGM.out
        have HB5 := Lib.hid (Below.keep HB.out hk5 HB.out.size (by omega) (by omega))
        go_ret
        rw [allOk_no hlt (by rw [HZ.out]; exact HOK.out)]
        exact ⟨rfl, HB5.out⟩
    · obtain rfl : k = l.length := by omega
      rw [List.take_length] at hall
      have HA := Lib.hid hall
      clear hall hm hb
      go_wp2_with fail
      go_ret
      rw [HA.out]
      exact ⟨rfl, HB.out⟩
/-! ### New -/
def fW (n : Int) : Nat := (min (max n 1) 6).toNat
theorem fW_bd (n : Int) : 1 ≤ fW n ∧ fW n ≤ 6 := by unfold fW; omega
def wa0 : WA := ⟨0, 0, 0, 0, 0, 0, 0, 0, fun _ => 0, fun _ => 0⟩
def ra0 : RA := ⟨0, 0, 0, 0, 0, 0, 0, 0, 0, 0, fun _ => 0⟩
def NPost (n : Int) (w : World) (e : Ending) (w' : World) : Prop := ∃ br bm gm, e = .returned (P br) ∧ Reg w' br bm gm wa0 ra0 (s0 (fW n)) 0 (fun b => w.heap.size ≤ b) ∧ Below w.heap.size w w'
theorem new_reg {w1 : World} {k : Nat} {g : Nat} (hg : w.heap.size = g) (hm : MemAt w1 (g + 1) g (zs (4 + 4 * k)) 0) (hb : Below w.heap.size w w1) {V : World} (hV : V = w1.alloc (.cells #[.int .i64 (k : Int), P (g + 1), .pointer none, .pointer none] 153)) :
    Reg V w1.heap.size (g + 1) g wa0 ra0 (s0 k) 0 (fun b => w.heap.size ≤ b) ∧ Below w.heap.size w V := by
  subst hV
  subst hg
  have h1 := hm.head.lt
  have h2 := hb.size
  refine ⟨⟨Blk.new _ _ _, ⟨hm.head.alloc _, hm.words.alloc _⟩, by omega, by show w.heap.size ≤ _ ∧ w.heap.size ≤ _ ∧ w.heap.size ≤ _; omega, fun x e => (by cases e), fun e => absurd rfl e, fun y e => (by cases e), fun e => absurd rfl e, fun e => absurd rfl e⟩, ba1 hb _⟩
theorem new_any (n : Int) (hn : n ≤ 9223372036854775807) : Calls Tryd.prog 50 #[.int .i64 n] w (NPost n w) := by
  have key : ∀ k : Nat, 1 ≤ k → k ≤ 6 → ∀ j : Int, j = ((4 + 4 * k : Nat) : Int) → Calls Tryd.prog 18 #[.int .i64 j] w fun e w1 => e = .returned (.pointer (some ⟨w.heap.size + 1, 0, none⟩)) ∧ MemAt w1 (w.heap.size + 1) w.heap.size (zs (4 + 4 * k)) 0 ∧ Below w.heap.size w w1 := fun k k1 k6 j hj => by
    have := Cell.new_any j w
    rwa [show clampN j = 4 + 4 * k by unfold clampN; omega] at this
  have KEY := Lib.hid key
  clear key
  obtain ⟨g, hg⟩ : ∃ g, w.heap.size = g := ⟨_, rfl⟩
  have HG := Lib.hid hg
  rw [hg] at KEY
  clear hg
  by_cases h1 : n < 1
  · have HF : Hid (fW n = 1) := by show fW n = 1; unfold fW; omega
    go_enter Tryd.func50, Tryd.ntmps50
    go_wp2_with (go_at_call 18; refine (KEY.out 1 (by omega) (by omega) _ (by omega)).mono ?_; rintro e w1 ⟨rfl, hm, hb⟩)
    have HM := Lib.hid (And.intro hm hb)
    go_ret
    refine ⟨w1.heap.size, g + 1, g, rfl, ?_⟩
    rw [HF.out]
    exact new_reg HG.out HM.out.1 (by rw [HG.out]; exact HM.out.2) rfl
  · by_cases h6 : 6 < n
    · have HF : Hid (fW n = 6) := by show fW n = 6; unfold fW; omega
      go_enter Tryd.func50, Tryd.ntmps50
      go_wp2_with (go_at_call 18; refine (KEY.out 6 (by omega) (by omega) _ (by omega)).mono ?_; rintro e w1 ⟨rfl, hm, hb⟩)
      have HM := Lib.hid (And.intro hm hb)
      go_ret
      refine ⟨w1.heap.size, g + 1, g, rfl, ?_⟩
      rw [HF.out]
      exact new_reg HG.out HM.out.1 (by rw [HG.out]; exact HM.out.2) rfl
    · obtain ⟨k, rfl⟩ := Int.eq_ofNat_of_zero_le (show 0 ≤ n by omega)
      have HF : Hid (fW (k : Int) = k) := by show fW (k : Int) = k; unfold fW; omega
      go_enter Tryd.func50, Tryd.ntmps50
      go_wp2_with (go_at_call 18; refine (KEY.out k (by omega) (by omega) _ (by omega)).mono ?_; rintro e w1 ⟨rfl, hm, hb⟩)
      have HM := Lib.hid (And.intro hm hb)
      go_ret
      refine ⟨w1.heap.size, g + 1, g, rfl, ?_⟩
      rw [HF.out]
      exact new_reg HG.out HM.out.1 (by rw [HG.out]; exact HM.out.2) rfl
end Go.Proofs.YthkpopphefolmaaDoor.F4
