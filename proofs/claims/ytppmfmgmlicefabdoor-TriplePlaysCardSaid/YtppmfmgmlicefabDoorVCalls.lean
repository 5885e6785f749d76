/- A register of three slots: New, Write, Read. -/
import Derived.Test.YtppmfmgmlicefabDoorVStep3
namespace Go.Proofs.YtppmfmgmlicefabDoor.T3
open Go.RowKit Go.Proofs.YtppmfmgmlicefabDoor.G Go.Proofs.YtppmfmgmlicefabDoor.Cell
attribute [local go_sem ↓] Go.wp_at_zero Go.wp_at_succ
set_option maxRecDepth 100000
variable {w w' : World} {br bm gm : Nat} {wa : WA} {ra : RA} {s : St} {c : Int} {F : Nat → Prop} {x : Wr} {y : Rr}

/-! ### Which words may be -/
theorem isno_any (v : Int) (w : World) : Calls Tryd.prog 77 #[.int .i64 v] w (BoolPost (!okV v) w) := by
  by_cases h0 : v < 0
  · have e : okV v = false := decide_eq_false (by omega)
    rw [e]
    clear e
    go_enter Tryd.func77, Tryd.ntmps77
    go_wp2
    go_ret
    exact ⟨rfl, rfl⟩
  · by_cases h1 : 2147483647 < v
    · have e : okV v = false := decide_eq_false (by omega)
      rw [e]
      clear e
      go_enter Tryd.func77, Tryd.ntmps77
      go_wp2
      go_ret
      exact ⟨rfl, rfl⟩
    · have e : okV v = true := okV_mk (by omega) (by omega)
      rw [e]
      clear e
      go_enter Tryd.func77, Tryd.ntmps77
      go_wp2
      go_ret
      exact ⟨rfl, rfl⟩
def InvI (w : World) (l : List Int) (i : Value) (V : World) : Prop := ∃ k : Nat, i = .int .i64 k ∧ k ≤ l.length ∧ allOk (l.take k) = true ∧ w = V
def IdxPost (l : List Int) (w : World) (e : Ending) (w' : World) : Prop := ∃ z : Int, e = .returned (.int .i64 z) ∧ -1 ≤ z ∧ decide (0 ≤ z) = (!allOk l) ∧ w = w'
theorem idx_any {A : Option Addr} {cp : Nat} {l : List Int} (hr : Row w A (iv' l)) (hl : l.length ≤ 1000) :
    Calls Tryd.prog 104 #[.slice A l.length cp, .func (.func 77) #[] #[]] w (IdxPost l w) := by
  have HR := Lib.hid hr
  clear hr
  go_enter Tryd.func104, Tryd.ntmps104
  go_wp2_with fail
  go_loopw [8] (fun i V => InvI w l i V) (fun i _ => l.length - (intOf i).toNat)
  case atStart => exact ⟨0, rfl, by omega, rfl, rfl⟩
  case round =>
    obtain ⟨k, rfl, hk, hall, rfl⟩ := hrel
    have HA := Lib.hid hall
    clear hall
    by_cases hlt : k < l.length
    · obtain ⟨b, o, rfl, hbs, hc⟩ := row_at HR.out hlt
      obtain ⟨z, hz⟩ : ∃ z, nth l k = z := ⟨_, rfl⟩
      have HZ := Lib.hid hz
      rw [hz] at hc
      clear hz
      have HI := Lib.hid (isno_any z w)
      cases hok : okV z with
      | true =>
        rw [hok] at HI
        have HOK := Lib.hid hok
        clear hok
        go_wp2_with (go_at_call 77; refine HI.out.mono ?_; rintro e w5 ⟨rfl, rfl⟩)
        go_roundw
        case rel => exact ⟨k + 1, by go_num, by omega, by rw [allOk_step hlt, HA.out, HZ.out, HOK.out]; rfl, rfl⟩
        case measure => simp [intOf]; omega
      | false =>
        rw [hok] at HI
        have HOK := Lib.hid hok
        clear hok
        go_wp2_with (go_at_call 77; refine HI.out.mono ?_; rintro e w5 ⟨rfl, rfl⟩)
        go_ret
        exact ⟨(k : Int), rfl, by omega, by rw [allOk_no hlt (by rw [HZ.out]; exact HOK.out)]; simp, rfl⟩
    · obtain rfl : k = l.length := by omega
      go_wp2_with fail
      go_ret
      exact ⟨-1, rfl, by omega, by have := HA.out; rw [List.take_length] at this; rw [this]; rfl, rfl⟩
theorem has_any {A : Option Addr} {cp : Nat} {l : List Int} (hr : Row w A (iv' l)) (hl : l.length ≤ 1000) :
    Calls Tryd.prog 76 #[.slice A l.length cp, .func (.func 77) #[] #[]] w (BoolPost (!allOk l) w) := by
  have HI := Lib.hid (idx_any (cp := cp) hr hl)
  clear hr
  go_enter Tryd.func76, Tryd.ntmps76
  go_wp2_with (go_at_call 104; refine HI.out.mono ?_; rintro e w5 ⟨z, rfl, hz0, hz, rfl⟩)
  go_ret
  exact ⟨by rw [← hz]; rfl, rfl⟩
/-! ### A list's copy -/
theorem clone2_any {A : Option Addr} {cp : Nat} {l : List Int} (hr : Row w A (iv' l)) (h1 : 1 ≤ l.length) (hl : l.length ≤ 4096) :
    Calls Tryd.prog 78 #[.slice A l.length cp] w fun e w' => ∃ g cap, e = .returned (.slice (some ⟨g, 0, none⟩) l.length cap) ∧ Lw w' g l.length l ∧ w.heap.size ≤ g ∧ l.length ≤ cap ∧ cap ≤ 9223372036854775807 ∧ Below w.heap.size w w' := by
  obtain ⟨i0, hi, hz0, hz1, hz2⟩ := info_parts info3
  have q := fun (w : World) (a : Option Addr) (n c n' c' : Nat) => Lib.run_eql_slice_nil (P := Tryd.prog) w 27 3 a n c n' c' Tryd.underlying27
  obtain ⟨b, o, rfl, hbs, hc⟩ := hr (by simp [iv']; omega)
  have HR := Lib.hid (hr.alloc (.cells #[] 3)); clear hr hc
  go_enter Tryd.func78, Tryd.ntmps78
  go_wp2_with (at_builtin; refine wpList_append_own _ rfl _ _ 27 rfl w.heap.size 3 i0 (.int .i64 0) 1 8 Tryd.underlying27 hi hz0 hz1 hz2 rfl (by decide) _ _ _ rfl (World.ownsRow_made w #[] 0 (Nat.le_refl _) (Nat.zero_le _) rfl) ⟨b, o, none⟩ l.length cp (l.map (Value.int .i64)) rfl ?qc1 ?qc2 ?qc3 ?qc4 ?qc5 ?qc6 ?_)
  case qc1 => simp
  case qc2 => exact HR.out.news
  case qc3 => exact ints_one l
  case qc4 => unfold maxLen; omega
  case qc5 => omega
  case qc6 => simp
  intro v' w1 hown hgrow hnil
  clear hnil
  go_wp2
  go_ret
  have ho : Own w1 w.heap.size 3 1 v' l.length (l.map (Value.int .i64)) := by unfold Own; simpa using hown
  obtain ⟨A', c', rfl, hrow, hc1, hc2, hb'⟩ := ho.row
  obtain ⟨g, o', rfl, hgs, hcell⟩ := hrow (by simp; omega)
  obtain ⟨rfl, hB, cur, hcur⟩ := hb' g o' rfl
  refine ⟨g, c', rfl, ⟨cur, hcur, fun j hj => ?_⟩, hB, hc1, by unfold maxLen at hc2; omega, ?_⟩
  · rw [← hcur.cell j]
    have := hcell j (.int .i64 (nth l j)) (iv'_at l hj)
    rwa [Nat.zero_add] at this
  · exact ((Below.refl _ w).alloc (Nat.le_refl _) _).grown hgrow (by simp) (by intro k hk; simp [Value.ownBlock] at hk; omega)
/-! ### New -/
def wa0 : WA := ⟨0, 0, 0⟩
def ra0 : RA := ⟨0, 0⟩
def NPost (n : Int) (w : World) (e : Ending) (w' : World) : Prop := ∃ br bm gm, e = .returned (P br) ∧ Reg w' br bm gm wa0 ra0 (s0 (fW n)) 0 (fun b => w.heap.size ≤ b) ∧ Below w.heap.size w w'
theorem new_reg {w1 : World} {k : Nat} {g : Nat} (hg : w.heap.size = g) (hm : MemAt w1 (g + 1) g (zs (1 + 3 * k)) 0) (hb : Below w.heap.size w w1) {V : World} (hV : V = w1.alloc (.cells #[.int .i64 (k : Int), P (g + 1), .int .i64 1, .int .i64 2, .pointer none, .pointer none] 109)) :
    Reg V w1.heap.size (g + 1) g wa0 ra0 (s0 k) 0 (fun b => w.heap.size ≤ b) ∧ Below w.heap.size w V := by
  subst hV
  subst hg
  have h1 := hm.head.lt
  have h2 := hb.size
  refine ⟨⟨Blk.new _ _ _, ⟨hm.head.alloc _, hm.words.alloc _⟩, by show w.heap.size ≤ _ ∧ w.heap.size ≤ _ ∧ w.heap.size ≤ _; omega, fun x e => (by cases e), fun e => absurd rfl e, fun y e => (by cases e), fun e => absurd rfl e, fun e => absurd rfl e⟩, ba1 hb _⟩
theorem new_any (n : Int) (hn : n ≤ 9223372036854775807) : Calls Tryd.prog 27 #[.int .i64 n] w (NPost n w) := by
  have key : ∀ k : Nat, 1 ≤ k → k ≤ 6 → ∀ j : Int, j = ((1 + 3 * k : Nat) : Int) → Calls Tryd.prog 67 #[.int .i64 j] w fun e w1 => e = .returned (.pointer (some ⟨w.heap.size + 1, 0, none⟩)) ∧ MemAt w1 (w.heap.size + 1) w.heap.size (zs (1 + 3 * k)) 0 ∧ Below w.heap.size w w1 := fun k k1 k6 j hj => by
    have := Cell.new_any j w
    rwa [show clampN j = 1 + 3 * k by unfold clampN; omega] at this
  have KEY := Lib.hid key
  clear key
  obtain ⟨g, hg⟩ : ∃ g, w.heap.size = g := ⟨_, rfl⟩
  have HG := Lib.hid hg
  rw [hg] at KEY
  clear hg
  by_cases h1 : n < 1
  · have HF : Hid (fW n = 1) := by show fW n = 1; unfold fW; omega
    go_enter Tryd.func27, Tryd.ntmps27
    go_wp2_with (go_at_call 67; refine (KEY.out 1 (by omega) (by omega) _ (by omega)).mono ?_; rintro e w1 ⟨rfl, hm, hb⟩)
    have HM := Lib.hid (And.intro hm hb)
    go_ret
    refine ⟨w1.heap.size, g + 1, g, rfl, ?_⟩
    rw [HF.out]
    exact new_reg HG.out HM.out.1 (by rw [HG.out]; exact HM.out.2) rfl
  · by_cases h6 : 6 < n
    · have HF : Hid (fW n = 6) := by show fW n = 6; unfold fW; omega
      go_enter Tryd.func27, Tryd.ntmps27
      go_wp2_with (go_at_call 67; refine (KEY.out 6 (by omega) (by omega) _ (by omega)).mono ?_; rintro e w1 ⟨rfl, hm, hb⟩)
      have HM := Lib.hid (And.intro hm hb)
      go_ret
      refine ⟨w1.heap.size, g + 1, g, rfl, ?_⟩
      rw [HF.out]
      exact new_reg HG.out HM.out.1 (by rw [HG.out]; exact HM.out.2) rfl
    · obtain ⟨k, rfl⟩ := Int.eq_ofNat_of_zero_le (show 0 ≤ n by omega)
      have HF : Hid (fW (k : Int) = k) := by show fW (k : Int) = k; unfold fW; omega
      go_enter Tryd.func27, Tryd.ntmps27
      go_wp2_with (go_at_call 67; refine (KEY.out k (by omega) (by omega) _ (by omega)).mono ?_; rintro e w1 ⟨rfl, hm, hb⟩)
      have HM := Lib.hid (And.intro hm hb)
      go_ret
      refine ⟨w1.heap.size, g + 1, g, rfl, ?_⟩
      rw [HF.out]
      exact new_reg HG.out HM.out.1 (by rw [HG.out]; exact HM.out.2) rfl
end Go.Proofs.YtppmfmgmlicefabDoor.T3
