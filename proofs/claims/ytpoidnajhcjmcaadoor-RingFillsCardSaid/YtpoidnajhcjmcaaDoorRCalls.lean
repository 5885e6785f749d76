/- A ring: New, Push, Pop, Drop, Busy, Reset, Count, Places, Words, Cells. -/
import Derived.Test.YtpoidnajhcjmcaaDoorRStep
import Derived.Test.YtpoidnajhcjmcaaDoorCRs
namespace Go.Proofs.YtpoidnajhcjmcaaDoor.R8
open Go.RowKit Go.Proofs.YtpoidnajhcjmcaaDoor.G Go.Proofs.YtpoidnajhcjmcaaDoor.Cell Go.Proofs.YtpoidnajhcjmcaaDoor.Ob
set_option maxRecDepth 100000
variable {w w' : World} {br bm gm D W : Nat} {u o : Sv} {m : List Int} {c : Int}

/-! ### Which words may be -/
theorem isno_any (v : Int) (w : World) : Calls Tryd.prog 88 #[.int .i64 v] w (BoolPost (!okV v) w) := by
  by_cases h0 : v < 0
  · have e : okV v = false := decide_eq_false (by omega)
    rw [e]
    clear e
    go_enter Tryd.func88, Tryd.ntmps88
    go_wp2
    go_ret
    exact ⟨rfl, rfl⟩
  · by_cases h1 : 2147483647 < v
    · have e : okV v = false := decide_eq_false (by omega)
      rw [e]
      clear e
      go_enter Tryd.func88, Tryd.ntmps88
      go_wp2
      go_ret
      exact ⟨rfl, rfl⟩
    · have e : okV v = true := okV_mk (by omega) (by omega)
      rw [e]
      clear e
      go_enter Tryd.func88, Tryd.ntmps88
      go_wp2
      go_ret
      exact ⟨rfl, rfl⟩
def InvI (w : World) (l : List Int) (i : Value) (V : World) : Prop := ∃ k : Nat, i = .int .i64 k ∧ k ≤ l.length ∧ allOk (l.take k) = true ∧ w = V
def IdxPost (l : List Int) (w : World) (e : Ending) (w' : World) : Prop := ∃ z : Int, e = .returned (.int .i64 z) ∧ -1 ≤ z ∧ decide (0 ≤ z) = (!allOk l) ∧ w = w'
theorem idx_any {A : Option Addr} {cp : Nat} {l : List Int} (hr : Row w A (iv' l)) (hl : l.length ≤ 1000) :
    Calls Tryd.prog 111 #[.slice A l.length cp, .func (.func 88) #[] #[]] w (IdxPost l w) := by
  have HR := Lib.hid hr
  clear hr
  go_enter Tryd.func111, Tryd.ntmps111
  go_wp2_with fail
  go_loopw [8] (fun i V => InvI w l i V) (fun i _ => l.length - (intOf i).toNat)
  case atStart => exact ⟨0, rfl, by omega, rfl, rfl⟩
  case round =>
    obtain ⟨k, rfl, hk, hall, rfl⟩ := hrel
    have HA := Lib.hid hall
    clear hall
    by_cases hlt : k < l.length
    · obtain ⟨b, o, rfl, hbs, hc⟩ := row_at HR.out hlt
      obtain ⟨z, hz⟩ : ∃ z, nth l k = z := ⟨_, rfl⟩
      have HZ := Lib.hid hz
      rw [hz] at hc
      clear hz
      have HI := Lib.hid (isno_any z w)
      cases hok : okV z with
      | true =>
        rw [hok] at HI
        have HOK := Lib.hid hok
        clear hok
        go_wp2_with (go_at_call 88; refine HI.out.mono ?_; rintro e w5 ⟨rfl, rfl⟩)
        go_roundw
        case rel => exact ⟨k + 1, by go_num, by omega, by rw [allOk_step hlt, HA.out, HZ.out, HOK.out]; rfl, rfl⟩
        case measure => simp [intOf]; omega
      | false =>
        rw [hok] at HI
        have HOK := Lib.hid hok
        clear hok
        go_wp2_with (go_at_call 88; refine HI.out.mono ?_; rintro e w5 ⟨rfl, rfl⟩)
        go_ret
        exact ⟨(k : Int), rfl, by omega, by rw [allOk_no hlt (by rw [HZ.out]; exact HOK.out)]; simp, rfl⟩
    · obtain rfl : k = l.length := by omega
      go_wp2_with fail
      go_ret
      exact ⟨-1, rfl, by omega, by have := HA.out; rw [List.take_length] at this; rw [this]; rfl, rfl⟩
theorem has_any {A : Option Addr} {cp : Nat} {l : List Int} (hr : Row w A (iv' l)) (hl : l.length ≤ 1000) :
    Calls Tryd.prog 83 #[.slice A l.length cp, .func (.func 88) #[] #[]] w (BoolPost (!allOk l) w) := by
  have HI := Lib.hid (idx_any (cp := cp) hr hl)
  clear hr
  go_enter Tryd.func83, Tryd.ntmps83
  go_wp2_with (go_at_call 111; refine HI.out.mono ?_; rintro e w5 ⟨z, rfl, hz0, hz, rfl⟩)
  go_ret
  exact ⟨by rw [← hz]; rfl, rfl⟩
/-! ### A list's copy -/
theorem clone2_any {A : Option Addr} {cp : Nat} {l : List Int} (hr : Row w A (iv' l)) (h1 : 1 ≤ l.length) (hl : l.length ≤ 4096) :
    Calls Tryd.prog 85 #[.slice A l.length cp] w fun e w' => ∃ A' c', e = .returned (.slice A' l.length c') ∧ LF w' (fun g => w.heap.size ≤ g) (.slice A' l.length c') l ∧ Below w.heap.size w w' := by
  obtain ⟨i0, hi, hz0, hz1, hz2⟩ := info_parts info3
  have q := fun (w : World) (a : Option Addr) (n c n' c' : Nat) => Lib.run_eql_slice_nil (P := Tryd.prog) w 27 3 a n c n' c' Tryd.underlying27
  obtain ⟨b, o, rfl, hbs, hc⟩ := hr (by simp [iv']; omega)
  have HR := Lib.hid (hr.alloc (.cells #[] 3)); clear hr hc
  go_enter Tryd.func85, Tryd.ntmps85
  go_wp2_with (at_builtin; refine wpList_append_own _ rfl _ _ 27 rfl w.heap.size 3 i0 (.int .i64 0) 1 8 Tryd.underlying27 hi hz0 hz1 hz2 rfl (by decide) _ _ _ rfl (World.ownsRow_made w #[] 0 (Nat.le_refl _) (Nat.zero_le _) rfl) ⟨b, o, none⟩ l.length cp (l.map (Value.int .i64)) rfl ?qc1 ?qc2 ?qc3 ?qc4 ?qc5 ?qc6 ?_)
  case qc1 => simp
  case qc2 => exact HR.out.news
  case qc3 => exact ints_one l
  case qc4 => unfold maxLen; omega
  case qc5 => omega
  case qc6 => simp
  intro v' w1 hown hgrow hnil
  clear hnil
  go_wp2
  go_ret
  have ho : Own w1 w.heap.size 3 1 v' l.length (l.map (Value.int .i64)) := by unfold Own; simpa using hown
  obtain ⟨A', c', rfl, _⟩ := ho.row
  exact ⟨A', c', rfl, LF.of_own ho rfl (fun g hg => hg), ((Below.refl _ w).alloc (Nat.le_refl _) _).grown hgrow (by simp) (by intro k hk; simp [Value.ownBlock] at hk; omega)⟩
/-! ### New -/
def NPost (p n : Int) (w : World) (e : Ending) (w' : World) : Prop := ∃ br bm gm, e = .returned (P br) ∧ Reg w' br bm gm zS zS (s0 (fD p) (fW n)) 0 (fun b => w.heap.size ≤ b) ∧ Below w.heap.size w w'
theorem new_reg {w1 V : World} {d k g : Nat} (hg : w.heap.size = g) (hm : MemAt w1 (g + 1) g (zs (2 + d * k)) 0) (hb : Below w.heap.size w w1) (hV : V = w1.alloc (.cells #[.int .i64 (d : Int), .int .i64 (k : Int), P (g + 1), .nilFunc, .int .i64 0, .int .i64 0, .slice none 0 0, .slice none 0 0, .nilFunc, .int .i64 0, .int .i64 0, .slice none 0 0, .slice none 0 0] 132)) :
    Reg V w1.heap.size (g + 1) g zS zS (s0 d k) 0 (fun b => w.heap.size ≤ b) ∧ Below w.heap.size w V := by
  subst hV
  subst hg
  have h1 := hm.head.lt
  have h2 := hb.size
  exact ⟨⟨Blk.new _ _ _, ⟨hm.head.alloc _, hm.words.alloc _⟩, by show w.heap.size ≤ _ ∧ w.heap.size ≤ _ ∧ w.heap.size ≤ _; omega, rfl, rfl⟩, ba1 hb _⟩
theorem new_any (p n : Int) (hp : p ≤ 9223372036854775807) (hn : n ≤ 9223372036854775807) : Calls Tryd.prog 51 #[.int .i64 p, .int .i64 n] w (NPost p n w) := by
  have key : ∀ d k : Nat, 1 ≤ d → d ≤ 8 → 1 ≤ k → k ≤ 6 → ∀ j : Int, j = ((2 + d * k : Nat) : Int) → Calls Tryd.prog 74 #[.int .i64 j] w fun e w1 => e = .returned (.pointer (some ⟨w.heap.size + 1, 0, none⟩)) ∧ MemAt w1 (w.heap.size + 1) w.heap.size (zs (2 + d * k)) 0 ∧ Below w.heap.size w w1 := fun d k d1 d8 k1 k6 j hj => by
    have := Cell.new_any j w
    have hdk : d * k ≤ 8 * 6 := Nat.mul_le_mul d8 k6
    rwa [show clampN j = 2 + d * k by unfold clampN; omega] at this
  have KEY := Lib.hid key
  clear key
  obtain ⟨g, hg⟩ : ∃ g, w.heap.size = g := ⟨_, rfl⟩
  have HG := Lib.hid hg
  rw [hg] at KEY
  clear hg
  obtain ⟨d, hd⟩ : ∃ d, fD p = d := ⟨_, rfl⟩
  obtain ⟨k, hk⟩ : ∃ k, fW n = k := ⟨_, rfl⟩
  have d1 : 1 ≤ d ∧ d ≤ 8 := by rw [← hd]; exact fD_bd p
  have k1 : 1 ≤ k ∧ k ≤ 6 := by rw [← hk]; exact fW_bd n
  have HD := Lib.hid hd
  have HK := Lib.hid hk
  have hd' : (p < 1 ∧ d = 1) ∨ (1 ≤ p ∧ 8 < p ∧ d = 8) ∨ (1 ≤ p ∧ p ≤ 8 ∧ p = d) := by rw [← hd]; unfold fD; omega
  have hk' : (n < 1 ∧ k = 1) ∨ (1 ≤ n ∧ 6 < n ∧ k = 6) ∨ (1 ≤ n ∧ n ≤ 6 ∧ n = k) := by rw [← hk]; unfold fW; omega
  clear hd hk
  rcases hd' with ⟨a1, rfl⟩ | ⟨a0, a1, rfl⟩ | ⟨a0, a1, rfl⟩ <;> rcases hk' with ⟨b1, rfl⟩ | ⟨b0, b1, rfl⟩ | ⟨b0, b1, rfl⟩
  all_goals
    first
      | (obtain ⟨z, hz⟩ : ∃ z, d * k = z := ⟨_, rfl⟩
         have hz1 : z ≤ 8 * 6 := by rw [← hz]; exact Nat.mul_le_mul d1.2 k1.2
         have t1 : (d : Int) * (k : Int) = (z : Int) := by rw [← hz]; push_cast; rfl
         have HZ := Lib.hid hz
         clear hz
         go_enter Tryd.func51, Tryd.ntmps51
         go_wp2_with (go_at_call 74; refine (KEY.out d k (by omega) (by omega) (by omega) (by omega) _ (by rw [HZ.out]; omega)).mono ?_; rintro e w1 ⟨rfl, hm, hb⟩))
      | (go_enter Tryd.func51, Tryd.ntmps51
         go_wp2_with (go_at_call 74; refine (KEY.out _ _ d1.1 d1.2 k1.1 k1.2 _ (by omega)).mono ?_; rintro e w1 ⟨rfl, hm, hb⟩))
    have HM := Lib.hid (And.intro hm hb)
    go_ret
    refine ⟨w1.heap.size, g + 1, g, rfl, ?_⟩
    rw [HD.out, HK.out]
    exact new_reg HG.out HM.out.1 (by rw [HG.out]; exact HM.out.2) rfl
end Go.Proofs.YtpoidnajhcjmcaaDoor.R8
