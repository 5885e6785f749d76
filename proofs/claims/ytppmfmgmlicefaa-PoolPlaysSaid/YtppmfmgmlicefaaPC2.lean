/- A pool: slices.Index of a free slot: contracts. -/
import Derived.Test.YtppmfmgmlicefaaPC1
namespace Go.Proofs.Ytppmfmgmlicefaa.P9
open Go.RowKit Go.Proofs.Ytppmfmgmlicefaa.G
set_option maxRecDepth 100000
variable {w w' : World} {b n : Nat} {s : SS} {t : Nat → Int} {c : Int}

def zAgg : Array Value := #[.bool false, .int .i64 0]
def InvX (w : World) (b n g : Nat) (s : SS) (t : Nat → Int) (c : Int) (i : Value) (V : World) : Prop := ∃ k : Nat, i = .int .i64 k ∧ k ≤ n ∧ (∀ j, j < k → s j ≠ none) ∧ Pl V b n s t c ∧ Blk V g 56 #[.bool false, .int .i64 0] ∧ Below w.heap.size w V
def IxPost (w : World) (r : Int) (e : Ending) (w' : World) : Prop := e = .returned (.int .i64 r) ∧ Below w.heap.size w w'
/-- What slices.Index answers. -/
def IxIs (n : Nat) (s : SS) (r : Int) : Prop := (r = -1 ∧ Full n s) ∨ ∃ k : Nat, r = k ∧ Low n s k
def IxPostE (w : World) (n : Nat) (s : SS) (e : Ending) (w' : World) : Prop := ∃ r, IxIs n s r ∧ e = .returned (.int .i64 r) ∧ Below w.heap.size w w'
set_option maxHeartbeats 1000000 in
theorem index_e (h : Pl w b n s t c) : Calls Try.prog 29 #[.slice (some ⟨b, 1, none⟩) n 64, .agg #[.bool false, .int .i64 0]] w (IxPostE w n s) := by
  have n64 := h.n64
  have HP := Lib.hid (h.below (b01 w (.cells #[.bool false, .int .i64 0] 56)))
  have HG := Lib.hid (Blk.new w 56 #[.bool false, .int .i64 0])
  have HB := Lib.hid (b01 w (.cells #[.bool false, .int .i64 0] 56))
  clear h
  go_enter Try.func29, Try.ntmps29
  go_wp2_with fail
  go_loopw [8] (fun i V => InvX w b n w.heap.size s t c i V) (fun i _ => n - (intOf i).toNat)
  case atStart => exact ⟨0, rfl, by omega, fun j hj => absurd hj (by omega), HP.out, HG.out, HB.out⟩
  case round =>
    obtain ⟨k, rfl, hk, hs, hp, hg, hb⟩ := hrel
    have HS := Lib.hid hs
    have HP2 := Lib.hid hp
    have HG2 := Lib.hid hg
    have HB2 := Lib.hid hb
    clear HP HG HB hs hp hg hb
    by_cases hlt : k < n
    · obtain ⟨p1, p2⟩ := HP2.out.cells (show k < 64 by omega)
      have g0 := HG2.out.cell 0
      have g1 := HG2.out.cell 1
      simp only [List.getElem?_toArray, List.getElem?_cons_zero, List.getElem?_cons_succ] at g0 g1
      have f1 : (k : Int) < n := by omega
      by_cases hz : s k = none
      · have hE := run_eqlS (a := false) (x := 0) (a' := B1 (s k)) (x' := V1 (s k)) (r := true) (by rw [hz]; rfl)
        have HZ := Lib.hid hz
        clear hz
        generalize B1 (s k) = bb at *
        generalize V1 (s k) = vv at *
        go_wp2_with fail
        go_quiet (fail)
        go_wp2_with fail
        go_ret
        exact ⟨k, .inr ⟨k, rfl, hlt, HZ.out, HS.out⟩, rfl, bn HB2.out _⟩
      · have hE := run_eqlS (a := false) (x := 0) (a' := B1 (s k)) (x' := V1 (s k)) (r := false) (by
          have := bv_dec none (s k)
          rw [B1_none, V1_none] at this
          rw [this]; exact decide_eq_false fun e => hz e.symm)
        have HZ := Lib.hid hz
        clear hz
        generalize B1 (s k) = bb at *
        generalize V1 (s k) = vv at *
        go_wp2_with fail
        go_quiet (fail)
        go_wp2_with fail
        go_roundw
        case rel => exact ⟨k + 1, by go_num, by omega, (fun j hj => by
          rcases Nat.lt_or_ge j k with h4 | h4
          · exact HS.out j h4
          · obtain rfl : j = k := by omega
            exact HZ.out), HP2.out.below (bn (Below.refl _ _) _), HG2.out, bn HB2.out _⟩
        case measure => simp [intOf]; omega
    · obtain rfl : k = n := by omega
      go_wp2_with fail
      go_ret
      exact ⟨-1, .inl ⟨rfl, HS.out⟩, rfl, HB2.out⟩
theorem low_uniq {k k' : Nat} (h : Low n s k) (h' : Low n s k') : k = k' := by
  rcases Nat.lt_trichotomy k k' with h1 | h1 | h1
  · exact absurd h.2.1 (h'.2.2 k h1)
  · exact h1
  · exact absurd h'.2.1 (h.2.2 k' h1)
theorem index_low (h : Pl w b n s t c) {k : Nat} (hk : Low n s k) : Calls Try.prog 29 #[.slice (some ⟨b, 1, none⟩) n 64, .agg #[.bool false, .int .i64 0]] w (IxPost w k) :=
  (index_e h).mono fun e w' ⟨r, hr, he, hb⟩ => by
    rcases hr with ⟨_, hf⟩ | ⟨k', rfl, hl⟩
    · exact absurd hk.2.1 (hf k hk.1)
    · obtain rfl := low_uniq hk hl; exact ⟨he, hb⟩
theorem index_full (h : Pl w b n s t c) (hf : Full n s) : Calls Try.prog 29 #[.slice (some ⟨b, 1, none⟩) n 64, .agg #[.bool false, .int .i64 0]] w (IxPost w (-1)) :=
  (index_e h).mono fun e w' ⟨r, hr, he, hb⟩ => by
    rcases hr with ⟨rfl, _⟩ | ⟨k', rfl, hl⟩
    · exact ⟨he, hb⟩
    · exact absurd hl.2.1 (hf k' hl.1)
theorem index_nil (w : World) : Calls Try.prog 29 #[.slice none 0 0, .agg #[.bool false, .int .i64 0]] w (IxPost w (-1)) := by
  go_enter Try.func29, Try.ntmps29
  go_wp2_with fail
  go_loopw [8] (fun i V => i = .int .i64 0 ∧ V = w.alloc (.cells #[.bool false, .int .i64 0] 56)) (fun _ _ => 0)
  case atStart => exact ⟨rfl, rfl⟩
  case round =>
    obtain ⟨rfl, rfl⟩ := hrel
    go_wp2_with fail
    go_ret
    exact ⟨rfl, b01 _ _⟩
end Go.Proofs.Ytppmfmgmlicefaa.P9
