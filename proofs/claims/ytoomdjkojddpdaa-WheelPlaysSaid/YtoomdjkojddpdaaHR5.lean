/- The document's own wheel, lifted to one word on its list; both wheels side by side. -/
import Derived.Test.YtoomdjkojddpdaaHR4
import Derived.Test.YtoomdjkojddpdaaHArgs
namespace Go.Proofs.Ytoomdjkojddpdaa.H14
open Go.RowKit Go.Proofs.Ytoomdjkojddpdaa.G Go.Proofs.Ytoomdjkojddpdaa.Sat Go.Sort
set_option maxRecDepth 100000
variable {w V V' : World} {b s : Nat} {l : List En} {v : Value}
/-- The document's list: none, or in a block of its own kind. -/
def TR (V : World) (v : Value) (l : List En) : Prop :=
  (v = .slice none 0 0 ∧ l = []) ∨ ∃ (g o c : Nat) (cur : Array Value), v = .slice (some ⟨g, o, none⟩) l.length c ∧ l.length ≤ c ∧ Blk V g 49 cur ∧ Row V (some ⟨g, o, none⟩) (tcs l)
theorem TR.kp (h : TR V v l) (k : Kp V V') : TR V' v l := by
  rcases h with h | ⟨g, o, c, cur, h1, h2, h3, h4⟩
  · exact .inl h
  · have h3' := k.2 g _ _ (by decide) h3
    refine .inr ⟨g, o, c, cur, h1, h2, h3', fun h0 => ?_⟩
    obtain ⟨g', o', e, _, hc⟩ := h4 h0
    injection e with e; injection e with e1 e2 _
    subst e1 e2
    exact ⟨g, o, rfl, h3'.lt, fun j u hj => by rw [h3'.cell, ← h3.cell]; exact hc j u hj⟩
theorem TR.sl (h : TR V v l) : ∃ A c, v = .slice A l.length c ∧ Row V A (tcs l) := by
  rcases h with ⟨rfl, rfl⟩ | ⟨g, o, c, cur, rfl, _, _, h4⟩
  · exact ⟨none, 0, rfl, Row.none_⟩
  · exact ⟨_, c, rfl, h4⟩
theorem TR.own {B : Nat} (h : TOwn V B v l) : TR V v l := by
  have hr := Own.row h
  rcases id h.2 with ⟨rfl, h0⟩ | ⟨g, c, cur, rfl, _, hb, hle, _⟩
  · exact .inl ⟨rfl, List.eq_nil_of_length_eq_zero h0⟩
  · obtain ⟨A, c', e, hR, _⟩ := hr
    injection e with e1 _ e3
    subst e1 e3
    exact .inr ⟨g, 0, c, cur, rfl, hle, hb, hR⟩
theorem rset_t (h : TR V v l) (hok : Wok l s) (hl : l.length ≤ 1000) (k x : Int) : Calls Try.prog 12 #[v, .int .i64 k, .int .i64 x] V fun e V' => ∃ v', e = .returned (.tuple #[v', .bool (has l k)]) ∧ TR V' v' (set l s k (cut x)) ∧ Below V.heap.size V V' := by
  obtain ⟨A, c, rfl, hR⟩ := h.sl
  exact (rset_any hR hl hok).mono fun e V' ⟨A', c', h1, h2, h3⟩ => ⟨_, h1, TR.own h2, h3⟩
theorem rcancel_t (h : TR V v l) (hok : Wok l s) (hl : l.length ≤ 1000) (k : Int) : Calls Try.prog 14 #[v, .int .i64 k] V fun e V' => ∃ v', e = .returned (.tuple #[v', .bool (has l k)]) ∧ TR V' v' (can l k) ∧ Below V.heap.size V V' := by
  obtain ⟨A, c, rfl, hR⟩ := h.sl
  exact (rcancel_any hR hl hok).mono fun e V' ⟨A', c', h1, h2, h3⟩ => ⟨_, h1, TR.own h2, h3⟩
theorem rdue_nil (now : Int) (w : World) : Calls Try.prog 16 #[.slice none 0 0, .int .i64 now] w fun e w' => e = .returned (.tuple #[.slice none 0 0, .slice none 0 0]) ∧ Below w.heap.size w w' := by
  have HCut := Lib.hid (fun V n => quiet_left (rcut_any now (World.drewN V n)))
  have hsl := fun V => slice_nil V
  go_enter Try.func16, Try.ntmps16
  go_wp2_with fail
  go_loopw [6, 7] (fun out i V => out = .slice none 0 0 ∧ i = .int .i64 0 ∧ w = V) (fun _ _ _ => 0)
  case atStart => exact ⟨rfl, rfl, by first | rfl | trivial⟩
  case round =>
    obtain ⟨rfl, rfl, rfl⟩ := hrel
    go_wp2_with fail
    go_quiet (first | (go_at_call 25; exact HCut.out _ _))
    go_wp2_with fail
    refine bodyPost_ret (v := .tuple #[.slice none 0 0, .slice none 0 0]) (by simp [results, Try.results16, go_sem]) rfl ⟨rfl, bn (Below.refl _ _) _⟩
theorem rdue_t (h : TR V v l) (hok : Wok l s) (hl : l.length ≤ 1000) (now : Int) : Calls Try.prog 16 #[v, .int .i64 now] V fun e V' => ∃ v' A c, e = .returned (.tuple #[v', .slice A (keys (due l (cut now))).length c]) ∧ TR V' v' (left l (cut now)) ∧ Rw V' A (keys (due l (cut now))) ∧ Below V.heap.size V V' := by
  rcases h with ⟨rfl, rfl⟩ | ⟨g, o, c, cur, rfl, hc, hb, hR⟩
  · exact (rdue_nil now V).mono fun e V' ⟨h1, h2⟩ => ⟨_, none, 0, h1, .inl ⟨rfl, rfl⟩, ⟨Row.none_, fun g o e => by cases e⟩, h2⟩
  · refine (rdue_any hR hl hc hok (now := now)).mono fun e V' ⟨A1, c1, A2, c2, h1, h2, h3, h4, h5, h6⟩ => ?_
    have hR2 : Rw V' A2 (keys (due l (cut now))) := by
      rw [← len_keys] at h5
      exact (Rw.own h5).2.1
    refine ⟨.slice A1 (left l (cut now)).length c1, A2, c2, by rw [len_keys]; exact h1, ?_, hR2, h6⟩
    obtain ⟨g', o', o2, e1, rfl⟩ := h4
    injection e1 with e1; injection e1 with e1 _ _
    subst e1
    exact .inr ⟨g, o2, c1, cur, rfl, h3, hb.bel h6, h2⟩
theorem runtil_t (h : TR V v l) (hok : Wok l s) (hl : l.length ≤ 1000) (k : Int) : Calls Try.prog 20 #[v, .int .i64 k] V fun e V' => e = .returned (.tuple #[.int .i64 (unt l k), .bool (has l k)]) ∧ V = V' := by
  obtain ⟨A, c, rfl, hR⟩ := h.sl
  exact runtil_any hR hl hok
theorem rkeys_t (h : TR V v l) (hl : l.length ≤ 1000) : Calls Try.prog 24 #[v] V fun e V' => ∃ A c, e = .returned (.slice A (keys l).length c) ∧ Rw V' A (keys l) ∧ Below V.heap.size V V' := by
  obtain ⟨A, c, rfl, hR⟩ := h.sl
  refine (rkeys_any hR hl).mono fun e V' ⟨A', c', h1, h2, h3⟩ => ⟨A', c', by rw [len_keys]; exact h1, ?_, h3⟩
  rw [← len_keys] at h2
  exact (Rw.own h2).2.1
end Go.Proofs.Ytoomdjkojddpdaa.H14
