/- Which configs may be: package config's faults and the document's own Check and May: contracts against one plain function. -/
import Derived.Test.YtmfkapbllmfegaaDoorChkP
import Derived.Deep.QuietTactic
import Derived.BigQuiet
namespace Go.Proofs.YtmfkapbllmfegaaDoor.C04
open Go.RowKit Go.Proofs.YtmfkapbllmfegaaDoor.G

/-! ### The plain function -/
def errV : Option (Int × Int) → Value
  | none => .nilIface
  | some (p, n) => .iface 61 (.agg #[.int .i64 p, .int .i64 n])
def ErrPost (f : Option (Int × Int)) (w : World) (e : Ending) (w' : World) : Prop := e = .returned (errV f) ∧ Below w.heap.size w w'

def InvA (w : World) (l : List Int) (k : Nat) (i : Value) (wr : World) : Prop := i = .int .i64 k ∧ k ≤ l.length ∧ abad 0 l = abad k (l.drop k) ∧ wr = w

set_option maxHeartbeats 1000000 in
theorem actf_any {w : World} {v : Value} {c : Cfg} (h : CfgAt w v c) : Calls Tryd.prog 63 #[v] w (ErrPost (aflt c) w) := by
  obtain ⟨A1, A2, A3, c1, c2, c3, rfl, h1, h2, h3, _, _, _, _, l3, m3, _⟩ := h
  have H3 := Lib.hid (h3.alloc (.cells #[.int .i64 c.P, .int .i64 c.F, .slice A1 c.ws.length c1, .slice A2 c.cs.length c2, .slice A3 c.ac.length c3] 26))
  clear h1 h2 h3
  by_cases hn : (c.ac.length : Int) = c.P
  · have HA : Hid (aflt c = (abad 0 c.ac).map fun i => (5, (i : Int))) := by show aflt c = _; rw [aflt, if_pos hn]
    have tn : ((c.ac.length : Int) != c.P) = false := by simpa using hn
    clear hn
    go_enter Tryd.func63, Tryd.ntmps63
    go_wp2
    go_loop [17] (fun i => ∃ k : Nat, i = .int .i64 k ∧ k ≤ c.ac.length ∧ abad 0 c.ac = abad k (c.ac.drop k)) (fun i => c.ac.length - (intOf i).toNat)
    case atStart => exact ⟨0, rfl, by omega, rfl⟩
    case round =>
      obtain ⟨k, rfl, hk, ha⟩ := hrel
      have HR := Lib.hid ha; clear ha
      by_cases hlt : k < c.ac.length
      · obtain ⟨x, hx, hd⟩ := drop_cons hlt
        obtain ⟨b, o, rfl, hb, hc⟩ := row_int H3.out hx
        have HX := Lib.hid hd; clear hd hx
        by_cases ht : wth x 0 2 = true
        · go_wp2_with (go_at_call 60; refine (within_any _ _ _ _).mono ?_; rintro e w' ⟨rfl, rfl⟩)
          go_round
          case rel => exact ⟨k + 1, by go_num, by omega, by rw [HR.out, HX.out, abad, if_pos ht]⟩
          case measure => simp [intOf]; omega
        · have tf : wth x 0 2 = false := by simpa using ht
          go_wp2_with (go_at_call 60; refine (within_any _ _ _ _).mono ?_; rintro e w' ⟨rfl, rfl⟩)
          go_ret
          refine ⟨?_, b01 _ _⟩
          rw [HA.out, HR.out, HX.out, abad, if_neg ht]
          rfl
      · go_wp2
        go_ret
        refine ⟨?_, b01 _ _⟩
        rw [HA.out, HR.out, List.drop_of_length_le (by omega)]
        rfl
  · have HA : Hid (aflt c = some (5, -1)) := by show aflt c = _; rw [aflt, if_neg hn]
    have tn : ((c.ac.length : Int) != c.P) = true := by simpa using hn
    clear hn
    go_enter Tryd.func63, Tryd.ntmps63
    go_wp2
    go_ret
    exact ⟨by rw [HA.out]; rfl, b01 _ _⟩
end Go.Proofs.YtmfkapbllmfegaaDoor.C04
