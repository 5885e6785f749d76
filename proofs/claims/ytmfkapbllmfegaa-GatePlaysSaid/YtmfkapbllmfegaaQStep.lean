/- The steps of stage 10's statements: what is read of them, their kind, their message; the first 80. -/
import Derived.Test.YtmfkapbllmfegaaQSame
namespace Go.Proofs.Ytmfkapbllmfegaa.L10
open Go.ChangeShapes Go.WideShapes Go.RowKit Go.Proofs.Ytmfkapbllmfegaa.G Go.Proofs.Ytmfkapbllmfegaa.C04
set_option maxRecDepth 100000
/-- A step: its kind, its number, its message. -/
structure Sp where
  k : Int
  n : Int
  m : MV
def Sp.cells (x : Sp) : List Value := .int .i64 x.k :: .int .i64 x.n :: x.m.cells
def sps (l : List Sp) : List Value := l.flatMap Sp.cells
theorem Sp.cells_len (x : Sp) : x.cells.length = 7 := rfl
def SpOk (w : World) (x : Sp) : Prop := MOk w x.m ∧ i64 x.n ∧ i64 x.k
section
variable {H : Type} {enc : TypeId × Value → H} {V0 : World}
end
variable {w w' : World}
theorem sps_at {A : Option Addr} {l : List Sp} (h : Row w A (sps l)) {k : Nat} {u : Sp} (hk : l[k]? = some u) : ∃ b o : Nat, A = some ⟨b, o, none⟩ ∧ b < w.heap.size ∧ w.cell? ⟨b, o + k * 7, none⟩ = some (.int .i64 u.k) ∧ w.cell? ⟨b, o + k * 7 + 1, none⟩ = some (.int .i64 u.n) ∧ w.cell? ⟨b, o + k * 7 + 2, none⟩ = some (.slice u.m.a u.m.ws.length u.m.c) ∧ w.cell? ⟨b, o + k * 7 + 3, none⟩ = some (.int .i64 u.m.ln) ∧ w.cell? ⟨b, o + k * 7 + 4, none⟩ = some (.int .i64 u.m.st) ∧ w.cell? ⟨b, o + k * 7 + 5, none⟩ = some (.int .i64 u.m.lt) ∧ w.cell? ⟨b, o + k * 7 + 6, none⟩ = some (.int .i64 u.m.sq) := by
  have hlt := (List.getElem?_eq_some_iff.1 hk).1
  have hf := fun j (hj : j < 7) => flat_at Sp.cells_len l k j u hk hj
  obtain ⟨b, o, e, hb, hc⟩ := h (by unfold sps; rw [flat_len Sp.cells_len]; omega)
  have hq := fun j (hj : j < 7) (v : Value) (hv : u.cells[j]? = some v) => hc (k * 7 + j) v (by unfold sps; rw [hf j hj]; exact hv)
  refine ⟨b, o, e, hb, ?_, ?_, ?_, ?_, ?_, ?_, ?_⟩
  · exact hq 0 (by omega) _ rfl
  · have := hq 1 (by omega) _ rfl; rwa [← Nat.add_assoc] at this
  · have := hq 2 (by omega) _ rfl; rwa [← Nat.add_assoc] at this
  · have := hq 3 (by omega) _ rfl; rwa [← Nat.add_assoc] at this
  · have := hq 4 (by omega) _ rfl; rwa [← Nat.add_assoc] at this
  · have := hq 5 (by omega) _ rfl; rwa [← Nat.add_assoc] at this
  · have := hq 6 (by omega) _ rfl; rwa [← Nat.add_assoc] at this
def Sp.val (u : Sp) : Value := .agg #[.int .i64 u.k, .int .i64 u.n, .slice u.m.a u.m.ws.length u.m.c, .int .i64 u.m.ln, .int .i64 u.m.st, .int .i64 u.m.lt, .int .i64 u.m.sq]
/-- A step's message: at most 8 words. -/
def Sp.msg (u : Sp) : MV := ⟨u.m.a, u.m.ws.take 8, u.m.c, u.m.ln, u.m.st, u.m.lt, u.m.sq⟩
theorem Sp.msg_wr {u : Sp} (h : Wr w u.m) : Wr w u.msg ∧ u.msg.ws.length ≤ 8 := by
  have h8 : (u.m.ws.take 8).length = min 8 u.m.ws.length := List.length_take
  refine ⟨⟨?_, by show (u.m.ws.take 8).length ≤ u.m.c; have := h.le; omega, h.top⟩, by show (u.m.ws.take 8).length ≤ 8; omega⟩
  have := h.row.take 8
  show Row w u.m.a (iv (u.m.ws.take 8))
  rw [show iv (u.m.ws.take 8) = (iv u.m.ws).take 8 by unfold iv; rw [List.map_take]]
  exact this
def EaPost (A : Option Addr) (n : Nat) (w : World) (e : Ending) (w' : World) : Prop := (∃ c', e = .returned (.slice A (min n 80) c')) ∧ w = w'
/-! ### Ticks, by the document's own answers -/
theorem rcut_any (n : Int) (w : World) : Calls Try.prog 33 #[.int .i64 n] w fun e w' => e = .returned (.int .i64 (cut n)) ∧ w = w' := by
  unfold cut
  by_cases h1 : n < 0
  · rw [if_pos h1]
    go_enter Try.func33, Try.ntmps33
    go_wp2_with fail
    go_ret
    exact ⟨rfl, rfl⟩
  · rw [if_neg h1]
    by_cases h2 : 4611686018427387904 < n
    · rw [if_pos h2]
      go_enter Try.func33, Try.ntmps33
      go_wp2_with fail
      go_ret
      exact ⟨rfl, rfl⟩
    · rw [if_neg h2]
      go_enter Try.func33, Try.ntmps33
      go_wp2_with fail
      go_ret
      exact ⟨rfl, rfl⟩
theorem rcut_gw (n : Int) (w : World) : Calls Try.prog 33 #[.int .i64 n] w fun e w' => e = .returned (.int .i64 (cut n)) ∧ Gw w w' :=
  (rcut_any n w).mono fun _ _ ⟨he, hw⟩ => ⟨he, 0, #[], by subst hw; rw [Go.Sort.grow_empty]; rfl⟩
theorem rlate_any (m : MV) (n : Int) (w : World) : Calls Try.prog 43 #[m.val, .int .i64 n] w fun e w' => e = .returned (.bool (late n m.lt)) ∧ Below w.heap.size w w' := by
  have mixed : Try.prog.follows .mixedOrders = true := by kernel_rfl
  have N0 := Blk.new w 43 #[.slice m.a m.ws.length m.c, .int .i64 m.ln, .int .i64 m.st, .int .i64 m.lt, .int .i64 m.sq]
  have n3 := fun k os => blk_gcell (v := .int .i64 m.lt) N0 k os 3 rfl
  have HB := Lib.hid (b01 w (.cells #[.slice m.a m.ws.length m.c, .int .i64 m.ln, .int .i64 m.st, .int .i64 m.lt, .int .i64 m.sq] 43))
  unfold MV.val
  clear N0
  go_enter Try.func43, Try.ntmps43
  go_wp2_with fail
  generalize w.alloc (.cells #[.slice m.a m.ws.length m.c, .int .i64 m.ln, .int .i64 m.st, .int .i64 m.lt, .int .i64 m.sq] 43) = W at *
  go_quiet_grown (first | (go_at_call 33; exact Calls.grown_of (rcut_gw _ _)))
  go_wp2_with fail
  go_ret
  exact ⟨rfl, bt HB.out (below_grow W nq osq)⟩
end Go.Proofs.Ytmfkapbllmfegaa.L10
