/- Texts laid together: Eq, EqS, Sam. -/
import Derived.Test.YtfbbgoahipejlabDoorChk
import Derived.Laws.StructEq
import Derived.Deep.QuietTactic
import Derived.BigQuiet
import Derived.Test.YtfbbgoahipejlabDoorKind
/- slices.Equal of windows, channels and numbers, and the document's own Same of numbers: contracts. -/
namespace Go.Proofs.YtfbbgoahipejlabDoor.C04
open Go.RowKit Go.Proofs.YtfbbgoahipejlabDoor.G

end Go.Proofs.YtfbbgoahipejlabDoor.C04
/- Two windows, two channels, compared; slices.Equal of windows and of channels: contracts. -/
namespace Go.Proofs.YtfbbgoahipejlabDoor.C04
open Go.RowKit Go.Proofs.YtfbbgoahipejlabDoor.G

def Win.val (x : Win) : Value := .agg #[.int .i64 x.o, .int .i64 x.s, .int .i64 x.l]
theorem run_eqw (x y : Win) (w : World) : (Op.equalIn 10000 89 x.val y.val).run Tryd.prog w = .ok (decide (x = y)) w := by
  have hu : Tryd.prog.underlying 89 = some (.struct (Tryd.prog.fieldsOf 89)) := by kernel_rfl
  have hp : Tryd.prog.stoodInHeld 89 = false := by kernel_rfl
  have u3 := Tryd.underlying3
  unfold Win.val
  obtain ⟨a, b, c⟩ := x
  obtain ⟨a', b', c'⟩ := y
  rw [run_equalIn_struct w 9999 89 _ _ hu hp]
  by_cases h1 : a = a' <;> by_cases h2 : b = b' <;> by_cases h3 : c = c' <;> simp [go_sem, h1, h2, h3]
theorem run_neqw (x y : Win) (w : World) : (binOp .neq 89 x.val y.val).run Tryd.prog w = .ok (.bool (!decide (x = y))) w := by
  have h := run_eqw x y w
  unfold Win.val at h ⊢
  rw [run_neq_struct, h]; rfl
theorem run_eqc (x y : Chn) (w : World) : (Op.equalIn 10000 118 x.val y.val).run Tryd.prog w = .ok (decide (x = y)) w := by
  have hu : Tryd.prog.underlying 118 = some (.struct (Tryd.prog.fieldsOf 118)) := by kernel_rfl
  have hp : Tryd.prog.stoodInHeld 118 = false := by kernel_rfl
  have u3 := Tryd.underlying3
  unfold Chn.val
  obtain ⟨a0, a1, a2, a3, a4, a5, a6, a7, a8, a9, a10⟩ := x
  obtain ⟨b0, b1, b2, b3, b4, b5, b6, b7, b8, b9, b10⟩ := y
  rw [run_equalIn_struct w 9999 118 _ _ hu hp]
  by_cases h0 : a0 = b0
  case neg => simp [go_sem, h0]
  by_cases h1 : a1 = b1
  case neg => simp [go_sem, h0, h1]
  by_cases h2 : a2 = b2
  case neg => simp [go_sem, h0, h1, h2]
  by_cases h3 : a3 = b3
  case neg => simp [go_sem, h0, h1, h2, h3]
  by_cases h4 : a4 = b4
  case neg => simp [go_sem, h0, h1, h2, h3, h4]
  by_cases h5 : a5 = b5
  case neg => simp [go_sem, h0, h1, h2, h3, h4, h5]
  by_cases h6 : a6 = b6
  case neg => simp [go_sem, h0, h1, h2, h3, h4, h5, h6]
  by_cases h7 : a7 = b7
  case neg => simp [go_sem, h0, h1, h2, h3, h4, h5, h6, h7]
  by_cases h8 : a8 = b8
  case neg => simp [go_sem, h0, h1, h2, h3, h4, h5, h6, h7, h8]
  by_cases h9 : a9 = b9
  case neg => simp [go_sem, h0, h1, h2, h3, h4, h5, h6, h7, h8, h9]
  by_cases h10 : a10 = b10
  case neg => simp [go_sem, h0, h1, h2, h3, h4, h5, h6, h7, h8, h9, h10]
  simp [go_sem, h0, h1, h2, h3, h4, h5, h6, h7, h8, h9, h10]
theorem run_neqc (x y : Chn) (w : World) : (binOp .neq 118 x.val y.val).run Tryd.prog w = .ok (.bool (!decide (x = y))) w := by
  have h := run_eqc x y w
  unfold Chn.val at h ⊢
  rw [run_neq_struct, h]; rfl
end Go.Proofs.YtfbbgoahipejlabDoor.C04
/- Same of package config, and the document's own Same of configs and of numbers: contracts against one plain function. -/
namespace Go.Proofs.YtfbbgoahipejlabDoor.C04
open Go.RowKit Go.Proofs.YtfbbgoahipejlabDoor.G

def sam (a b : Cfg) : Bool := decide (a.P = b.P ∧ a.F = b.F ∧ eqb a.ws b.ws = true ∧ eqb a.cs b.cs = true ∧ eqb a.ac b.ac = true)
theorem sam_self (a : Cfg) : sam a a = true := by simp [sam, eqb]
theorem CfgAt.row1 {w : World} {A1 A2 A3 : Option Addr} {c1 c2 c3 : Nat} {c : Cfg} (h : CfgAt w (.agg #[.int .i64 c.P, .int .i64 c.F, .slice A1 c.ws.length c1, .slice A2 c.cs.length c2, .slice A3 c.ac.length c3]) c) : Row w A1 (wvs c.ws) ∧ Row w A2 (cvs c.cs) ∧ Row w A3 (ivs c.ac) := by
  obtain ⟨B1, B2, B3, d1, d2, d3, e, h1, h2, h3, _⟩ := h
  simp only [Value.agg.injEq, Array.mk.injEq, List.cons.injEq, Value.slice.injEq, true_and, and_true] at e
  obtain ⟨⟨rfl, rfl⟩, ⟨rfl, rfl⟩, rfl, rfl⟩ := e
  exact ⟨h1, h2, h3⟩
end Go.Proofs.YtfbbgoahipejlabDoor.C04
