/- The first check of every statement ('lives'); text made of bytes; what the statements read of their arguments, and how the rows are met. -/
import Derived.Test.YtdiiengjboeboaaOpn
import Derived.ChangeSame
import Derived.ChangeVars
import Derived.JoinedOf
import Derived.Stop.Joined
import Derived.Deep.QuietTactic
import Derived.BigQuiet
import Derived.ChangeSlices
import Derived.Deep.Slices
namespace Go.Proofs.Ytdiiengjboeboaa.Wire
open Go.RowKit

/-! ### string(b) -/
def str (l : List UInt8) : Value := .string ⟨l.toArray⟩
theorem conv_any {w : World} {A : Option Addr} {l : List UInt8} (hr : Rd w A l) (c : Nat) : (convert 22 9 (.slice A l.length c)).run Try.prog w = .ok (str l) w := by
  cases A with
  | some a =>
    refine run_convert_bytes_back (P := Try.prog) w 22 9 5 a c l Try.underlying22 Try.underlying5 Try.underlying9 (fun j hj => ?_)
    exact hr.news j (bv l[j]) (by simp [bvs, hj])
  | none =>
    obtain rfl := hr.nil_
    rw [List.length_nil, run_convert_bytes_string (P := Try.prog) w 22 9 5 none 0 c Try.underlying22 Try.underlying5 Try.underlying9]
    rfl
theorem conv_lst {w : World} {B : Nat} {v : Value} {l : List UInt8} (h : Lst w B v l) : (convert 22 9 v).run Try.prog w = .ok (str l) w := by
  obtain ⟨A, c, rfl, hr, _⟩ := h.rd
  exact conv_any hr c

/-! ### lives -/
theorem lives_any (w : World) : Calls Try.prog 9 #[] w fun e w' => e = .returned (.bool true) ∧ Below w.heap.size w w' := by
  go_enter Try.func9, Try.ntmps9
  go_wp2_with fail
  refine (put_any (l := []) Rd.none_ (by simp) 2 258).mono ?_
  rintro e w1 ⟨x1, rfl, hx1, hb1⟩
  rw [show putE 2 258 = 0 from rfl]
  have e1 : putL [] 2 258 = [1, 2] := rfl
  rw [e1] at hx1
  obtain ⟨A, c, rfl, hr, hc, hm, hB⟩ := hx1.rd
  have HB := Lib.hid hB; clear hB
  have HR := Lib.hid hr; clear hr
  have HX := Lib.hid hx1; clear hx1 e1
  go_wp2_with fail
  refine (read_any (l := [1, 2]) HR.out (by simp)).mono ?_
  rintro e w2 ⟨b, rfl, hb, h2, hb2⟩
  have H2 := Lib.hid h2; clear h2
  go_wp2_with fail
  refine (next_2 (l := [1, 2]) H2.out (by simp) (by simp)).mono ?_
  rintro e w3 ⟨rfl, h3, g3⟩
  rw [show be [1, 2] 2 = 258 from rfl]
  have h3' : Rdr w3 b [] 0 := h3
  have H3 := Lib.hid h3'; clear h3 h3'
  have hb3 : Below w.heap.size w w3 := bg (bt hb1 hb2) g3 (Nat.le_trans hb1.size hb)
  have hr3 : Rd w3 A [1, 2] := by
    have h := HR.out.below hb2
    intro h0
    obtain ⟨b', o, rfl, hlt, hcell⟩ := HR.out h0
    refine ⟨b', o, rfl, Nat.lt_of_lt_of_le hlt (Nat.le_trans hb2.size g3.size), fun j hj => ?_⟩
    rw [World.cell?_of_block (a := ⟨b', o + j, none⟩) (g3.block b' (Nat.lt_of_lt_of_le hlt hb2.size) (fun e => by injection e; omega))]
    rw [World.cell?_of_block (a := ⟨b', o + j, none⟩) (hb2.block b' hlt)]
    exact hcell j hj
  have hcv : (convert 22 9 (.slice A 2 c)).run Try.prog w3 = .ok (str [1, 2]) w3 := conv_any (l := [1, 2]) hr3 c
  have hst : str [1, 2] = .string ⟨#[1, 2]⟩ := rfl
  rw [hst] at hcv
  have HR3 := Lib.hid hr3; clear hr3 hst
  go_wp2_with (first
    | (go_at_call 23; refine (end_any H3.out).mono ?_; rintro e w' ⟨rfl, rfl⟩; rw [show endE [] 0 = 0 from rfl])
    | (go_at_call 14; refine (sum_any (l := [1, 2]) HR3.out (by simp)).mono ?_; rintro e w' ⟨rfl, rfl⟩; rw [show sum [1, 2] = 3 from rfl]))
  go_ret
  exact ⟨rfl, hb3⟩
end Go.Proofs.Ytdiiengjboeboaa.Wire
