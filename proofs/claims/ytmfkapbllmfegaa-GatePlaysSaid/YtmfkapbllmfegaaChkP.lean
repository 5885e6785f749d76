/- Which configs may be, plain: windows one behind the other, channels, Actions; where the first fault is. -/
import Derived.Test.YtmfkapbllmfegaaKind
namespace Go.Proofs.Ytmfkapbllmfegaa.C04
open Go.RowKit Go.Proofs.Ytmfkapbllmfegaa.G

def wok (P F e : Int) (x : Win) : Bool := decide ((x.o = -1 ∨ 0 ≤ x.o ∧ x.o < P) ∧ 1 ≤ x.l ∧ e ≤ x.s ∧ x.s + x.l ≤ F)
def wbad (P F : Int) : Nat → Int → List Win → Option Nat
  | _, _, [] => none
  | i, e, x :: r => if wok P F e x = true then wbad P F (i + 1) (x.s + x.l) r else some i
def cbad (P : Int) : Nat → List Chn → Option Nat
  | _, [] => none
  | i, x :: r => if rgt P x = true then cbad P (i + 1) r else some i
def abad : Nat → List Int → Option Nat
  | _, [] => none
  | i, x :: r => if wth x 0 2 = true then abad (i + 1) r else some i
def wflt (c : Cfg) : Option (Int × Int) := if wth c.ws.length 1 8 = true then (wbad c.P c.F 0 0 c.ws).map fun i => (3, (i : Int)) else some (3, -1)
def cflt (c : Cfg) : Option (Int × Int) := if c.cs.length ≤ 6 then (cbad c.P 0 c.cs).map fun i => (4, (i : Int)) else some (4, -1)
def aflt (c : Cfg) : Option (Int × Int) := if (c.ac.length : Int) = c.P then (abad 0 c.ac).map fun i => (5, (i : Int)) else some (5, -1)
def flt (c : Cfg) : Option (Int × Int) :=
  if wth c.P 1 4 = true then if wth c.F 1 64 = true then (match wflt c with | some x => some x | none => match cflt c with | some x => some x | none => aflt c) else some (2, 0) else some (1, 0)
end Go.Proofs.Ytmfkapbllmfegaa.C04
