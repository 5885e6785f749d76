/- The switch of TriplePlays, out of the translation. -/
import Derived.Test.YtppmfmgmlicefabDoorVP0
namespace Go.Proofs.YtppmfmgmlicefabDoor.triplePlays
open Go.RowKit Go.Proofs.YtppmfmgmlicefabDoor.G Go.Proofs.YtppmfmgmlicefabDoor.Cell Go.Proofs.YtppmfmgmlicefabDoor.T3
attribute [local go_sem ↓] Go.wp_at_zero Go.wp_at_succ
set_option maxRecDepth 100000
/-- What each round keeps. -/
def InvP (w : World) (q br n : Nat) (i : Value) (V : World) : Prop := ∃ (k : Nat) (s : St) (c : Int) (F : Nat → Prop) (p : RP), i = .int .i64 k ∧ k ≤ n ∧ Two w V q br s s c F p ∧ c ≤ k
/-- What each step leaves. -/
def CutP (w : World) (q br k : Nat) (V : World) : Prop := ∃ (s : St) (c : Int) (F : Nat → Prop) (p : RP), Two w V q br s s c F p ∧ c ≤ k + 1
/-- The block of that number, out of a text. -/
def find2 : Code → Option Code
  | .block n c => if n = 2 then some (.block 2 c) else find2 c
  | .seq a b => match find2 a with
    | some c => some c
    | none => find2 b
  | .scope c => find2 c
  | .loop c => find2 c
  | .cond _ a b => match find2 a with
    | some c => some c
    | none => find2 b
  | _ => none
noncomputable def code2 : Code := (Tryd.f4.body.bind find2).getD .skip
end Go.Proofs.YtppmfmgmlicefabDoor.triplePlays
