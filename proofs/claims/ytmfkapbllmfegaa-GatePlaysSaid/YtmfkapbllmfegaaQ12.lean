/- Sorting messages: slices' symMerge: a contract. Written by gen_q12.py. -/
import Derived.Test.YtmfkapbllmfegaaQ11
namespace Go.Proofs.Ytmfkapbllmfegaa.L10
open Go.RowKit Go.Proofs.Ytmfkapbllmfegaa.G Go.Sort
set_option maxRecDepth 100000
variable {w0 w W : World} {g n c q : Nat} {s : Nat → MV}

def tI {β : Type} (c : Prop) [Decidable c] (f : β → β) (x : β) : β := if c then f x else x
theorem tI_pos {β : Type} {c : Prop} [Decidable c] {f : β → β} {x : β} (h : c) : tI c f x = f x := if_pos h
theorem tI_neg {β : Type} {c : Prop} [Decidable c] {f : β → β} {x : β} (h : ¬ c) : tI c f x = x := if_neg h
/-- What symMerge does behind its search. -/
def symT {α : Type} (rec : Nat → Nat → Nat → (Nat → α) → (Nat → α)) (a m b mid st en : Nat) (s : Nat → α) : Nat → α :=
  tI (mid < en ∧ en < b) (rec mid en b) (tI (a < st ∧ st < mid) (rec a st mid) (tI (st < m ∧ m < en) (rota st m en) s))
def symM {α : Type} (lt : α → α → Bool) : Nat → Nat → Nat → Nat → (Nat → α) → (Nat → α)
  | 0, _, _, _, s => s
  | f + 1, a, m, b, s => if m = a + 1 then sym1 lt a m b s else if b = m + 1 then sym2 lt a m b s else
    let mid := (a + b) / 2
    let st0 := if mid < m then mid + m - b else a
    let r0 := if mid < m then mid else m
    let st := bsA (fun c => !lt (s (mid + m - 1 - c)) (s c)) (r0 - st0) st0 r0
    symT (symM lt f) a m b mid st (mid + m - st) s
theorem symM_3 {α : Type} {lt : α → α → Bool} {f a m b mid st0 r0 st en p : Nat} {s : Nat → α} (h1 : m ≠ a + 1) (h2 : b ≠ m + 1) (h3 : (a + b) / 2 = mid) (h4 : (if mid < m then mid + m - b else a) = st0) (h5 : (if mid < m then mid else m) = r0) (hp : mid + m - 1 = p)
    (h6 : bsA (fun c => !lt (s (p - c)) (s c)) (r0 - st0) st0 r0 = st) (h7 : mid + m - st = en) : symM lt (f + 1) a m b s = symT (symM lt f) a m b mid st en s := by
  rw [symM, if_neg h1, if_neg h2]
  simp only [h3]
  rw [h4, h5, hp, h6, h7]
/-- A row of fewer than 40, sorted. -/
def stab {α : Type} (lt : α → α → Bool) (n : Nat) (s : Nat → α) : Nat → α :=
  if n < 20 then insS lt 0 n s else if n = 20 then insS lt 20 20 (insS lt 0 20 s) else symM lt n 0 20 n (insS lt 20 n (insS lt 0 20 s))
theorem stab_lt {α : Type} {lt : α → α → Bool} {n : Nat} {s : Nat → α} (h : n < 20) : stab lt n s = insS lt 0 n s := if_pos h
theorem stab_20 {α : Type} {lt : α → α → Bool} {n : Nat} {s : Nat → α} (h : n = 20) : stab lt n s = insS lt 20 20 (insS lt 0 20 s) := by
  unfold stab; rw [if_neg (by omega), if_pos h]
theorem stab_gt {α : Type} {lt : α → α → Bool} {n : Nat} {s : Nat → α} (h : ¬ n < 20) (h2 : ¬ n = 20) : stab lt n s = symM lt n 0 20 n (insS lt 20 n (insS lt 0 20 s)) := by
  unfold stab; rw [if_neg h, if_neg h2]
end Go.Proofs.Ytmfkapbllmfegaa.L10
