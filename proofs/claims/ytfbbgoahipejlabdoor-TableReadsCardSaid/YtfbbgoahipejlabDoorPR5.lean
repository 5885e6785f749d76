/- package table, what is read: words for lists that are read element by element. -/
import Derived.Test.YtfbbgoahipejlabDoorPRB
import Derived.Test.YtfbbgoahipejlabDoorCln
import Derived.Test.YtfbbgoahipejlabDoorPW5
import Derived.Test.YtfbbgoahipejlabDoorOne0
namespace Go.Proofs.YtfbbgoahipejlabDoor.T
open Go.RowKit Go.Proofs.YtfbbgoahipejlabDoor.G Go.Proofs.YtfbbgoahipejlabDoor.C04

def seq : Nat → Nat → List Nat
  | _, 0 => []
  | o, k + 1 => o :: seq (o + 1) k
def setl : List Value → Nat → List Value → List Value
  | xs, _, [] => xs
  | xs, n, a :: zs => setl (xs.set n a) (n + 1) zs
theorem setl_mid (R : List Value) : ∀ (zs us P : List Value), us.length = zs.length → setl (P ++ (us ++ R)) P.length zs = P ++ (zs ++ R)
  | [], [], P, _ => rfl
  | a :: zs, u :: us, P, h => by
    have e : (P ++ (u :: us ++ R)).set P.length a = (P ++ [a]) ++ (us ++ R) := by
      rw [List.set_append_right _ _ (Nat.le_refl _), Nat.sub_self]; simp
    rw [setl, e]
    have := setl_mid R zs us (P ++ [a]) (by simpa using h)
    rw [List.length_append] at this
    simp only [List.length_cons, List.length_nil] at this
    rw [this]; simp
  | [], _ :: _, _, h => by simp at h
  | _ :: _, [], _, h => by simp at h
theorem own_sm {B g : Nat} {t : TypeId} {m n c : Nat} : ∀ (ys : List Int) (o : Nat) {V : World} {xs : List Value}, Own V B t m (.slice (some ⟨g, 0, none⟩) n c) n xs → o + ys.length ≤ xs.length → Own (sm V g (seq o ys.length) ys) B t m (.slice (some ⟨g, 0, none⟩) n c) n (setl xs o (ys.map (.int .i64)))
  | [], _, _, _, h, _ => h
  | y :: ys, o, V, xs, h, hl => by
    have hl' : o + (ys.length + 1) ≤ xs.length := by simpa using hl
    exact own_sm ys (o + 1) (own_set h o (by omega) (.int .i64 y)) (by rw [List.length_set]; omega)
theorem nx1_bd (l : List UInt8) (e : Int) : 0 ≤ W.nxV l e 1 ∧ W.nxV l e 1 ≤ 255 := by
  unfold W.nxV
  split
  · omega
  · split
    · omega
    · split
      · omega
      · show 0 ≤ W.nth l 0 ∧ W.nth l 0 ≤ 255
        exact W.nth_bd l 0
theorem gtrans2 {w V V' : World} {br : Nat} {row : Option Nat} (h : w.grownBy V (some br)) (g : V.grownBy V' row) (hr : ∀ k, row = some k → w.heap.size ≤ k) : w.grownBy V' (some br) :=
  ⟨g.os.trans h.os, g.tape.trans h.tape, g.output.trans h.output, Nat.le_trans h.size g.size, fun k hk hn => (g.block k (Nat.lt_of_lt_of_le hk h.size) (fun e => absurd (hr k e.symm) (by omega))).trans (h.block k hk hn)⟩
/-- The reader is as it was where another row has grown. -/
theorem RS.grown {gp br : Nat} {l : List UInt8} {e : Int} {V V' : World} {B : Nat} {t : TypeId} {m n : Nat} {v : Value} {xs : List Value} (h : RS gp br l e V) (hO : Own V B t m v n xs) (t1 : t ≠ 161) (t2 : t ≠ 5) (t3 : t ≠ 95) (g : V.grownBy V' v.ownBlock) : RS gp br l e V' := by
  obtain ⟨h1, ⟨A, c, hr⟩, h3⟩ := h
  refine ⟨grown_blk h1 g (own_off hO h1 t3), ⟨A, c, grown_blk hr.head g (own_off hO hr.head t1), fun h0 => ?_, hr.room, hr.top, fun b' o e' => ?_⟩, h3⟩
  · obtain ⟨b', o, rfl, hlt, hc⟩ := hr.bytes h0
    obtain ⟨cur, hb⟩ := hr.typ b' o rfl
    have hb2 := grown_blk hb g (own_off hO hb t2)
    exact ⟨b', o, rfl, hb2.lt, fun j hj => by rw [hb2.cell, ← hb.cell]; exact hc j hj⟩
  · obtain ⟨cur, hb⟩ := hr.typ b' o e'
    exact ⟨cur, grown_blk hb g (own_off hO hb t2)⟩
def zW : Win := ⟨0, 0, 0⟩
def zC : Chn := ⟨0, 0, 0, 0, 0, 0, 0, 0, 0, 0, 0⟩
/-- So many windows that are read, one behind the other, and what is left of the bytes. -/
def rWs : Nat → List UInt8 → Int → List Win
  | 0, _, _ => []
  | k + 1, l, e => rWin l e :: rWs k (rl [1, 1, 1] l e) (re [1, 1, 1] l e)
def rWl : Nat → List UInt8 → Int → List UInt8
  | 0, l, _ => l
  | k + 1, l, e => rWl k (rl [1, 1, 1] l e) (re [1, 1, 1] l e)
def rWe : Nat → List UInt8 → Int → Int
  | 0, _, e => e
  | k + 1, l, e => rWe k (rl [1, 1, 1] l e) (re [1, 1, 1] l e)
theorem rWs_snoc : ∀ (k : Nat) (l : List UInt8) (e : Int), rWs (k + 1) l e = rWs k l e ++ [rWin (rWl k l e) (rWe k l e)]
  | 0, _, _ => rfl
  | k + 1, l, e => by rw [rWs, rWs_snoc k]; rfl
theorem rWl_snoc : ∀ (k : Nat) (l : List UInt8) (e : Int), rWl (k + 1) l e = rl [1, 1, 1] (rWl k l e) (rWe k l e)
  | 0, _, _ => rfl
  | k + 1, l, e => by rw [rWl, rWl_snoc k]; rfl
theorem rWe_snoc : ∀ (k : Nat) (l : List UInt8) (e : Int), rWe (k + 1) l e = re [1, 1, 1] (rWl k l e) (rWe k l e)
  | 0, _, _ => rfl
  | k + 1, l, e => by rw [rWe, rWe_snoc k]; rfl
theorem rWs_len : ∀ (k : Nat) (l : List UInt8) (e : Int), (rWs k l e).length = k
  | 0, _, _ => rfl
  | k + 1, l, e => by rw [rWs, List.length_cons, rWs_len k]
theorem wvs_mid (d r : List Win) (x : Win) : setl (wvs (d ++ zW :: r)) (d.length * 3) ([x.o, x.s, x.l].map (.int .i64)) = wvs (d ++ [x] ++ r) := by
  have e1 : wvs (d ++ zW :: r) = wvs d ++ (zW.cells ++ wvs r) := by simp [wvs]
  have e2 : wvs (d ++ [x] ++ r) = wvs d ++ (x.cells ++ wvs r) := by simp [wvs]
  rw [e1, e2, ← wvs_len d]
  exact setl_mid _ _ _ _ rfl
end Go.Proofs.YtfbbgoahipejlabDoor.T
