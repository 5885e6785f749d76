/- What the walk of TriplePlays tells of: the program's register and the document's, as they lie. -/
import Derived.Test.YtppmfmgmlicefabDoorVR7
import Derived.Test.YtppmfmgmlicefabDoorVSc
import Derived.Test.YtppmfmgmlicefabDoorVLive
import Derived.Deep.DeepCutAuto
import Derived.Deep.CutRange
import Derived.Deep.CutBlock
import Derived.StillTailTactics
import Derived.Deep.RegionHeld3
namespace Go.Proofs.YtppmfmgmlicefabDoor.triplePlays
open Go.RowKit Go.Proofs.YtppmfmgmlicefabDoor.G Go.Proofs.YtppmfmgmlicefabDoor.Cell Go.Proofs.YtppmfmgmlicefabDoor.T3
set_option maxRecDepth 100000
/-- What is neither the register's nor the box of the document's. -/
def Nf (F : Nat → Prop) (q : Nat) : Nat → Prop := fun g => ¬ F g ∧ g ≠ q
/-- The program's register (state s), and the document's (state r) in the box q, as they lie. -/
structure Two (w V : World) (q br : Nat) (s r : St) (c : Int) (F : Nat → Prop) (p : RP) : Prop where
  reg : RegX V br s c F
  box : Blk V q 61 (p.arr r)
  rv : RV V (Nf F q) p r
  nq : ¬ F q
  hi : ∀ b, F b → b < V.heap.size
  lo : ∀ b, F b → w.heap.size ≤ b
  ql : w.heap.size ≤ q
  bel : Below w.heap.size w V
variable {w V V' : World} {q br : Nat} {s r s' r' : St} {c c' : Int} {F F' : Nat → Prop} {p p' : RP}
theorem Two.below (h : Two w V q br s r c F p) (hb : Below V.heap.size V V') : Two w V' q br s r c F p :=
  ⟨h.reg.below hb, h.box.bel hb, h.rv.bel hb, h.nq, fun b hf => Nat.lt_of_lt_of_le (h.hi b hf) hb.size, h.lo, h.ql, bt h.bel hb⟩
/-- New blocks are neither. -/
theorem Two.fresh (h : Two w V q br s r c F p) : ∀ g, V.heap.size ≤ g → Nf F q g := fun g hg => ⟨fun hf => by have := h.hi g hf; omega, by have := h.box.lt; omega⟩
/-- The document's answer put in its box. -/
theorem Two.put (h : Two w V q br s r c F p) (hb : Below V.heap.size V V') (hr : RV V' (Nf F q) p' r') {u0 u1 u2 u3 u4 u5 u6 u7 u8 u9 ua ub uc ud : Value} (he : p'.arr r' = #[u0, u1, u2, u3, u4, u5, u6, u7, u8, u9, ua, ub, uc, ud]) :
    Two w (put14 V' q u0 u1 u2 u3 u4 u5 u6 u7 u8 u9 ua ub uc ud) q br s r' c F p' := by
  have hO := only14 V' q (u0 := u0) (u1 := u1) (u2 := u2) (u3 := u3) (u4 := u4) (u5 := u5) (u6 := u6) (u7 := u7) (u8 := u8) (u9 := u9) (ua := ua) (ub := ub) (uc := uc) (ud := ud)
  have h' := h.below hb
  refine ⟨h'.reg.only hO (fun b hf e => h.nq (e ▸ hf)), ?_, hr.only hO (fun g hg e => hg.2 e), h.nq, fun b hf => Nat.lt_of_lt_of_le (h'.hi b hf) hO.size, h.lo, h.ql, bel_only h'.bel hO (fun b e => e ▸ h.ql)⟩
  rw [he]
  have b0 := (((((((((((((h'.box.set_ 0 u0).set_ 1 u1).set_ 2 u2).set_ 3 u3).set_ 4 u4).set_ 5 u5).set_ 6 u6).set_ 7 u7).set_ 8 u8).set_ 9 u9).set_ 10 ua).set_ 11 ub).set_ 12 uc).set_ 13 ud
  simpa using b0
/-- The program's answer. -/
theorem Two.call (h : Two w V q br s r c F p) (hr : RegX V' br s' c' F') (hm : More F F' V.heap.size) (hO : Only F V V') :
    Two w V' q br s' r c' (fun b => F' b ∧ b < V'.heap.size) p := by
  have hq := h.box.lt
  refine ⟨hr.tight, Only.blk h.box hO h.nq, ((h.rv.mono (N' := fun g => Nf F q g ∧ Nf (fun b => F' b ∧ b < V'.heap.size) q g) ?_).only hO (fun g hg hf => hg.1.1 hf)).mono (fun _ _ hg => hg.2), fun hf => ?_, fun b hf => hf.2, fun b hf => ?_, h.ql, Only.to_below h.bel hO h.lo h.bel.size⟩
  · intro g hg hn
    refine ⟨hn, fun hf => ?_, hn.2⟩
    rcases hm g hf.1 with h1 | h1
    · exact hn.1 h1
    · omega
  · rcases hm q hf.1 with h1 | h1
    · exact h.nq h1
    · omega
  · rcases hm b hf.1 with h1 | h1
    · exact h.lo b h1
    · exact Nat.le_trans h.bel.size h1
theorem et_of {w w' : World} (hg : Et w) (hb : Below w.heap.size w w') : Et w' := hg.below hb hg.pos
/-- The document's answer, in a new box. -/
structure Nx (V0 : World) (F : Nat → Prop) (q : Nat) (p' : RP) (r' : St) (nb : Nat) (V : World) : Prop where
  bel : Below V0.heap.size V0 V
  box : Blk V nb 61 (p'.arr r')
  rv : RV V (Nf F q) p' r'
  hn : V0.heap.size ≤ nb
theorem nx_alloc {V0 w8 : World} (hb : Below V0.heap.size V0 w8) (hv : RV w8 (fun g => Nf F q g ∧ ¬ False) p' r') : Nx V0 F q p' r' w8.heap.size (w8.alloc (.cells (p'.arr r') 61)) :=
  ⟨ba1 hb _, Blk.new _ _ _, (hv.mono (fun _ _ h => h.1)).bel (b01 _ _), hb.size⟩
theorem nx_put {V0 w8 : World} {nb : Nat} {z0 z1 z2 z3 z4 z5 z6 z7 z8 z9 za zb zc zd u0 u1 u2 u3 u4 u5 u6 u7 u8 u9 ua ub uc ud : Value} (hb : Below V0.heap.size V0 w8) (hn : V0.heap.size ≤ nb) (hz : Blk w8 nb 61 #[z0, z1, z2, z3, z4, z5, z6, z7, z8, z9, za, zb, zc, zd]) (hv : RV w8 (fun g => Nf F q g ∧ ¬ (g = nb)) p' r')
    (he : p'.arr r' = #[u0, u1, u2, u3, u4, u5, u6, u7, u8, u9, ua, ub, uc, ud]) : Nx V0 F q p' r' nb (put14 w8 nb u0 u1 u2 u3 u4 u5 u6 u7 u8 u9 ua ub uc ud) := by
  have hO := only14 w8 nb (u0 := u0) (u1 := u1) (u2 := u2) (u3 := u3) (u4 := u4) (u5 := u5) (u6 := u6) (u7 := u7) (u8 := u8) (u9 := u9) (ua := ua) (ub := ub) (uc := uc) (ud := ud)
  refine ⟨bel_only hb hO (fun b e => e ▸ hn), ?_, (hv.only hO (fun g hg e => hg.2 e)).mono (fun _ _ h => h.1), hn⟩
  rw [he]
  have b0 := (((((((((((((hz.set_ 0 u0).set_ 1 u1).set_ 2 u2).set_ 3 u3).set_ 4 u4).set_ 5 u5).set_ 6 u6).set_ 7 u7).set_ 8 u8).set_ 9 u9).set_ 10 ua).set_ 11 ub).set_ 12 uc).set_ 13 ud
  simpa using b0
theorem lf_put {w8 : World} {nb : Nat} {v : Value} {l : List Int} {u0 u1 u2 u3 u4 u5 u6 u7 u8 u9 ua ub uc ud : Value} (hl : LF w8 (fun g => Nf F q g ∧ ¬ (g = nb)) v l) : LF (put14 w8 nb u0 u1 u2 u3 u4 u5 u6 u7 u8 u9 ua ub uc ud) (Nf F q) v l :=
  (hl.only (only14 w8 nb) (fun g hg e => hg.2 e)).mono (fun _ _ h => h.1)
theorem lf_at {w8 : World} {v : Value} {l : List Int} {u0 u1 u2 u3 u4 u5 u6 u7 u8 u9 ua ub uc ud : Value} (hl : LF w8 (Nf F q) v l) (he : p'.arr r' = #[u0, u1, u2, u3, u4, u5, u6, u7, u8, u9, ua, ub, uc, ud]) : LF (put14 w8 q u0 u1 u2 u3 u4 u5 u6 u7 u8 u9 ua ub uc ud) (Nf F q) v l := by
  have := he
  exact hl.only (only14 w8 q) (fun g hg e => hg.2 e)
theorem lf_sl {V : World} {N : Nat → Prop} {v : Value} {l : List Int} (h : LF V N v l) : ∃ A c, v = .slice A l.length c ∧ LF V N (.slice A l.length c) l := by
  obtain ⟨A, c, rfl, h2⟩ := id h
  exact ⟨A, c, rfl, h⟩
theorem lf_row {V : World} {N : Nat → Prop} {v : Value} {l : List Int} (h : LF V N v l) : ∃ A c, v = .slice A l.length c ∧ Row V A (C04.ivs l) := by
  obtain ⟨A, c, e, _, _, hr⟩ := h.row
  exact ⟨A, c, e, hr⟩
theorem lst_row {V : World} {B : Nat} {v : Value} {l : List Int} (h : Lst V B v l) : ∃ A c, v = .slice A l.length c ∧ Row V A (C04.ivs l) :=
  lf_row (LF.of_own (N := fun _ => True) h rfl fun _ _ => trivial)
theorem take_row {V : World} {A : Option Addr} {l : List Int} (h : Row V A (iv' l)) : Row V A (iv' (l.take 8)) := by
  have := h.take 8
  rwa [show (iv' l).take 8 = iv' (l.take 8) by simp [iv']] at this
/-- The words that a step hands in: the first 8. -/
theorem xw8 {V : World} {N : Nat → Prop} {uA : Option Addr} {ul : List Int} {uc : Nat} (hr : Row V uA (iv' ul)) (h : RV V N p s) (ok : Ok s) (hN : ∀ g, V.heap.size ≤ g → N g) : Calls Tryd.prog 31 #[.agg (p.arr s), .slice uA (min ul.length 8) uc] V (XB V N (wBegin s (ul.take 8)) (wCode s (ul.take 8))) := by
  have := xwrite (c := uc) (l := ul.take 8) h ok hN (take_row hr)
  rwa [List.length_take, Nat.min_comm] at this
theorem ww8 {V : World} {uA : Option Addr} {ul : List Int} {uc : Nat} (h : RegX V br s c F) (hr : Row V uA (iv' ul)) : Calls Tryd.prog 33 #[P br, .slice uA (min ul.length 8) uc] V (BGPost br (wCode s (ul.take 8)) (wBegin s (ul.take 8)) c F V) := by
  have := wwrite_any (cp := uc) (l := ul.take 8) h (take_row hr)
  rwa [List.length_take, Nat.min_comm] at this
theorem inc0 {c : Int} {k : Nat} (h : c ≤ k) : c ≤ (k : Int) + 1 := by omega
theorem inc1 {c : Int} {k : Nat} (h : c ≤ k) : c + 1 ≤ (k : Int) + 1 := by omega
theorem hnq_ {V0 V : World} {nb : Nat} (h : Nx V0 F q p' r' nb V) (hq : q < V0.heap.size) : nb ≠ q := fun e => by have := h.hn; omega
theorem eqb_self (l : List Int) : C04.eqb l l = true := by unfold C04.eqb; exact decide_eq_true rfl
theorem bel14 {w V : World} {nb : Nat} {u0 u1 u2 u3 u4 u5 u6 u7 u8 u9 ua ub uc ud : Value} (h : Below w.heap.size w V) (hn : w.heap.size ≤ nb) : Below w.heap.size w (put14 V nb u0 u1 u2 u3 u4 u5 u6 u7 u8 u9 ua ub uc ud) :=
  bel_only h (only14 V nb) (fun x hx => by rw [hx]; exact hn)
theorem rfin_put {V0 w8 : World} {nb : Nat} {A2 : Option Addr} {n c2 : Nat} {l : List Int} {a b : Value} {z0 z1 z2 z3 z4 z5 z6 z7 z8 z9 za zb zc zd u0 u1 u2 u3 u4 u5 u6 u7 u8 u9 ua ub uc ud : Value} (hb : Below V0.heap.size V0 w8) (hn : V0.heap.size ≤ nb) (hz : Blk w8 nb 61 #[z0, z1, z2, z3, z4, z5, z6, z7, z8, z9, za, zb, zc, zd]) (hv : RV w8 (fun g => Nf F q g ∧ ¬ (g = nb)) p' r') (hA : LF w8 (fun g => Nf F q g ∧ ¬ (g = nb)) (.slice A2 n c2) l) (he : p'.arr r' = #[u0, u1, u2, u3, u4, u5, u6, u7, u8, u9, ua, ub, uc, ud]) :
    ∃ (nb' : Nat) (p2 : RP) (A : Option Addr) (c : Nat), Value.pointer (some ⟨nb, 0, none⟩) = .pointer (some ⟨nb', 0, none⟩) ∧ Nx V0 F q p2 r' nb' (put14 w8 nb u0 u1 u2 u3 u4 u5 u6 u7 u8 u9 ua ub uc ud) ∧ Value.slice A2 n c2 = .slice A n c ∧ a = a ∧ b = b ∧ LF (put14 w8 nb u0 u1 u2 u3 u4 u5 u6 u7 u8 u9 ua ub uc ud) (Nf F q) (.slice A n c) l :=
  ⟨_, p', A2, c2, rfl, nx_put hb hn hz hv he, rfl, rfl, rfl, lf_put hA⟩
theorem rfin_alloc {V0 w8 : World} {A2 : Option Addr} {n c2 : Nat} {l : List Int} {a b : Value} {u0 u1 u2 u3 u4 u5 u6 u7 u8 u9 ua ub uc ud : Value} (hb : Below V0.heap.size V0 w8) (hv : RV w8 (fun g => Nf F q g ∧ ¬ False) p' r') (hA : LF w8 (fun g => Nf F q g ∧ ¬ False) (.slice A2 n c2) l) (he : p'.arr r' = #[u0, u1, u2, u3, u4, u5, u6, u7, u8, u9, ua, ub, uc, ud]) :
    ∃ (nb' : Nat) (p2 : RP) (A : Option Addr) (c : Nat), Value.pointer (some ⟨w8.heap.size, 0, none⟩) = .pointer (some ⟨nb', 0, none⟩) ∧ Nx V0 F q p2 r' nb' (w8.alloc (.cells #[u0, u1, u2, u3, u4, u5, u6, u7, u8, u9, ua, ub, uc, ud] 61)) ∧ Value.slice A2 n c2 = .slice A n c ∧ a = a ∧ b = b ∧ LF (w8.alloc (.cells #[u0, u1, u2, u3, u4, u5, u6, u7, u8, u9, ua, ub, uc, ud] 61)) (Nf F q) (.slice A n c) l :=
  ⟨_, p', A2, c2, rfl, by have h := nx_alloc hb hv; rwa [he] at h, rfl, rfl, rfl, (hA.mono (fun _ _ h => h.1)).bel (b01 _ _)⟩
end Go.Proofs.YtppmfmgmlicefabDoor.triplePlays
