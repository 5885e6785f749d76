/- A ring in memory: its blocks, its two sides, and what stays where something else turns. -/
import Derived.Test.YtpoidnajhcjmcaaDoorR0
namespace Go.Proofs.YtpoidnajhcjmcaaDoor.R8
open Go.RowKit Go.Proofs.YtpoidnajhcjmcaaDoor.G Go.Proofs.YtpoidnajhcjmcaaDoor.Cell Go.Proofs.YtpoidnajhcjmcaaDoor.Ob

/-- The cells of a side: its next access, head, tail, the words that are left, the words that are told. -/
structure Sv where
  n : Value
  h : Value
  t : Value
  l : Value
  o : Value
def zS : Sv := ⟨.nilFunc, .int .i64 0, .int .i64 0, .slice none 0 0, .slice none 0 0⟩
def hd (D W bm : Nat) (u o : Sv) : Array Value := #[.int .i64 D, .int .i64 W, P bm, u.n, u.h, u.t, u.l, u.o, o.n, o.h, o.t, o.l, o.o]
/-- A method value of the ring. -/
def fnV (K br : Nat) : Value := .func (.func K) #[P br] #[]
def uK (W k : Nat) : Nat := if k = 0 then 89 else if k = 1 then 116 else if k < 2 + W then 123 else 129
def oK (W k : Nat) : Nat := if k = 0 then 90 else if k = 1 then 117 else if k < 2 + W then 124 else 130
def UAt (w : World) (br W : Nat) (N : Nat → Prop) (v : Sv) : Option Pu → Prop
  | none => v = zS
  | some x => v.n = fnV (uK W x.k) br ∧ v.h = .int .i64 x.h ∧ v.t = .int .i64 x.t ∧ LF w N v.l (x.l.drop (x.k - 2)) ∧ v.o = .slice none 0 0
def OAt (w : World) (br W : Nat) (N : Nat → Prop) (v : Sv) : Option Po → Prop
  | none => v = zS
  | some y => v.n = fnV (oK W y.k) br ∧ v.h = .int .i64 y.h ∧ v.t = .int .i64 y.t ∧ v.l = .slice none 0 0 ∧ Lst w 0 v.o y.o ∧ ∀ g, v.o.ownBlock = some g → N g
/-- The blocks that may be the lists of a push: its own, and no one else's. -/
def Nu (br bm gm : Nat) (F : Nat → Prop) (t : Value) : Nat → Prop := fun g => F g ∧ g ≠ br ∧ g ≠ bm ∧ g ≠ gm ∧ t.ownBlock ≠ some g
def No (br bm gm : Nat) (F : Nat → Prop) : Nat → Prop := fun g => F g ∧ g ≠ br ∧ g ≠ bm ∧ g ≠ gm
/-- A ring: its struct in block br, its memory (struct bm, words gm), its sides; F: all blocks that are its own. -/
structure Reg (w : World) (br bm gm : Nat) (u o : Sv) (s : St) (c : Int) (F : Nat → Prop) : Prop where
  head : Blk w br 132 (hd s.D s.W bm u o)
  mem : MemAt w bm gm s.m c
  own : F br ∧ F bm ∧ F gm
  pu : UAt w br s.W (Nu br bm gm F o.o) u s.pu
  po : OAt w br s.W (No br bm gm F) o s.po
variable {w w' : World} {br bm gm W : Nat} {u o u' o' : Sv} {s : St} {c c' : Int} {F : Nat → Prop} {x : Pu} {y : Po}
theorem own_only {G : Nat → Prop} {B n m : Nat} {t : TypeId} {v : Value} {xs : List Value} (h : Own w B t m v n xs) (hO : Only G w w') (hn : ∀ g, v.ownBlock = some g → ¬ G g) : Own w' B t m v n xs := by
  refine ⟨h.1, ?_⟩
  rcases h.2 with h0 | ⟨g, cap, cur, hv, hB, hh, r⟩
  · exact .inl h0
  · refine .inr ⟨g, cap, cur, hv, hB, ?_, r⟩
    rw [hO.block g (Blk.lt (w := w) (t := t) (cs := cur) hh) (hn g (by rw [hv]; simp [Value.ownBlock]))]; exact hh
theorem UAt.only {N G : Nat → Prop} {o : Option Pu} (h : UAt w br W N u o) (hO : Only G w w') (hn : ∀ g, N g → ¬ G g) : UAt w' br W N u o := by
  cases o with
  | none => exact h
  | some x => exact ⟨h.1, h.2.1, h.2.2.1, h.2.2.2.1.only hO hn, h.2.2.2.2⟩
theorem UAt.mono {N N' : Nat → Prop} {o : Option Pu} (h : UAt w br W N u o) (hN : ∀ g, g < w.heap.size → N g → N' g) : UAt w br W N' u o := by
  cases o with
  | none => exact h
  | some x => exact ⟨h.1, h.2.1, h.2.2.1, h.2.2.2.1.mono hN, h.2.2.2.2⟩
theorem OAt.only {N G : Nat → Prop} {p : Option Po} (h : OAt w br W N o p) (hO : Only G w w') (hn : ∀ g, N g → ¬ G g) : OAt w' br W N o p := by
  cases p with
  | none => exact h
  | some y => exact ⟨h.1, h.2.1, h.2.2.1, h.2.2.2.1, own_only h.2.2.2.2.1 hO (fun g e => hn g (h.2.2.2.2.2 g e)), h.2.2.2.2.2⟩
theorem OAt.mono {N N' : Nat → Prop} {p : Option Po} (h : OAt w br W N o p) (hN : ∀ g, g < w.heap.size → N g → N' g) : OAt w br W N' o p := by
  cases p with
  | none => exact h
  | some y => exact ⟨h.1, h.2.1, h.2.2.1, h.2.2.2.1, h.2.2.2.2.1, fun g e => by
      obtain ⟨_, cur, hb⟩ := Own.block_lt h.2.2.2.2.1 e
      exact hN g hb.lt (h.2.2.2.2.2 g e)⟩
theorem Reg.offm (h : Reg w br bm gm u o s c F) : br ≠ bm ∧ br ≠ gm ∧ bm ≠ gm := ⟨h.head.ne_ h.mem.head (by decide), h.head.ne_ h.mem.words (by decide), h.mem.ne⟩
/-- Elsewhere: nothing turns. -/
theorem Reg.only (h : Reg w br bm gm u o s c F) {G : Nat → Prop} (hO : Only G w w') (hn : ∀ b, F b → ¬ G b) : Reg w' br bm gm u o s c F :=
  ⟨Only.blk h.head hO (hn _ h.own.1), ⟨Only.blk h.mem.head hO (hn _ h.own.2.1), Only.blk h.mem.words hO (hn _ h.own.2.2)⟩, h.own, h.pu.only hO (fun g hg => hn g hg.1), h.po.only hO (fun g hg => hn g hg.1)⟩
theorem Reg.below (h : Reg w br bm gm u o s c F) (hb : Below w.heap.size w w') : Reg w' br bm gm u o s c F :=
  h.only (G := fun _ => False) (.of_below hb) fun _ _ => id
theorem Reg.mono {G : Nat → Prop} (h : Reg w br bm gm u o s c F) (hFG : ∀ b, b < w.heap.size → F b → G b) : Reg w br bm gm u o s c G :=
  ⟨h.head, h.mem, ⟨hFG _ h.head.lt h.own.1, hFG _ h.mem.head.lt h.own.2.1, hFG _ h.mem.words.lt h.own.2.2⟩, h.pu.mono (fun g hg hh => ⟨hFG g hg hh.1, hh.2⟩), h.po.mono (fun g hg hh => ⟨hFG g hg hh.1, hh.2⟩)⟩
/-- F's blocks that lie in this world are enough. -/
theorem Reg.tight (h : Reg w br bm gm u o s c F) : Reg w br bm gm u o s c (fun b => F b ∧ b < w.heap.size) := h.mono fun _ hb hf => ⟨hf, hb⟩
/-- The ring behind an access of the push. -/
theorem Reg.unew (h : Reg w br bm gm u o s c F) {m' : List Int} {p' : Option Pu} (hO : Only (O3 bm gm br) w w') (hh : Blk w' br 132 (hd s.D s.W bm u' o)) (hm : MemAt w' bm gm m' c') (hp : UAt w' br s.W (Nu br bm gm F o.o) u' p') :
    Reg w' br bm gm u' o { s with m := m', pu := p' } c' F ∧ Only F w w' :=
  ⟨⟨hh, hm, h.own, hp, h.po.only hO (fun g hg e => by
    rcases e with e | e | e
    · exact hg.2.2.1 e
    · exact hg.2.2.2 e
    · exact hg.2.1 e)⟩, hO.mono fun b e => by
    rcases e with e | e | e
    · exact e ▸ h.own.2.1
    · exact e ▸ h.own.2.2
    · exact e ▸ h.own.1⟩
/-- The blocks of a pop's access. -/
def Oo (br bm gm : Nat) (t : Value) : Nat → Prop := fun b => O3 bm gm br b ∨ t.ownBlock = some b
/-- The ring behind an access of the pop. -/
theorem Reg.onew (h : Reg w br bm gm u o s c F) {m' : List Int} {p' : Option Po} (hO : Only (Oo br bm gm o.o) w w') (hh : Blk w' br 132 (hd s.D s.W bm u o')) (hm : MemAt w' bm gm m' c') (hp : OAt w' br s.W (No br bm gm (Gr F w.heap.size)) o' p')
    (hf : ∀ g, o.o.ownBlock = some g → F g) (ho : ∀ g, o'.o.ownBlock = some g → o.o.ownBlock = some g ∨ w.heap.size ≤ g) :
    Reg w' br bm gm u o' { s with m := m', po := p' } c' (Gr F w.heap.size) ∧ Only F w w' := by
  refine ⟨⟨hh, hm, ⟨.inl h.own.1, .inl h.own.2.1, .inl h.own.2.2⟩, ?_, hp⟩, hO.mono fun b e => ?_⟩
  · have h1 : UAt w br s.W (fun g => Nu br bm gm F o.o g ∧ g < w.heap.size) u s.pu := h.pu.mono fun g hg hh => ⟨hh, hg⟩
    have hlt : w.heap.size ≤ w'.heap.size := hO.size
    refine (h1.only hO (fun g hg e => ?_)).mono fun g _ hg => ⟨.inl hg.1.1, hg.1.2.1, hg.1.2.2.1, hg.1.2.2.2.1, fun e => ?_⟩
    · rcases e with (e | e | e) | e
      · exact hg.1.2.2.1 e
      · exact hg.1.2.2.2.1 e
      · exact hg.1.2.1 e
      · exact hg.1.2.2.2.2 e
    · rcases ho g e with e | e
      · exact hg.1.2.2.2.2 e
      · have := hg.2; omega
  · rcases e with (e | e | e) | e
    · exact e ▸ h.own.2.1
    · exact e ▸ h.own.2.2
    · exact e ▸ h.own.1
    · exact hf b e
end Go.Proofs.YtpoidnajhcjmcaaDoor.R8
