/- What the walk of CellPlays tells of: the program's memory and the document's, as they lie. -/
import Derived.Test.YthkpopphefolmaaDoorCRef5
import Derived.Deep.DeepCutAuto
import Derived.Deep.CutRange
import Derived.Deep.CutBlock
import Derived.StillTailTactics
import Derived.Deep.RegionHeld3
namespace Go.Proofs.YthkpopphefolmaaDoor.cellPlays
open Go.RowKit Go.Proofs.YthkpopphefolmaaDoor.G Go.Proofs.YthkpopphefolmaaDoor.Cell

theorem MemAt.alloc {w : World} {b g : Nat} {l : List Int} {c : Int} (h : MemAt w b g l c) (o : Obj) : MemAt (w.alloc o) b g l c := ⟨h.head.alloc o, h.words.alloc o⟩
theorem MemAt.bel {w w' : World} {b g : Nat} {l : List Int} {c : Int} (h : MemAt w b g l c) (hb : Below w.heap.size w w') : MemAt w' b g l c := ⟨h.head.bel hb, h.words.bel hb⟩
theorem MemAt.far {w : World} {b g q o : Nat} {l : List Int} {c : Int} {cs : Array Value} (h : MemAt w b g l c) (hq : Blk w q 28 cs) (u : Value) : MemAt (w.setCell ⟨q, o, none⟩ u) b g l c :=
  ⟨h.head.far (p := ⟨q, o, none⟩) (h.head.ne_ hq (by decide)) u, h.words.far (p := ⟨q, o, none⟩) (h.words.ne_ hq (by decide)) u⟩
/-- The program's memory (l, c), and the document's (r, n), as they lie. -/
def Two (W w : World) (b g q B : Nat) (l : List Int) (c : Int) (r : List Int) (n : Int) : Prop :=
  MemAt w b g l c ∧ (∃ (A : Option Addr) (m : Nat), Blk w q 28 #[.slice A r.length m, .int .i64 n] ∧ Lst w B (.slice A r.length m) r) ∧ Below W.heap.size W w ∧ B ≤ w.heap.size
theorem Two.alloc {W w : World} {b g q B : Nat} {l r : List Int} {c n : Int} (h : Two W w b g q B l c r n) (o : Obj) : Two W (w.alloc o) b g q B l c r n := by
  obtain ⟨h1, ⟨A, m, h2, h3⟩, h4, h5⟩ := h
  exact ⟨MemAt.alloc h1 o, ⟨A, m, h2.alloc o, Lst.alloc h3 o⟩, h4.alloc h4.size o, by rw [World.size_alloc]; omega⟩
theorem Two.keep {W w w' : World} {b g q B : Nat} {l r l' : List Int} {c n c' : Int} (h : Two W w b g q B l c r n) (hk : Keep b g w w') (hm : MemAt w' b g l' c') (h1 : b < B) (h2 : g < B) (w1 : W.heap.size ≤ b) (w2 : W.heap.size ≤ g) : Two W w' b g q B l' c' r n := by
  obtain ⟨m1, ⟨A, m, q2, q3⟩, q4, q5⟩ := h
  exact ⟨hm, ⟨A, m, Blk.keep q2 hk (q2.ne_ m1.head (by decide)) (q2.ne_ m1.words (by decide)), q3.keep hk h1 h2⟩, Below.keep q4 hk q4.size w1 w2, Nat.le_trans q5 hk.size⟩
theorem Two.bel {W w w' : World} {b g q B : Nat} {l r : List Int} {c n : Int} (h : Two W w b g q B l c r n) (hb : Below w.heap.size w w') : Two W w' b g q B l c r n := by
  obtain ⟨m1, ⟨A, m, q2, q3⟩, q4, q5⟩ := h
  exact ⟨MemAt.bel m1 hb, ⟨A, m, q2.bel hb, Lst.below q3 hb⟩, q4.trans (hb.mono q4.size), Nat.le_trans q5 hb.size⟩
/-- The document's answer put in the place of what was there. -/
theorem Two.put {W w w' : World} {b g q B : Nat} {l r r' : List Int} {c n n' : Int} {A' : Option Addr} {m' : Nat} (h : Two W w b g q B l c r n) (hb : Below w.heap.size w w') (hv : Lst w' B (.slice A' r'.length m') r') (hq : W.heap.size ≤ q) (o : Obj) :
    Two W (((w'.setCell ⟨q, 0, none⟩ (.slice A' r'.length m')).setCell ⟨q, 1, none⟩ (.int .i64 n')).alloc o) b g q B l c r' n' := by
  obtain ⟨m1, ⟨A, m, q2, q3⟩, q4, q5⟩ := h
  have b0 := q2.bel hb
  have b1 := b0.set_ 0 (.slice A' r'.length m')
  refine Two.alloc ⟨MemAt.far (MemAt.far (MemAt.bel m1 hb) b0 _) b1 _, ⟨A', m', ?_, Lst.far28 (Lst.far28 hv b0 _) b1 _⟩, ((q4.trans (hb.mono q4.size)).setCell (p := ⟨q, 0, none⟩) hq _).setCell (p := ⟨q, 1, none⟩) hq _, ?_⟩ o
  · simpa using (b1.set_ 1 (.int .i64 n'))
  · have := hb.size
    simp [World.setCell]
    omega
theorem et_of {w w' : World} (hg : Et w) (hb : Below w.heap.size w w') : Et w' := hg.below hb hg.pos

end Go.Proofs.YthkpopphefolmaaDoor.cellPlays
