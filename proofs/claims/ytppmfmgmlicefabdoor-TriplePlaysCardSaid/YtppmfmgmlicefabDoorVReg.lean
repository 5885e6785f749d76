/- A register of three slots in memory: its blocks, and what stays where something else turns. -/
import Derived.Test.YtppmfmgmlicefabDoorV1
namespace Go.Proofs.YtppmfmgmlicefabDoor.T3
open Go.RowKit Go.Proofs.YtppmfmgmlicefabDoor.G Go.Proofs.YtppmfmgmlicefabDoor.Cell

/-- Where a write's blocks lie: what is under way, and its words. -/
structure WA where
  u : Nat
  L : Nat
  cap : Nat
structure RA where
  u : Nat
  t : Nat
def Lw (w : World) (g : Nat) (W : Nat) (l : List Int) : Prop := ∃ cs, Blk w g 3 cs ∧ ∀ j, j < W → cs[j]? = some (.int .i64 (nth l j))
structure WrAt (w : World) (W : Nat) (a : WA) (x : Wr) : Prop where
  run : Blk w a.u 114 #[.int .i64 x.k, .slice (some ⟨a.L, 0, none⟩) W a.cap]
  list : Lw w a.L W x.l
structure RdAt (w : World) (W : Nat) (a : RA) (y : Rr) : Prop where
  run : Blk w a.u 114 #[.int .i64 ((y.k : Int) - 2), .slice (some ⟨a.t, 0, none⟩) W W]
  t : Blk w a.t 3 (ints y.t)
def wpt (s : St) (wa : WA) : Value := .pointer (s.wr.map fun _ => ⟨wa.u, 0, none⟩)
def rpt (s : St) (ra : RA) : Value := .pointer (s.rd.map fun _ => ⟨ra.u, 0, none⟩)
def hd (s : St) (bm : Nat) (wp rp : Value) : Array Value := #[.int .i64 s.W, P bm, .int .i64 s.b, .int .i64 s.f, wp, rp]
structure WOrd (gm : Nat) (a : WA) (W : Nat) (F : Nat → Prop) : Prop where
  u : F a.u
  L : F a.L
  Lg : a.L ≠ gm
  cap : W ≤ a.cap
  cap2 : a.cap ≤ 9223372036854775807
structure ROrd (gm : Nat) (a : RA) (F : Nat → Prop) : Prop where
  u : F a.u
  t : F a.t
  tg : a.t ≠ gm
/-- A register: its struct in block br, its memory (struct bm, words gm), what is under way; F: all blocks that are its own. -/
structure Reg (w : World) (br bm gm : Nat) (wa : WA) (ra : RA) (s : St) (c : Int) (F : Nat → Prop) : Prop where
  head : Blk w br 109 (hd s bm (wpt s wa) (rpt s ra))
  mem : MemAt w bm gm s.m c
  own : F br ∧ F bm ∧ F gm
  wr : ∀ x, s.wr = some x → WrAt w s.W wa x
  wo : s.wr ≠ none → WOrd gm wa s.W F
  rd : ∀ y, s.rd = some y → RdAt w s.W ra y
  ro : s.rd ≠ none → ROrd gm ra F
  ap : s.wr ≠ none → s.rd ≠ none → wa.u ≠ ra.u ∧ wa.L ≠ ra.t
variable {w w' : World} {br bm gm W : Nat} {wa : WA} {ra : RA} {s : St} {c : Int} {F : Nat → Prop} {x : Wr} {y : Rr}
theorem wpt_some (hx : s.wr = some x) : wpt s wa = .pointer (some ⟨wa.u, 0, none⟩) := by simp [wpt, hx]
theorem rpt_some (hy : s.rd = some y) : rpt s ra = .pointer (some ⟨ra.u, 0, none⟩) := by simp [rpt, hy]
theorem wpt_none (hx : s.wr = none) : wpt s wa = .pointer none := by simp [wpt, hx]
theorem rpt_none (hy : s.rd = none) : rpt s ra = .pointer none := by simp [rpt, hy]
theorem Lw.only {G : Nat → Prop} {g : Nat} {l : List Int} (h : Lw w g W l) (hO : Only G w w') (hn : ¬ G g) : Lw w' g W l := by
  obtain ⟨cs, h1, h2⟩ := h
  exact ⟨cs, Only.blk h1 hO hn, h2⟩
theorem Lw.ne_ {g g' : Nat} {t : TypeId} {l : List Int} {cs : Array Value} (h : Lw w g W l) (h' : Blk w g' t cs) (hne : 3 ≠ t) : g ≠ g' := by
  obtain ⟨cs', h1, h2⟩ := h
  exact h1.ne_ h' hne
theorem Lw.lt {g : Nat} {l : List Int} (h : Lw w g W l) : g < w.heap.size := by
  obtain ⟨cs', h1, h2⟩ := h
  exact h1.lt
theorem WrAt.only {G : Nat → Prop} (h : WrAt w W wa x) (hO : Only G w w') (h1 : ¬ G wa.u) (h2 : ¬ G wa.L) : WrAt w' W wa x := ⟨Only.blk h.run hO h1, h.list.only hO h2⟩
theorem RdAt.only {G : Nat → Prop} (h : RdAt w W ra y) (hO : Only G w w') (h1 : ¬ G ra.u) (h2 : ¬ G ra.t) : RdAt w' W ra y := ⟨Only.blk h.run hO h1, Only.blk h.t hO h2⟩
theorem Reg.offm (h : Reg w br bm gm wa ra s c F) : br ≠ bm ∧ br ≠ gm ∧ bm ≠ gm := ⟨h.head.ne_ h.mem.head (by decide), h.head.ne_ h.mem.words (by decide), h.mem.ne⟩
theorem Reg.offw (h : Reg w br bm gm wa ra s c F) (hx : s.wr = some x) : wa.u ≠ br ∧ wa.u ≠ bm ∧ wa.u ≠ gm ∧ wa.L ≠ br ∧ wa.L ≠ bm ∧ wa.L ≠ gm ∧ wa.L ≠ wa.u :=
  ⟨(h.wr x hx).run.ne_ h.head (by decide), (h.wr x hx).run.ne_ h.mem.head (by decide), (h.wr x hx).run.ne_ h.mem.words (by decide), (h.wr x hx).list.ne_ h.head (by decide), (h.wr x hx).list.ne_ h.mem.head (by decide), (h.wo (by rw [hx]; simp)).Lg, (h.wr x hx).list.ne_ (h.wr x hx).run (by decide)⟩
theorem Reg.offr (h : Reg w br bm gm wa ra s c F) (hy : s.rd = some y) : ra.u ≠ br ∧ ra.u ≠ bm ∧ ra.u ≠ gm ∧ ra.t ≠ br ∧ ra.t ≠ bm ∧ ra.t ≠ gm ∧ ra.t ≠ ra.u :=
  ⟨(h.rd y hy).run.ne_ h.head (by decide), (h.rd y hy).run.ne_ h.mem.head (by decide), (h.rd y hy).run.ne_ h.mem.words (by decide), (h.rd y hy).t.ne_ h.head (by decide), (h.rd y hy).t.ne_ h.mem.head (by decide), (h.ro (by rw [hy]; simp)).tg, (h.rd y hy).t.ne_ (h.rd y hy).run (by decide)⟩
theorem Reg.offb (h : Reg w br bm gm wa ra s c F) (hx : s.wr = some x) (hy : s.rd = some y) : wa.u ≠ ra.u ∧ wa.L ≠ ra.t ∧ wa.u ≠ ra.t ∧ wa.L ≠ ra.u :=
  ⟨(h.ap (by rw [hx]; simp) (by rw [hy]; simp)).1, (h.ap (by rw [hx]; simp) (by rw [hy]; simp)).2, (h.wr x hx).run.ne_ (h.rd y hy).t (by decide), (h.wr x hx).list.ne_ (h.rd y hy).run (by decide)⟩
/-- Elsewhere: nothing turns. -/
theorem Reg.only (h : Reg w br bm gm wa ra s c F) {G : Nat → Prop} (hb : Only G w w') (hn : ∀ b, F b → ¬ G b) : Reg w' br bm gm wa ra s c F :=
  ⟨Only.blk h.head hb (hn _ h.own.1), ⟨Only.blk h.mem.head hb (hn _ h.own.2.1), Only.blk h.mem.words hb (hn _ h.own.2.2)⟩, h.own,
   fun x e => (h.wr x e).only hb (hn _ (h.wo (by rw [e]; simp)).u) (hn _ (h.wo (by rw [e]; simp)).L), h.wo,
   fun y e => (h.rd y e).only hb (hn _ (h.ro (by rw [e]; simp)).u) (hn _ (h.ro (by rw [e]; simp)).t), h.ro, h.ap⟩
theorem Reg.below (h : Reg w br bm gm wa ra s c F) (hb : Below w.heap.size w w') : Reg w' br bm gm wa ra s c F :=
  h.only (G := fun _ => False) (.of_below hb) fun _ _ => id
theorem Reg.mono {G : Nat → Prop} (h : Reg w br bm gm wa ra s c F) (hFG : ∀ b, F b → G b) : Reg w br bm gm wa ra s c G :=
  ⟨h.head, h.mem, ⟨hFG _ h.own.1, hFG _ h.own.2.1, hFG _ h.own.2.2⟩, h.wr, fun e => ⟨hFG _ (h.wo e).u, hFG _ (h.wo e).L, (h.wo e).Lg, (h.wo e).cap, (h.wo e).cap2⟩, h.rd, fun e => ⟨hFG _ (h.ro e).u, hFG _ (h.ro e).t, (h.ro e).tg⟩, h.ap⟩
/-- F's blocks that lie in this world are enough. -/
theorem Reg.tight (h : Reg w br bm gm wa ra s c F) : Reg w br bm gm wa ra s c (fun b => F b ∧ b < w.heap.size) :=
  ⟨h.head, h.mem, ⟨⟨h.own.1, h.head.lt⟩, ⟨h.own.2.1, h.mem.head.lt⟩, ⟨h.own.2.2, h.mem.words.lt⟩⟩, h.wr,
   fun e => by
    obtain ⟨x, hx⟩ := Option.ne_none_iff_exists'.1 e
    exact ⟨⟨(h.wo e).u, (h.wr x hx).run.lt⟩, ⟨(h.wo e).L, (h.wr x hx).list.lt⟩, (h.wo e).Lg, (h.wo e).cap, (h.wo e).cap2⟩, h.rd,
   fun e => by
    obtain ⟨y, hy⟩ := Option.ne_none_iff_exists'.1 e
    exact ⟨⟨(h.ro e).u, (h.rd y hy).run.lt⟩, ⟨(h.ro e).t, (h.rd y hy).t.lt⟩, (h.ro e).tg⟩, h.ap⟩
/-- The register behind a turn of its own blocks. -/
theorem Reg.new_ (h : Reg w br bm gm wa ra s c F) {s' : St} {c' : Int} (hW : s'.W = s.W) (hnw : s'.wr ≠ none → s.wr ≠ none) (hnr : s'.rd ≠ none → s.rd ≠ none)
    (hhead : Blk w' br 109 (hd s' bm (wpt s' wa) (rpt s' ra))) (hmem : MemAt w' bm gm s'.m c') (hwr : ∀ x, s'.wr = some x → WrAt w' s.W wa x) (hrd : ∀ y, s'.rd = some y → RdAt w' s.W ra y) : Reg w' br bm gm wa ra s' c' F :=
  ⟨hhead, hmem, h.own, fun x e => by rw [hW]; exact hwr x e, fun e => by rw [hW]; exact h.wo (hnw e), fun y e => by rw [hW]; exact hrd y e, fun e => h.ro (hnr e), fun e1 e2 => h.ap (hnw e1) (hnr e2)⟩
end Go.Proofs.YtppmfmgmlicefabDoor.T3
