/- A pool: calls whose answers the statements do not ask: contracts for a property that is kept. -/
import Derived.Test.YtppmfmgmlicefaaPLive
import Derived.Test.YtppmfmgmlicefaaPArgs
import Derived.Test.YtppmfmgmlicefaaIvRow
import Derived.Deep.CutBlock
namespace Go.Proofs.Ytppmfmgmlicefaa.P9
open Go.RowKit Go.Proofs.Ytppmfmgmlicefaa.G
set_option maxRecDepth 100000
variable {w w' : World} {b n : Nat} {s : SS} {t : Nat → Int} {c : Int}
/-- A pool whose slots fulfil Q; each was taken at most c times. -/
def PQ (w : World) (b n : Nat) (Q : SS → Prop) (c : Int) : Prop := ∃ s t, Pl w b n s t c ∧ Q s
theorem PQ.below {Q : SS → Prop} (h : PQ w b n Q c) (hb : Below w.heap.size w w') : PQ w' b n Q c := by
  obtain ⟨s, t, h1, h2⟩ := h; exact ⟨s, t, h1.below hb, h2⟩
theorem PQ.more {Q : SS → Prop} (h : PQ w b n Q c) {c' : Int} (hc : c ≤ c') : PQ w b n Q c' := by
  obtain ⟨s, t, h1, h2⟩ := h; exact ⟨s, t, h1.more hc, h2⟩
def TqPost (b n : Nat) (Q : SS → Prop) (c : Int) (w : World) (e : Ending) (w' : World) : Prop :=
  ∃ r1 r2 : Int, e = .returned (.tuple #[.int .i64 r1, .int .i64 r2]) ∧ PQ w' b n Q (c + 1) ∧ Ob b w w'
theorem take_q {Q : SS → Prop} (h : PQ w b n Q c) (v : Int) (hc : c ≤ 1000000) (hQ : ∀ s k, Q s → Low n s k → Q (upd s k (some v))) : Calls Try.prog 15 #[.pointer (some ⟨b, 0, none⟩), .int .i64 v] w (TqPost b n Q c w) := by
  obtain ⟨s, t, h1, h2⟩ := h
  rcases low_or_full s n with hf | ⟨k, hk⟩
  · exact (take_full h1 v hf).mono fun e w' ⟨he, hp, hb⟩ => ⟨_, _, he, ⟨s, t, hp.more (by omega), h2⟩, Ob.of hb⟩
  · exact (take_low h1 v hk hc).mono fun e w' ⟨he, hp, ho⟩ => ⟨_, _, he, ⟨_, _, hp, hQ s k h2 hk⟩, ho⟩
def GqPost (b n : Nat) (Q : SS → Prop) (c : Int) (w : World) (e : Ending) (w' : World) : Prop :=
  ∃ r : Int, e = .returned (.int .i64 r) ∧ PQ w' b n Q c ∧ Ob b w w'
theorem give_q {Q : SS → Prop} (h : PQ w b n Q c) (k v : Int) (hQ : ∀ s, Q s → Q (gst n s k v)) : Calls Try.prog 17 #[.pointer (some ⟨b, 0, none⟩), .int .i64 k, .int .i64 v] w (GqPost b n Q c w) := by
  obtain ⟨s, t, h1, h2⟩ := h
  exact (give_any h1 k v).mono fun e w' ⟨he, hp, ho⟩ => ⟨_, he, ⟨_, _, hp, hQ s h2⟩, ho⟩
theorem let_q {Q : SS → Prop} (h : PQ w b n Q c) (v : Int) (hQ : ∀ s, Q s → Q (letS n s v)) : Calls Try.prog 19 #[.pointer (some ⟨b, 0, none⟩), .int .i64 v] w (GqPost b n Q c w) := by
  obtain ⟨s, t, h1, h2⟩ := h
  exact (let_any h1 v).mono fun e w' ⟨he, hp, ho⟩ => ⟨_, he, ⟨_, _, hp, hQ s h2⟩, ho⟩
/-- The document's own Same of two rows that are the same. -/
theorem same_yes {A B : Option Addr} {c d : Nat} {l : List Int} (ha : Row w A (iv l)) (hb : Row w B (iv l)) (hl : l.length ≤ 1000000) : Calls Try.prog 23 #[.slice A l.length c, .slice B l.length d] w fun e w' => e = .returned (.bool true) ∧ Below w.heap.size w w' :=
  (C04.rsame1_any (l := l) (r := l) ha hb (by omega) (by omega)).mono fun e w' ⟨he, m, hm⟩ => by
    subst hm
    refine ⟨?_, bn (Below.refl _ _) _⟩
    rw [he]; unfold C04.eqb; rw [decide_eq_true rfl]
end Go.Proofs.Ytppmfmgmlicefaa.P9
