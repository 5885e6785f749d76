/- Words for an object in memory: what turned but some blocks, lists that are told. -/
import Derived.Test.YtppmfmgmlicefabDoorCNew
import Derived.Test.YtppmfmgmlicefabDoorVPl
namespace Go.Proofs.YtppmfmgmlicefabDoor.T3
open Go.RowKit Go.Proofs.YtppmfmgmlicefabDoor.G Go.Proofs.YtppmfmgmlicefabDoor.Cell
set_option maxRecDepth 100000

/-- Nothing but the blocks of F, and new ones, has turned. -/
structure Only (F : Nat → Prop) (w w' : World) : Prop where
  os : w'.os = w.os
  tape : w'.tape = w.tape
  output : w'.output = w.output
  size : w.heap.size ≤ w'.heap.size
  block : ∀ b, b < w.heap.size → ¬ F b → w'.heap[b]? = w.heap[b]?
/-- F, and all blocks from n on. -/
def Gr (F : Nat → Prop) (n : Nat) : Nat → Prop := fun b => F b ∨ n ≤ b
theorem Only.refl (F : Nat → Prop) (w : World) : Only F w w := ⟨rfl, rfl, rfl, Nat.le_refl _, fun _ _ _ => rfl⟩
theorem Only.trans {F : Nat → Prop} {x y z : World} (h : Only F x y) (k : Only (Gr F x.heap.size) y z) : Only F x z :=
  ⟨k.os.trans h.os, k.tape.trans h.tape, k.output.trans h.output, Nat.le_trans h.size k.size, fun b hb hn => (k.block b (Nat.lt_of_lt_of_le hb h.size) (fun hh => hh.elim hn (fun h2 => by omega))).trans (h.block b hb hn)⟩
theorem Only.mono {F G : Nat → Prop} {x y : World} (h : Only F x y) (hFG : ∀ b, F b → G b) : Only G x y := ⟨h.os, h.tape, h.output, h.size, fun b hb hn => h.block b hb fun hf => hn (hFG b hf)⟩
theorem Only.trans_ {F : Nat → Prop} {x y z : World} (h : Only F x y) (k : Only F y z) : Only F x z := h.trans (k.mono fun _ hb => .inl hb)
theorem Only.of_below {F : Nat → Prop} {w w' : World} (h : Below w.heap.size w w') : Only F w w' := ⟨h.os, h.tape, h.output, h.size, fun b hb _ => h.block b hb⟩
theorem Only.of_keep {F : Nat → Prop} {b g : Nat} {w w' : World} (h : Keep b g w w') (hb : F b) (hg : F g) : Only F w w' :=
  ⟨h.os, h.tape, h.output, h.size, fun k hk hn => h.block k hk (fun e => hn (e ▸ hb)) (fun e => hn (e ▸ hg))⟩
theorem Only.set_ {F : Nat → Prop} {a w : World} (h : Only F a w) {b : Nat} (hb : F b) (i : Nat) (u : Value) : Only F a (w.setCell ⟨b, i, none⟩ u) :=
  ⟨h.os, h.tape, h.output, by simpa [World.setCell] using h.size, fun k hk hn => (Below.heap_setCell w ⟨b, i, none⟩ u k (fun e => hn (by rw [e]; exact hb))).trans (h.block k hk hn)⟩
theorem Only.drew {F : Nat → Prop} {a w : World} (h : Only F a w) : Only F a w.drew := ⟨h.os, h.tape, h.output, h.size, h.block⟩
theorem Only.to_below {F : Nat → Prop} {B : Nat} {a w w' : World} (h : Below B a w) (k : Only F w w') (hF : ∀ b, F b → B ≤ b) (hB : B ≤ w.heap.size) : Below B a w' :=
  h.trans ⟨k.os, k.tape, k.output, k.size, fun b hb => k.block b (by omega) (fun hf => by have := hF b hf; omega)⟩
theorem Only.blk {F : Nat → Prop} {w w' : World} {g : Nat} {t : TypeId} {cs : Array Value} (h : Blk w g t cs) (k : Only F w w') (hn : ¬ F g) : Blk w' g t cs := (k.block g h.lt hn).trans h

def P (b : Nat) : Value := .pointer (some ⟨b, 0, none⟩)
theorem Gr.mono {F : Nat → Prop} {n m : Nat} (h : n ≤ m) : ∀ b, Gr F m b → Gr F n b := fun b hb => hb.elim .inl fun h2 => .inr (Nat.le_trans h h2)
def IntPost (n : Nat) (w : World) (e : Ending) (w' : World) : Prop := e = .returned (.int .i64 (n : Int)) ∧ w = w'
def BoolPost (b : Bool) (w : World) (e : Ending) (w' : World) : Prop := e = .returned (.bool b) ∧ w = w'
theorem returned_int {a b : Int} (h : a = b) : Ending.returned (.int .i64 a) = .returned (.int .i64 b) := by rw [h]
variable {w w' : World} {F : Nat → Prop}
def iv' (l : List Int) : List Value := l.map (Value.int .i64)
theorem iv'_at (l : List Int) {k : Nat} (h : k < l.length) : (iv' l)[k]? = some (.int .i64 (nth l k)) := by simp [iv', nth, h]
theorem row_at {A : Option Addr} {l : List Int} (h : Row w A (iv' l)) {k : Nat} (hk : k < l.length) : ∃ b o : Nat, A = some ⟨b, o, none⟩ ∧ b < w.heap.size ∧ w.cell? ⟨b, o + k, none⟩ = some (.int .i64 (nth l k)) := by
  obtain ⟨b, o, e, hb, hc⟩ := h (by simp [iv']; omega)
  exact ⟨b, o, e, hb, hc k _ (iv'_at l hk)⟩
/-- A list of numbers that is told. -/
def Out (w : World) (v : Value) (l : List Int) : Prop := l.length ≤ 1000 ∧ ((l = [] ∧ v = .slice none 0 0) ∨ ∃ t, v = .slice (some ⟨t, 0, none⟩) l.length l.length ∧ Blk w t 3 (ints l))
theorem Out.row {v : Value} {l : List Int} (h : Out w v l) : ∃ A cp, v = .slice A l.length cp ∧ l.length ≤ cp ∧ cp ≤ 9223372036854775807 ∧ Row w A (iv' l) := by
  obtain ⟨h1, h2⟩ := h
  rcases h2 with ⟨rfl, rfl⟩ | ⟨t, rfl, hb⟩
  · exact ⟨none, 0, rfl, Nat.le_refl _, by omega, Row.none_⟩
  · exact ⟨_, _, rfl, Nat.le_refl _, by omega, Row.of_blk hb fun j u hj => by unfold ints; simpa [iv'] using hj⟩
theorem Out.nil_ (w : World) : Out w (.slice none 0 0) [] := ⟨by simp, .inl ⟨rfl, rfl⟩⟩
theorem Out.of_blk {t : Nat} {l : List Int} (h : Blk w t 3 (ints l)) (hl : l.length ≤ 1000) : Out w (.slice (some ⟨t, 0, none⟩) l.length l.length) l :=
  ⟨hl, .inr ⟨t, rfl, h⟩⟩
theorem Out.far {v : Value} {l : List Int} {g : Nat} {t' : TypeId} {cs : Array Value} (h : Out w v l) (hg : Blk w g t' cs) (ht : 3 ≠ t') (i : Nat) (u : Value) : Out (w.setCell ⟨g, i, none⟩ u) v l := by
  obtain ⟨h1, h2⟩ := h
  refine ⟨h1, ?_⟩
  rcases h2 with h2 | ⟨t, e, hb⟩
  · exact .inl h2
  · exact .inr ⟨t, e, hb.far (p := ⟨g, i, none⟩) (hb.ne_ hg ht) u⟩
theorem Out.below {v : Value} {l : List Int} (h : Out w v l) (hb : Below w.heap.size w w') : Out w' v l := by
  obtain ⟨h1, h2⟩ := h
  refine ⟨h1, ?_⟩
  rcases h2 with h2 | ⟨t, e, hb'⟩
  · exact .inl h2
  · exact .inr ⟨t, e, hb'.bel hb⟩
/-- All blocks from n on. -/
def Fr (n : Nat) : Nat → Prop := fun b => n ≤ b
theorem Only.fr {n : Nat} {a : World} (h : Below n a w) (k : Only (Fr n) w w') (hB : n ≤ w.heap.size) : Below n a w' := Only.to_below h k (fun _ hb => hb) hB
/-- All old blocks but those of G are as they were; F' is F, and new blocks. -/
def More (F F' : Nat → Prop) (n : Nat) : Prop := ∀ b, F' b → F b ∨ n ≤ b
theorem More.trans {F G H : Nat → Prop} {n m : Nat} (h : More F G n) (k : More G H m) (hn : n ≤ m) : More F H n := fun b hb => by
  rcases k b hb with h1 | h1
  · exact h b h1
  · exact .inr (Nat.le_trans hn h1)
theorem More.refl (F : Nat → Prop) (n : Nat) : More F F n := fun _ h => .inl h
def FG (F : Nat → Prop) (gw : Nat) : Nat → Prop := fun k => F k ∨ k = gw
variable {gw : Nat}
theorem Et.only {G : Nat → Prop} (h : Et w) (hO : Only G w w') (hn : ¬ G 0) : Et w' := by
  have hp := h.pos
  unfold Et at h ⊢
  rw [World.cell?_of_block (hO.block 0 hp hn)]; exact h
theorem more_gr (F : Nat → Prop) (n : Nat) : More F (Gr F n) n := fun _ h => h
theorem only_chain {F F' : Nat → Prop} {x y z : World} (h : Only (FG F gw) x y) (hm : More F F' x.heap.size) (k : Only (FG F' gw) y z) : Only (FG F gw) x z :=
  h.trans (k.mono fun b hb => by
    rcases hb with h1 | h1
    · rcases hm b h1 with h2 | h2
      · exact .inl (.inl h2)
      · exact .inr h2
    · exact .inl (.inr h1))
section
variable {w : World} {bm gm : Nat} {m : List Int} {c : Int}
theorem write_ok (hm : MemAt w bm gm m c) (hl : m.length ≤ 4096) (c0 : 0 ≤ c) (c1 : c ≤ 1099511627776) {i : Int} (k : Nat) (hi : i = k) (hk : k < m.length) (v : Int) (hv : okV v = true) :
    Calls Tryd.prog 90 #[P bm, .int .i64 i, .int .i64 v] w fun e w' => e = .returned (.int .i64 0) ∧ MemAt w' bm gm (m.set k v) (c + 1) ∧ Keep bm gm w w' := by
  subst hi
  unfold P
  go_enter Tryd.func90, Tryd.ntmps90
  go_wp2_with (go_at_call 113; refine (swap_ok hm hl c0 c1 k hk v hv).mono ?_; rintro e w' ⟨rfl, hm', hk'⟩)
  go_ret
  exact ⟨rfl, hm', hk'⟩
/-- Three blocks alone have turned. -/
def O3 (a b c : Nat) : Nat → Prop := fun k => k = a ∨ k = b ∨ k = c
theorem keep3 {w w' : World} {o : Nat} (h : Keep bm gm w w') : Only (O3 bm gm o) w w' := .of_keep h (.inl rfl) (.inr (.inl rfl))
theorem keep3s {w w' : World} {o : Nat} (h : Keep bm gm w w') (i : Nat) (u : Value) : Only (O3 bm gm o) w (w'.setCell ⟨o, i, none⟩ u) := Only.set_ (keep3 h) (.inr (.inr rfl)) i u
end
end Go.Proofs.YtppmfmgmlicefabDoor.T3
