/- Words for an object in memory, whatever the program: what turned but some blocks, lists that are told, lists that can be read. -/
import Derived.Test.YtpoidnajhcjmcaaDoorCNew
import Derived.Test.YtpoidnajhcjmcaaDoorF0
namespace Go.Proofs.YtpoidnajhcjmcaaDoor.Ob
open Go.RowKit Go.Proofs.YtpoidnajhcjmcaaDoor.G Go.Proofs.YtpoidnajhcjmcaaDoor.Cell
set_option maxRecDepth 100000

/-- Nothing but the blocks of F, and new ones, has turned. -/
structure Only (F : Nat → Prop) (w w' : World) : Prop where
  os : w'.os = w.os
  tape : w'.tape = w.tape
  output : w'.output = w.output
  size : w.heap.size ≤ w'.heap.size
  block : ∀ b, b < w.heap.size → ¬ F b → w'.heap[b]? = w.heap[b]?
/-- F, and all blocks from n on. -/
def Gr (F : Nat → Prop) (n : Nat) : Nat → Prop := fun b => F b ∨ n ≤ b
theorem Only.refl (F : Nat → Prop) (w : World) : Only F w w := ⟨rfl, rfl, rfl, Nat.le_refl _, fun _ _ _ => rfl⟩
theorem Only.trans {F : Nat → Prop} {x y z : World} (h : Only F x y) (k : Only (Gr F x.heap.size) y z) : Only F x z :=
  ⟨k.os.trans h.os, k.tape.trans h.tape, k.output.trans h.output, Nat.le_trans h.size k.size, fun b hb hn => (k.block b (Nat.lt_of_lt_of_le hb h.size) (fun hh => hh.elim hn (fun h2 => by omega))).trans (h.block b hb hn)⟩
theorem Only.mono {F G : Nat → Prop} {x y : World} (h : Only F x y) (hFG : ∀ b, F b → G b) : Only G x y := ⟨h.os, h.tape, h.output, h.size, fun b hb hn => h.block b hb fun hf => hn (hFG b hf)⟩
theorem Only.trans_ {F : Nat → Prop} {x y z : World} (h : Only F x y) (k : Only F y z) : Only F x z := h.trans (k.mono fun _ hb => .inl hb)
theorem Only.of_below {F : Nat → Prop} {w w' : World} (h : Below w.heap.size w w') : Only F w w' := ⟨h.os, h.tape, h.output, h.size, fun b hb _ => h.block b hb⟩
theorem Only.of_keep {F : Nat → Prop} {b g : Nat} {w w' : World} (h : Keep b g w w') (hb : F b) (hg : F g) : Only F w w' :=
  ⟨h.os, h.tape, h.output, h.size, fun k hk hn => h.block k hk (fun e => hn (e ▸ hb)) (fun e => hn (e ▸ hg))⟩
theorem Only.set_ {F : Nat → Prop} {a w : World} (h : Only F a w) {b : Nat} (hb : F b) (i : Nat) (u : Value) : Only F a (w.setCell ⟨b, i, none⟩ u) :=
  ⟨h.os, h.tape, h.output, by simpa [World.setCell] using h.size, fun k hk hn => (Below.heap_setCell w ⟨b, i, none⟩ u k (fun e => hn (by rw [e]; exact hb))).trans (h.block k hk hn)⟩
theorem Only.drew {F : Nat → Prop} {a w : World} (h : Only F a w) : Only F a w.drew := ⟨h.os, h.tape, h.output, h.size, h.block⟩
theorem Only.to_below {F : Nat → Prop} {B : Nat} {a w w' : World} (h : Below B a w) (k : Only F w w') (hF : ∀ b, F b → B ≤ b) (hB : B ≤ w.heap.size) : Below B a w' :=
  h.trans ⟨k.os, k.tape, k.output, k.size, fun b hb => k.block b (by omega) (fun hf => by have := hF b hf; omega)⟩
theorem Only.blk {F : Nat → Prop} {w w' : World} {g : Nat} {t : TypeId} {cs : Array Value} (h : Blk w g t cs) (k : Only F w w') (hn : ¬ F g) : Blk w' g t cs := (k.block g h.lt hn).trans h

theorem Only.drewN {F : Nat → Prop} {a w : World} (h : Only F a w) (n : Nat) : Only F a (w.drewN n) := ⟨h.os, h.tape, h.output, h.size, h.block⟩
theorem mem_drewN {w : World} {b g : Nat} {l : List Int} {c : Int} (h : MemAt w b g l c) (n : Nat) : MemAt (w.drewN n) b g l c := ⟨h.head.drewN n, h.words.drewN n⟩
/-- A call that only reads, inside a region that draws. -/
theorem quiet_left {P : Program} {f : FuncId} {args : Array Value} {w : World} {n : Nat} {v : Value}
    (h : Calls P f args (w.drewN n) fun e w' => e = .returned v ∧ w.drewN n = w') : Calls P f args (w.drewN n) fun e w'' => e = .returned v ∧ ∃ m, w'' = w.drewN m :=
  h.mono fun _ _ ⟨he, hm⟩ => ⟨he, n, hm.symm⟩
def P (b : Nat) : Value := .pointer (some ⟨b, 0, none⟩)
theorem Gr.mono {F : Nat → Prop} {n m : Nat} (h : n ≤ m) : ∀ b, Gr F m b → Gr F n b := fun b hb => hb.elim .inl fun h2 => .inr (Nat.le_trans h h2)
def IntPost (n : Nat) (w : World) (e : Ending) (w' : World) : Prop := e = .returned (.int .i64 (n : Int)) ∧ w = w'
def BoolPost (b : Bool) (w : World) (e : Ending) (w' : World) : Prop := e = .returned (.bool b) ∧ w = w'
theorem returned_int {a b : Int} (h : a = b) : Ending.returned (.int .i64 a) = .returned (.int .i64 b) := by rw [h]
variable {w w' : World} {F : Nat → Prop}
def iv' (l : List Int) : List Value := l.map (Value.int .i64)
theorem iv'_at (l : List Int) {k : Nat} (h : k < l.length) : (iv' l)[k]? = some (.int .i64 (nth l k)) := by simp [iv', nth, h]
theorem row_at {A : Option Addr} {l : List Int} (h : Row w A (iv' l)) {k : Nat} (hk : k < l.length) : ∃ b o : Nat, A = some ⟨b, o, none⟩ ∧ b < w.heap.size ∧ w.cell? ⟨b, o + k, none⟩ = some (.int .i64 (nth l k)) := by
  obtain ⟨b, o, e, hb, hc⟩ := h (by simp [iv']; omega)
  exact ⟨b, o, e, hb, hc k _ (iv'_at l hk)⟩
/-- A list of numbers that is told. -/
def Out (w : World) (v : Value) (l : List Int) : Prop := l.length ≤ 1000 ∧ ((l = [] ∧ v = .slice none 0 0) ∨ ∃ t, v = .slice (some ⟨t, 0, none⟩) l.length l.length ∧ Blk w t 3 (ints l))
theorem Out.row {v : Value} {l : List Int} (h : Out w v l) : ∃ A cp, v = .slice A l.length cp ∧ l.length ≤ cp ∧ cp ≤ 9223372036854775807 ∧ Row w A (iv' l) := by
  obtain ⟨h1, h2⟩ := h
  rcases h2 with ⟨rfl, rfl⟩ | ⟨t, rfl, hb⟩
  · exact ⟨none, 0, rfl, Nat.le_refl _, by omega, Row.none_⟩
  · exact ⟨_, _, rfl, Nat.le_refl _, by omega, Row.of_blk hb fun j u hj => by unfold ints; simpa [iv'] using hj⟩
theorem Out.nil_ (w : World) : Out w (.slice none 0 0) [] := ⟨by simp, .inl ⟨rfl, rfl⟩⟩
theorem Out.of_blk {t : Nat} {l : List Int} (h : Blk w t 3 (ints l)) (hl : l.length ≤ 1000) : Out w (.slice (some ⟨t, 0, none⟩) l.length l.length) l :=
  ⟨hl, .inr ⟨t, rfl, h⟩⟩
theorem Out.far {v : Value} {l : List Int} {g : Nat} {t' : TypeId} {cs : Array Value} (h : Out w v l) (hg : Blk w g t' cs) (ht : 3 ≠ t') (i : Nat) (u : Value) : Out (w.setCell ⟨g, i, none⟩ u) v l := by
  obtain ⟨h1, h2⟩ := h
  refine ⟨h1, ?_⟩
  rcases h2 with h2 | ⟨t, e, hb⟩
  · exact .inl h2
  · exact .inr ⟨t, e, hb.far (p := ⟨g, i, none⟩) (hb.ne_ hg ht) u⟩
theorem Out.below {v : Value} {l : List Int} (h : Out w v l) (hb : Below w.heap.size w w') : Out w' v l := by
  obtain ⟨h1, h2⟩ := h
  refine ⟨h1, ?_⟩
  rcases h2 with h2 | ⟨t, e, hb'⟩
  · exact .inl h2
  · exact .inr ⟨t, e, hb'.bel hb⟩
/-- All blocks from n on. -/
def Fr (n : Nat) : Nat → Prop := fun b => n ≤ b
theorem Only.fr {n : Nat} {a : World} (h : Below n a w) (k : Only (Fr n) w w') (hB : n ≤ w.heap.size) : Below n a w' := Only.to_below h k (fun _ hb => hb) hB
/-- All old blocks but those of G are as they were; F' is F, and new blocks. -/
def More (F F' : Nat → Prop) (n : Nat) : Prop := ∀ b, F' b → F b ∨ n ≤ b
theorem More.trans {F G H : Nat → Prop} {n m : Nat} (h : More F G n) (k : More G H m) (hn : n ≤ m) : More F H n := fun b hb => by
  rcases k b hb with h1 | h1
  · exact h b h1
  · exact .inr (Nat.le_trans hn h1)
theorem More.refl (F : Nat → Prop) (n : Nat) : More F F n := fun _ h => .inl h
def FG (F : Nat → Prop) (gw : Nat) : Nat → Prop := fun k => F k ∨ k = gw
variable {gw : Nat}
theorem Et.only {G : Nat → Prop} (h : Et w) (hO : Only G w w') (hn : ¬ G 0) : Et w' := by
  have hp := h.pos
  unfold Et at h ⊢
  rw [World.cell?_of_block (hO.block 0 hp hn)]; exact h
theorem more_gr (F : Nat → Prop) (n : Nat) : More F (Gr F n) n := fun _ h => h
theorem only_chain {F F' : Nat → Prop} {x y z : World} (h : Only (FG F gw) x y) (hm : More F F' x.heap.size) (k : Only (FG F' gw) y z) : Only (FG F gw) x z :=
  h.trans (k.mono fun b hb => by
    rcases hb with h1 | h1
    · rcases hm b h1 with h2 | h2
      · exact .inl (.inl h2)
      · exact .inr h2
    · exact .inl (.inr h1))
section
variable {w : World} {bm gm : Nat} {m : List Int} {c : Int}
theorem write_ok (hm : MemAt w bm gm m c) (hl : m.length ≤ 4096) (c0 : 0 ≤ c) (c1 : c ≤ 1099511627776) {i : Int} (k : Nat) (hi : i = k) (hk : k < m.length) (v : Int) (hv : okV v = true) :
    Calls Tryd.prog 97 #[P bm, .int .i64 i, .int .i64 v] w fun e w' => e = .returned (.int .i64 0) ∧ MemAt w' bm gm (m.set k v) (c + 1) ∧ Keep bm gm w w' := by
  subst hi
  unfold P
  go_enter Tryd.func97, Tryd.ntmps97
  go_wp2_with (go_at_call 120; refine (swap_ok hm hl c0 c1 k hk v hv).mono ?_; rintro e w' ⟨rfl, hm', hk'⟩)
  go_ret
  exact ⟨rfl, hm', hk'⟩
/-- Three blocks alone have turned. -/
def O3 (a b c : Nat) : Nat → Prop := fun k => k = a ∨ k = b ∨ k = c
theorem keep3 {w w' : World} {o : Nat} (h : Keep bm gm w w') : Only (O3 bm gm o) w w' := .of_keep h (.inl rfl) (.inr (.inl rfl))
theorem keep3s {w w' : World} {o : Nat} (h : Keep bm gm w w') (i : Nat) (u : Value) : Only (O3 bm gm o) w (w'.setCell ⟨o, i, none⟩ u) := Only.set_ (keep3 h) (.inr (.inr rfl)) i u
end
/-! ### Lists of words -/
def allOk (l : List Int) : Bool := l.all okV
theorem allOk_step {l : List Int} {k : Nat} (hk : k < l.length) : allOk (l.take (k + 1)) = (allOk (l.take k) && okV (nth l k)) := by
  unfold allOk
  rw [List.take_succ_eq_append_getElem hk, List.all_append]
  simp [nth, hk]
theorem allOk_no {l : List Int} {k : Nat} (hk : k < l.length) (h : okV (nth l k) = false) : allOk l = false := by
  unfold allOk
  rw [List.all_eq_false]
  exact ⟨l[k], List.getElem_mem hk, by simpa [nth, hk] using h⟩
theorem allOk_nth {l : List Int} (h : allOk l = true) (i : Nat) : okV (nth l i) = true := by
  by_cases hi : i < l.length
  · have := List.all_eq_true.1 h l[i] (List.getElem_mem hi)
    simpa [nth, hi] using this
  · rw [nth_oob _ _ (by omega)]; rfl
theorem allOk_rep (n : Nat) {v : Int} (h : okV v = true) : allOk (List.replicate n v) = true := by
  unfold allOk
  rw [List.all_eq_true]
  intro z hz
  rw [List.eq_of_mem_replicate hz]; exact h
theorem ext_nth {l r : List Int} (h : l.length = r.length) (hn : ∀ i, i < l.length → nth l i = nth r i) : l = r := by
  apply List.ext_getElem h
  intro i h1 h2
  have := hn i h1
  simpa [nth, h1, h2] using this
section
/-- A list that can be read, in blocks that are N's. -/
def LF (w : World) (N : Nat → Prop) (v : Value) (l : List Int) : Prop := ∃ (A : Option Addr) (c : Nat), v = .slice A l.length c ∧ l.length ≤ c ∧ c ≤ 9223372036854775807 ∧ (0 < l.length → ∃ g o, A = some ⟨g, o, none⟩ ∧ N g ∧ g < w.heap.size ∧ ∀ j, j < l.length → w.cell? ⟨g, o + j, none⟩ = some (.int .i64 (nth l j)))
variable {w w' : World} {N : Nat → Prop} {v : Value} {l : List Int}
theorem LF.nil (w : World) (N : Nat → Prop) : LF w N (.slice none 0 0) [] := ⟨none, 0, rfl, by simp, by omega, fun h => absurd h (by simp)⟩
theorem LF.only {G : Nat → Prop} (h : LF w N v l) (hO : Only G w w') (hn : ∀ g, N g → ¬ G g) : LF w' N v l := by
  obtain ⟨A, c, h1, h2, h3, h4⟩ := h
  refine ⟨A, c, h1, h2, h3, fun h0 => ?_⟩
  obtain ⟨g, o, e, hN, hg, hc⟩ := h4 h0
  exact ⟨g, o, e, hN, Nat.lt_of_lt_of_le hg hO.size, fun j hj => (World.cell?_of_block (hO.block g hg (hn g hN))).trans (hc j hj)⟩
theorem LF.bel (h : LF w N v l) (hb : Below w.heap.size w w') : LF w' N v l := h.only (G := fun _ => False) (.of_below hb) fun _ _ => id
theorem LF.mono {N' : Nat → Prop} (h : LF w N v l) (hN : ∀ g, g < w.heap.size → N g → N' g) : LF w N' v l := by
  obtain ⟨A, c, h1, h2, h3, h4⟩ := h
  refine ⟨A, c, h1, h2, h3, fun h0 => ?_⟩
  obtain ⟨g, o, e, hN', hg, hc⟩ := h4 h0
  exact ⟨g, o, e, hN g hg hN', hg, hc⟩
theorem LF.far {q o : Nat} (h : LF w N v l) (hq : ¬ N q) (u : Value) : LF (w.setCell ⟨q, o, none⟩ u) N v l := by
  obtain ⟨A, c, h1, h2, h3, h4⟩ := h
  refine ⟨A, c, h1, h2, h3, fun h0 => ?_⟩
  obtain ⟨g, o', e, hN', hg, hc⟩ := h4 h0
  have hne : g ≠ q := fun e => hq (e ▸ hN')
  exact ⟨g, o', e, hN', by simpa [World.setCell] using hg, fun j hj => (World.cell?_of_block (Below.heap_setCell w ⟨q, o, none⟩ u g hne)).trans (hc j hj)⟩
theorem LF.row (h : LF w N v l) : ∃ A c, v = .slice A l.length c ∧ l.length ≤ c ∧ c ≤ 9223372036854775807 ∧ Row w A (iv' l) := by
  obtain ⟨A, c, h1, h2, h3, h4⟩ := h
  refine ⟨A, c, h1, h2, h3, fun h0 => ?_⟩
  have hl : (iv' l).length = l.length := by simp [iv']
  rw [hl] at h0
  obtain ⟨g, o, e, hN', hg, hc⟩ := h4 h0
  refine ⟨g, o, e, hg, fun j u hj => ?_⟩
  have hjl : j < l.length := by rw [← hl]; exact (List.getElem?_eq_some_iff.1 hj).1
  rw [hc j hjl, ← hj]; simp [iv', nth, hjl]
theorem LF.of_own {B n : Nat} (h : w.ownsRow B 3 1 v n (l.map (Value.int .i64))) (hn : n = l.length) (hN : ∀ g, B ≤ g → N g) : LF w N v l := by
  subst hn
  rcases h.2 with ⟨e, h0⟩ | ⟨g, cap, cur, e, hB, hh, r⟩
  · refine ⟨none, 0, ?_, by omega, by omega, fun h1 => by omega⟩
    rw [e, h0]
  · refine ⟨some ⟨g, 0, none⟩, cap, e, ?_, ?_, fun h0 => ⟨g, 0, rfl, hN g hB, Blk.lt (t := 3) (cs := cur) hh, fun j hj => ?_⟩⟩
    · exact r.1
    · have := r.2.1; unfold maxLen at this; exact this
    · subst e
      rw [Nat.zero_add, h.cellAt j (by omega)]; simp [nth, hj]
theorem LF.of_own_at {B n g cap : Nat} (h : w.ownsRow B 3 1 (.slice (some ⟨g, 0, none⟩) n cap) n (l.map (Value.int .i64))) (hn : n = l.length) : LF w (fun x => x = g) (.slice (some ⟨g, 0, none⟩) n cap) l := by
  subst hn
  rcases h.2 with ⟨e, h0⟩ | ⟨g', cap', cur, e, hB, hh, r⟩
  · cases e
  · injection e with e1 e2 e3
    injection e1 with e1
    injection e1 with e1
    subst e1 e3
    refine ⟨_, _, rfl, r.1, by have := r.2.1; unfold maxLen at this; exact this, fun h0 => ⟨g, 0, rfl, rfl, Blk.lt (t := 3) (cs := cur) hh, fun j hj => ?_⟩⟩
    rw [Nat.zero_add, h.cellAt j (by omega)]; simp [nth, hj]
end
end Go.Proofs.YtpoidnajhcjmcaaDoor.Ob
