/- The document's comparison of two lists, and what the statements read of a script: contracts. -/
import Derived.Test.YthkpopphefolmaaDoorCRes
import Derived.Deep.QuietTactic
import Derived.BigQuiet
import Derived.Deep.Draws
import Derived.Deep.Slices
import Derived.Deep.Fields
import Derived.ChangeSame
import Derived.OpenShut
namespace Go.Proofs.YthkpopphefolmaaDoor.Cell
open Go.RowKit Go.Proofs.YthkpopphefolmaaDoor.G

/-- A slice's address under which the list lies. -/
def RdA (w : World) (A : Option Addr) (l : List Int) : Prop := 0 < l.length → ∃ b o : Nat, A = some ⟨b, o, none⟩ ∧ ∀ j, j < l.length → w.cell? ⟨b, o + j, none⟩ = some (.int .i64 (nth l j))
theorem lst_rd {w : World} {B : Nat} {v : Value} {l : List Int} (h : Lst w B v l) : ∃ A c, v = .slice A l.length c ∧ RdA w A l ∧ l.length ≤ c := by
  rcases h.2 with ⟨rfl, h0⟩ | ⟨g, cap, cur, rfl, _, hh, hle, _, hs, ht⟩
  · exact ⟨none, 0, by rw [h0], fun h1 => by omega, by omega⟩
  · refine ⟨some ⟨g, 0, none⟩, cap, rfl, fun _ => ⟨g, 0, rfl, fun j hj => ?_⟩, hle⟩
    have := World.ownsRow.cellAt (g := g) (cap := cap) h j (by omega)
    rw [Nat.zero_add, this]; simp [nth, hj]
theorem RdA.keep {w w' : World} {A : Option Addr} {l : List Int} (h : RdA w A l) (hk : ∀ p : Addr, (∃ a, A = some a ∧ p.block = a.block) → w'.cell? p = w.cell? p) : RdA w' A l := fun h0 => by
  obtain ⟨b, o, rfl, hc⟩ := h h0
  exact ⟨b, o, rfl, fun j hj => (hk ⟨b, o + j, none⟩ ⟨_, rfl, rfl⟩).trans (hc j hj)⟩
theorem RdA.drewN {w : World} {A : Option Addr} {l : List Int} (h : RdA w A l) (n : Nat) : RdA (w.drewN n) A l := h

theorem same_true {w : World} {A B : Option Addr} {ca cb : Nat} {l : List Int} (hl : l.length ≤ 4096) (ha : RdA w A l) (hb : RdA w B l) :
    Calls Tryd.prog 32 #[.slice A l.length ca, .slice B l.length cb] w fun e w' => e = .returned (.bool true) ∧ ∃ n, w' = w.drewN n := by
  have HA := Lib.hid ha; clear ha
  have HB := Lib.hid hb; clear hb
  go_enter Tryd.func32, Tryd.ntmps32
  go_wp2
  go_loopw [5] (fun i wr => ∃ (k m : Nat), k ≤ l.length ∧ i = .int .i64 k ∧ wr = w.drewN m) (fun i _ => l.length - (intOf i).toNat)
  case atStart => exact ⟨0, 0, by omega, rfl, rfl⟩
  case round =>
    obtain ⟨k, m, hk, rfl, hw⟩ := hrel
    have HW := Lib.hid hw
    clear hw
    by_cases hlt : k < l.length
    · obtain ⟨ba, oa, rfl, ha⟩ := HA.out (by omega)
      obtain ⟨bb, ob, rfl, hb⟩ := HB.out (by omega)
      have c1 : wr.cell? ⟨ba, oa + k, none⟩ = some (.int .i64 (nth l k)) := by rw [HW.out]; exact ha k hlt
      have c2 : wr.cell? ⟨bb, ob + k, none⟩ = some (.int .i64 (nth l k)) := by rw [HW.out]; exact hb k hlt
      clear ha hb HA HB
      go_wp2
      go_quiet (fail)
      go_wp2
      go_roundw
      case rel => exact ⟨k + 1, m + nq, by omega, by go_num, by rw [HW.out, World.drewN_drewN]⟩
      case measure => simp [intOf]; omega
    · go_wp2
      go_ret
      exact ⟨rfl, m, HW.out⟩

/-! ### Memories and lists, carried on -/
theorem MemAt.drewN {w : World} {b g : Nat} {l : List Int} {c : Int} (h : MemAt w b g l c) (n : Nat) : MemAt (w.drewN n) b g l c := ⟨h.head, h.words⟩
theorem Et.drewN {w : World} (h : Et w) (n : Nat) : Et (w.drewN n) := h
theorem drewN_below {B : Nat} {a w : World} (h : Below B a w) (n : Nat) : Below B a (w.drewN n) := ⟨h.os, h.tape, h.output, h.size, h.block⟩
theorem MemAt.keep {w w' : World} {b g b' g' : Nat} {l : List Int} {c : Int} (h : MemAt w b g l c) (hk : Keep b' g' w w') (h1 : b ≠ b') (h2 : b ≠ g') (h3 : g ≠ b') (h4 : g ≠ g') : MemAt w' b g l c := ⟨(hk.block b (Blk.lt h.head) h1 h2).trans h.head, (hk.block g (Blk.lt h.words) h3 h4).trans h.words⟩
theorem Lst.block {w w' : World} {B : Nat} {v : Value} {l : List Int} (h : Lst w B v l) (hb : ∀ k, B ≤ k → k < w.heap.size → w'.heap[k]? = w.heap[k]?) : Lst w' B v l := by
  refine ⟨h.1, ?_⟩
  rcases h.2 with h0 | ⟨g, cap, cur, hv, hB, hh, r⟩
  · exact .inl h0
  · refine .inr ⟨g, cap, cur, hv, hB, ?_, r⟩
    have hlt : g < w.heap.size := by
      rcases Nat.lt_or_ge g w.heap.size with h' | h'
      · exact h'
      · rw [Array.getElem?_eq_none h'] at hh; cases hh
    rw [hb g hB hlt]; exact hh
theorem Lst.below {w w' : World} {B : Nat} {v : Value} {l : List Int} (h : Lst w B v l) (hb : Below w.heap.size w w') : Lst w' B v l := h.block fun k _ hk => hb.block k hk
theorem Lst.keep {w w' : World} {B b g : Nat} {v : Value} {l : List Int} (h : Lst w B v l) (hk : Keep b g w w') (h1 : b < B) (h2 : g < B) : Lst w' B v l := h.block fun k hB hk' => hk.block k hk' (by omega) (by omega)
theorem Lst.drewN {w : World} {B : Nat} {v : Value} {l : List Int} (h : Lst w B v l) (n : Nat) : Lst (w.drewN n) B v l := h
/-- 'Same' of two lists of one content. -/
theorem same_lst {w : World} {Ba Bb : Nat} {va vb : Value} {l : List Int} (hl : l.length ≤ 4096) (ha : Lst w Ba va l) (hb : Lst w Bb vb l) :
    Calls Tryd.prog 32 #[va, vb] w fun e w' => e = .returned (.bool true) ∧ ∃ n, w' = w.drewN n := by
  obtain ⟨A, ca, rfl, hA, _⟩ := lst_rd ha
  obtain ⟨B, cb, rfl, hB, _⟩ := lst_rd hb
  exact same_true hl hA hB

/-! ### A script: its steps, as they lie in memory -/
structure St where
  kind : Int
  i : Int
  v : Int
def St.val (s : St) : Value := .agg #[.int .i64 s.kind, .int .i64 s.i, .int .i64 s.v]
def St.ok (s : St) : Prop := s.i ≤ 9223372036854775807 ∧ s.v ≤ 9223372036854775807
/-- The steps lie at the slice's address. -/
def Scr (w : World) (A : Option Addr) (n : Nat) (s : Nat → St) : Prop := 0 < n → ∃ b o : Nat, A = some ⟨b, o, none⟩ ∧ b < w.heap.size ∧ ∀ j, j < n → (s j).ok ∧ w.cell? ⟨b, o + j * 3, none⟩ = some (.int .i64 (s j).kind) ∧ w.cell? ⟨b, o + j * 3 + 1, none⟩ = some (.int .i64 (s j).i) ∧ w.cell? ⟨b, o + j * 3 + 2, none⟩ = some (.int .i64 (s j).v)
theorem Scr.less {w : World} {A : Option Addr} {n m : Nat} {s : Nat → St} (h : Scr w A n s) (hm : m ≤ n) : Scr w A m s := fun h0 => by
  obtain ⟨b, o, e, hb, hc⟩ := h (by omega)
  exact ⟨b, o, e, hb, fun j hj => hc j (by omega)⟩
/-- A cell of the script, in a world in which nothing below has turned. -/
theorem Scr.at_ {w w' : World} {A : Option Addr} {n : Nat} {s : Nat → St} (h : Scr w A n s) (hb : Below w.heap.size w w') {j : Nat} (hj : j < n) : ∃ b o : Nat, A = some ⟨b, o, none⟩ ∧ b < w.heap.size ∧ (s j).ok ∧ w'.cell? ⟨b, o + j * 3, none⟩ = some (.int .i64 (s j).kind) ∧ w'.cell? ⟨b, o + j * 3 + 1, none⟩ = some (.int .i64 (s j).i) ∧ w'.cell? ⟨b, o + j * 3 + 2, none⟩ = some (.int .i64 (s j).v) := by
  obtain ⟨b, o, e, hlt, hc⟩ := h (by omega)
  obtain ⟨h1, h2, h3, h4⟩ := hc j hj
  exact ⟨b, o, e, hlt, h1, (hb.cell (p := ⟨b, o + j * 3, none⟩) hlt).trans h2, (hb.cell (p := ⟨b, o + j * 3 + 1, none⟩) hlt).trans h3, (hb.cell (p := ⟨b, o + j * 3 + 2, none⟩) hlt).trans h4⟩

def modU (n f : Int) : Int := (IntKind.u64.wrap n).tmod f
theorem modU_bd (n f : Int) (h : 0 < f) : 0 ≤ modU n f ∧ modU n f < f :=
  ⟨Int.tmod_nonneg _ (by rw [IntKind.wrap_u64]; omega), Int.tmod_lt_of_pos _ h⟩
theorem kind_any (s : St) (w : World) : Calls Tryd.prog 21 #[s.val] w fun e w' => e = .returned (.int .i64 (modU s.kind 4)) ∧ w' = w.alloc (.cells #[.int .i64 s.kind, .int .i64 s.i, .int .i64 s.v] 32) := by
  obtain ⟨q, hq, q0, q1, q2⟩ : ∃ q, (IntKind.u64.wrap s.kind).tmod 4 = q ∧ 0 ≤ q ∧ q < 4 ∧ modU s.kind 4 = q := ⟨_, rfl, (modU_bd s.kind 4 (by decide)).1, (modU_bd s.kind 4 (by decide)).2, rfl⟩
  have HQ := Lib.hid q2; clear q2
  unfold St.val
  go_enter Tryd.func21, Tryd.ntmps21
  go_wp2
  go_ret
  exact ⟨by rw [HQ.out]; rfl, rfl⟩
/-- The first 80 steps. -/
def EarlyPost (A : Option Addr) (n : Nat) (w : World) (e : Ending) (w' : World) : Prop := (∃ c', e = .returned (.slice A (min n 80) c')) ∧ w = w'
theorem early_any {A : Option Addr} (n c : Nat) (hn : n ≤ c) (hc : c ≤ 9223372036854775807) (w : World) :
    Calls Tryd.prog 20 #[.slice A n c] w (EarlyPost A n w) := by
  by_cases h : n ≤ 80
  · have HM : Hid (min n 80 = n) := by show min n 80 = n; omega
    go_enter Tryd.func20, Tryd.ntmps20
    go_wp2
    go_ret
    exact ⟨⟨c, by rw [HM.out]; rfl⟩, rfl⟩
  · have HM : Hid (min n 80 = 80) := by show min n 80 = 80; omega
    go_enter Tryd.func20, Tryd.ntmps20
    go_wp2
    go_ret
    exact ⟨⟨c, by rw [HM.out]; rfl⟩, rfl⟩

section
variable {H : Type} {enc : TypeId × Value → H} {W : World}
theorem cells3 : Tryd.prog.cellsOf 3 = 1 := by kernel_rfl
theorem cells32 : Tryd.prog.cellsOf 32 = 3 := by kernel_rfl
theorem three {α : Type} (l : List α) (h : l.length = 3) : ∃ a b c, l = [a, b, c] := by
  match l, h with
  | [a, b, c], _ => exact ⟨a, b, c, rfl⟩
theorem step_read' {P : Program} {t : TypeId} {fs : Array Field} (hu : P.underlying t = some (.struct fs)) (hone : Deep.oneCellFields P fs = true) (hC : P.cellsOf t = 3) (ht : ∀ i, i < 3 → ∃ f, fs[i]? = some f ∧ P.underlying f.type = some (.int .i64))
    {sp : Nat → Bool} {held : Bool} {fuel : Nat} {cs : List Value} {x : DataW H × List MemPlace} (h : DataW.trod enc P W 0 sp held fuel t cs = some x) :
    ∃ s : St, cs = [.int .i64 s.kind, .int .i64 s.i, .int .i64 s.v] ∧ s.ok := by
  obtain ⟨xs, n, _, _, hlen, hxl, hf⟩ := DataW.trod_struct hu h
  rw [hC] at hlen
  obtain ⟨c0, c1, c2, rfl⟩ := three cs hlen
  have key : ∀ i, i < 3 → ∃ m : Int, [c0, c1, c2][i]? = some (.int .i64 m) ∧ m ≤ 9223372036854775807 := by
    intro i hi
    obtain ⟨f, hfi, hfu⟩ := ht i hi
    obtain ⟨ho, hk⟩ := Deep.hone_of hone i f hfi
    have hfi' : i < fs.size := (Array.getElem?_eq_some_iff.1 hfi).1
    have h1 := hf i f hfi
    rw [ho, hk, List.getElem?_eq_getElem (by omega)] at h1
    obtain ⟨m, hm, _, hw⟩ := DataW.trod_int hfu h1
    refine ⟨m, ?_, (bounds_i64 hw).2⟩
    have : ([c0, c1, c2].drop i)[0]? = some (.int .i64 m) := by
      have := congrArg (·[0]?) hm
      simpa [List.getElem?_take] using this
    simpa using this
  obtain ⟨k, hk, _⟩ := key 0 (by omega)
  obtain ⟨i, hi, bi⟩ := key 1 (by omega)
  obtain ⟨v, hv, bv⟩ := key 2 (by omega)
  simp at hk hi hv
  subst hk hi hv
  exact ⟨⟨k, i, v⟩, rfl, bi, bv⟩
theorem step_read {sp : Nat → Bool} {held : Bool} {fuel : Nat} {cs : List Value} {x : DataW H × List MemPlace} (h : DataW.trod enc Tryd.prog W 0 sp held fuel 32 cs = some x) :
    ∃ s : St, cs = [.int .i64 s.kind, .int .i64 s.i, .int .i64 s.v] ∧ s.ok :=
  step_read' Tryd.underlying32 (by kernel_rfl) cells32 (fun i hi => by
    rcases i with _ | _ | _ | i
    · exact ⟨_, rfl, Tryd.underlying3⟩
    · exact ⟨_, rfl, Tryd.underlying3⟩
    · exact ⟨_, rfl, Tryd.underlying3⟩
    · omega) h
set_option maxRecDepth 100000 in
theorem open_script {base : Nat} {v : Value} {d : DataW H} {p : List MemPlace} (hok : Value.okWide Tryd.prog W .any base 22 v) (h : DataW.Trod enc Tryd.prog W 0 (fun _ => true) true 22 v d p) :
    ∃ (A : Option Addr) (n c : Nat) (s : Nat → St), v = .slice A n c ∧ n ≤ c ∧ c ≤ 9223372036854775807 ∧ Scr W A n s := by
  obtain ⟨A, n, c, rfl⟩ := WideShapes.okWide_slice Tryd.underlying22 hok
  obtain ⟨fuel, hf⟩ := h
  rcases Deep.open_slice Tryd.underlying22 hf with ⟨hcs, _⟩ | ⟨a, len, cap, m, k, D, Pl, hcs, _, hl, hm, hmm, _, hi⟩
  · have hcs' : [Value.slice A n c] = [.slice none 0 0] := hcs
    injection hcs' with e _
    injection e with e1 e2 e3
    subst e1 e2 e3
    exact ⟨none, 0, 0, fun _ => ⟨0, 0, 0⟩, rfl, by omega, by omega, fun h0 => absurd h0 (by omega)⟩
  · have hcs' : [Value.slice A n c] = [.slice (some a) len cap] := hcs
    injection hcs' with e _
    injection e with e1 e2 e3
    subst e1 e2 e3
    rw [if_pos rfl] at hmm
    subst hmm
    rw [cells32] at hi
    unfold maxLen at hm
    have hs : ∀ j : Nat, ∃ s : St, j < n → s.ok ∧ W.cell? ((a.add (j * 3)).add 0) = some (.int .i64 s.kind) ∧ W.cell? ((a.add (j * 3)).add 1) = some (.int .i64 s.i) ∧ W.cell? ((a.add (j * 3)).add 2) = some (.int .i64 s.v) := by
      intro j
      by_cases hj : j < n
      · obtain ⟨cs', h1, h2⟩ := hi j (by omega)
        obtain ⟨s, rfl, hok'⟩ := step_read h2
        obtain ⟨_, _, h3⟩ := World.cells?_some h1
        exact ⟨s, fun _ => ⟨hok', h3 0 (by omega), h3 1 (by omega), h3 2 (by omega)⟩⟩
      · exact ⟨⟨0, 0, 0⟩, fun h => absurd h hj⟩
    refine ⟨some a, n, _, fun j => Classical.choose (hs j), rfl, hl, hm, fun h0 => ?_⟩
    obtain ⟨ab, ao, asp⟩ := a
    obtain ⟨s0, hs0⟩ := hs 0
    have hc0 := (hs0 h0).2.1
    have hsp : asp = none := by
      cases asp with
      | none => rfl
      | some x =>
        exfalso
        have e : (((⟨ab, ao, some x⟩ : Addr).add (0 * 3)).add 0) = ⟨ab, ao, some x⟩ := rfl
        rw [e] at hc0
        unfold World.cell? at hc0
        split at hc0 <;> simp at hc0
    subst hsp
    have hlt : ab < W.heap.size := by
      have := World.block_lt_of_cell? W _ hc0
      simpa [Addr.add_lit] using this
    refine ⟨ab, ao, rfl, hlt, fun j hj => ?_⟩
    have := Classical.choose_spec (hs j) hj
    simpa only [Addr.add_lit, Nat.add_zero] using this
end
end Go.Proofs.YthkpopphefolmaaDoor.Cell
