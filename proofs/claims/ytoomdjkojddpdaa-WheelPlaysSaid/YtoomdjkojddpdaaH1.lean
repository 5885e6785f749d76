/- A wheel in memory: the map of those that wait in a block of its own, the struct in another; what looking up, storing, deleting do. -/
import Derived.Test.YtoomdjkojddpdaaHMem
import Derived.Test.YtoomdjkojddpdaaH0
import Derived.Maps.OwnSet
import Derived.Lib.SlKeysI
namespace Go.Proofs.Ytoomdjkojddpdaa.H14
open Go.RowKit Go.Proofs.Ytoomdjkojddpdaa.G Go.Maps
set_option maxRecDepth 100000

/-- How a key waits, as a value of the map: two numbers. -/
def wE (v : Value) : Option (DataW Unit × List MemPlace) :=
  match v with
  | .agg cs => (match cs.toList with
    | [.int .i64 a, .int .i64 b] => some (.agg [.lit (.int .i64 a), .lit (.int .i64 b)], [])
    | _ => none)
  | _ => none
def wV (u t : Int) : Value := .agg #[.int .i64 u, .int .i64 t]
def wD (u t : Int) : DataW Unit := .agg [.lit (.int .i64 u), .lit (.int .i64 t)]
theorem wE_mk (u t : Int) : wE (wV u t) = some (wD u t, []) := rfl
theorem wE_inv {v : Value} {u t : Int} {ps : List MemPlace} (h : wE v = some (wD u t, ps)) : v = wV u t := by
  unfold wE at h
  cases v with
  | agg cs =>
    simp only at h
    split at h
    · rename_i a b hc
      simp only [wD, Option.some.injEq, Prod.mk.injEq, DataW.agg.injEq, List.cons.injEq, DataW.lit.injEq, Lit.int.injEq, true_and, and_true] at h
      obtain ⟨⟨rfl, rfl⟩, _⟩ := h
      unfold wV
      rw [show cs = #[.int .i64 a, .int .i64 b] from by rw [← hc]]
    · cases h
  | _ => simp at h
theorem lawK : Keyed Try.prog 3 := int_keyed Try.underlying3
theorem zeroW (w : World) : (zeroValue 60).run Try.prog w = .ok (wV 0 0) w := by kernel_rfl
def Ir (k : Int) : Prop := -9223372036854775808 ≤ k ∧ k ≤ 9223372036854775807
theorem wfI {k : Int} (h : Ir k) : (Lit.int .i64 k).wf = true := by
  unfold Ir at h
  simp [Lit.wf, IntKind.min, IntKind.max, IntKind.bits, IntKind.signed]
  omega
theorem keyK {k : Int} (h : Ir k) : keyOf Try.prog 3 (.int .i64 k) = some (.int .i64 k) := keyOf_int_mk Try.underlying3 (wfI h)
/-- Block B is a map of at most n entries that tells of each key how it waits. -/
def Mp (w : World) (B n : Nat) (l : List En) : Prop :=
  ∃ D : DataW Unit, w.ownsMap Try.prog 3 wE B n D ∧ ∀ k : Int, Maps.has D (.int .i64 k) = has l k ∧ ∀ e, fnd l k = some e → ∀ z, D.atKey (.int .i64 k) z = wD e.u e.t
variable {w w' : World} {B n : Nat} {l : List En} {s : Int}
theorem has_none {l : List En} {k : Int} (h : fnd l k = none) : has l k = false ∧ unt l k = 0 ∧ trn l k = 0 := by simp [has, unt, trn, h]
theorem has_some {l : List En} {k : Int} {e : En} (h : fnd l k = some e) : has l k = true ∧ unt l k = e.u ∧ trn l k = e.t := by simp [has, unt, trn, h]
theorem Mp.lt (h : Mp w B n l) : B < w.heap.size := by obtain ⟨D, h1, _⟩ := h; exact h1.lt
theorem Mp.mono {m : Nat} (h : Mp w B n l) (hm : n ≤ m) : Mp w B m l := by obtain ⟨D, h1, h2⟩ := h; exact ⟨D, h1.mono hm, h2⟩
theorem Mp.grown {row : Option Nat} (h : Mp w B n l) (hg : w.grownBy w' row) (hne : some B ≠ row) : Mp w' B n l := by obtain ⟨D, h1, h2⟩ := h; exact ⟨D, h1.kept hg hne, h2⟩
theorem Mp.keep (h : Mp w B n l) (hb : w'.heap[B]? = w.heap[B]?) : Mp w' B n l := by
  obtain ⟨D, ⟨es, c, h1, h2⟩, h3⟩ := h
  exact ⟨D, ⟨es, c, hb.trans h1, h2⟩, h3⟩
theorem Mp.below (h : Mp w B n l) (hb : Below w.heap.size w w') : Mp w' B n l := h.keep (hb.block B h.lt)
theorem Mp.only {F : Nat → Prop} (h : Mp w B n l) (hO : Only F w w') (hF : ¬ F B) : Mp w' B n l := h.keep (hO.block B h.lt hF)
theorem Mp.look (h : Mp w B n l) {k : Int} (hk : Ir k) : (Instr.lookup 55 (.map (some B)) (.int .i64 k) true).run Try.prog w = .ok (.tuple #[wV (unt l k) (trn l k), .bool (has l k)]) w := by
  obtain ⟨D, h1, h2⟩ := h
  obtain ⟨v, ps, hrun, hv⟩ := h1.look_ok lawK Try.underlying55 (zeroW w) (wE_mk 0 0) (keyK hk)
  rw [(h2 k).1] at hrun
  cases hf : fnd l k with
  | none =>
    obtain ⟨e1, e2, e3⟩ := has_none hf
    rw [Maps.atKey_of_not_has (by rw [(h2 k).1, e1])] at hv
    rw [e2, e3, ← wE_inv hv]; exact hrun
  | some e =>
    obtain ⟨e1, e2, e3⟩ := has_some hf
    rw [(h2 k).2 e hf] at hv
    rw [e2, e3, ← wE_inv hv]; exact hrun
theorem Mp.look1 (h : Mp w B n l) {k : Int} (hk : Ir k) : (Instr.lookup 55 (.map (some B)) (.int .i64 k) false).run Try.prog w = .ok (wV (unt l k) (trn l k)) w := by
  obtain ⟨D, h1, h2⟩ := h
  obtain ⟨v, ps, hrun, hv⟩ := h1.lookup lawK Try.underlying55 (zeroW w) (wE_mk 0 0) (keyK hk)
  cases hf : fnd l k with
  | none =>
    obtain ⟨e1, e2, e3⟩ := has_none hf
    rw [Maps.atKey_of_not_has (by rw [(h2 k).1, e1])] at hv
    rw [e2, e3, ← wE_inv hv]; exact hrun
  | some e =>
    obtain ⟨e1, e2, e3⟩ := has_some hf
    rw [(h2 k).2 e hf] at hv
    rw [e2, e3, ← wE_inv hv]; exact hrun
theorem look_nil {k : Int} (hk : Ir k) (w : World) : (Instr.lookup 55 (.map none) (.int .i64 k) true).run Try.prog w = .ok (.tuple #[wV 0 0, .bool false]) w :=
  Maps.look_nil true lawK Try.underlying55 (zeroW w) (keyK hk)
theorem look1_nil {k : Int} (hk : Ir k) (w : World) : (Instr.lookup 55 (.map none) (.int .i64 k) false).run Try.prog w = .ok (wV 0 0) w :=
  Maps.look_nil false lawK Try.underlying55 (zeroW w) (keyK hk)
theorem lit_ne {j k : Int} (h : j ≠ k) : (Lit.int .i64 j) ≠ .int .i64 k := fun e => h (Lit.int.inj e).2
theorem isKeyK {k : Int} (hk : Ir k) : WideAt.IsKeyLit (.int .i64 k) := lawK.key (keyK hk)
theorem Mp.made (w : World) : Mp (w.alloc (.map #[] 0)) w.heap.size 0 [] :=
  ⟨.map [], World.ownsMap_made w _ _ _, fun k => ⟨rfl, fun e he => by cases he⟩⟩
theorem Mp.store (h : Mp w B n l) (hl : Wok l s) (hs : 0 ≤ s) {k u : Int} (hk : Ir k) (hu : 0 ≤ u ∧ u ≤ 4611686018427387904) (hn : n < maxLen) :
    ∃ w', (Instr.mapUpdate 55 (.map (some B)) (.int .i64 k) (wV u s)).run Try.prog w = .ok () w' ∧ Mp w' B (n + 1) (set l s k u) ∧ w.grownBy w' (some B) := by
  obtain ⟨D, h1, h2⟩ := h
  obtain ⟨w', hrun, h3, h4⟩ := h1.update lawK Try.underlying55 hn (keyK hk) (wE_mk u s)
  refine ⟨w', hrun, ⟨_, h3, fun j => ?_⟩, h4⟩
  by_cases hj : j = k
  · subst hj
    have hf := fnd_set_same hl hs hk hu
    refine ⟨by rw [Maps.has_put_same h1.isMap (isKeyK hk), (has_some hf).1], fun e he z => ?_⟩
    rw [hf] at he
    cases he
    exact Maps.atKey_put_same h1.isMap (isKeyK hk) _ _
  · have hf := fnd_set_other hl hs hk hu hj
    refine ⟨by rw [Maps.has_put_other (lit_ne hj), (h2 j).1]; simp only [has, hf], fun e he z => ?_⟩
    rw [hf] at he
    rw [Maps.atKey_put_other (lit_ne hj)]
    exact (h2 j).2 e he z
theorem Mp.drop (h : Mp w B n l) {k : Int} (hk : Ir k) (ty : TypeId) :
    ∃ w', (Builtin.delete_ #[55, 3] ty #[.map (some B), .int .i64 k]).run Try.prog w = .ok (.tuple #[]) w' ∧ Mp w' B n (can l k) ∧ w.grownBy w' (some B) := by
  obtain ⟨D, h1, h2⟩ := h
  obtain ⟨w', hrun, h3, h4⟩ := h1.drop lawK Try.underlying55 (keyK hk) ty
  refine ⟨w', hrun, ⟨_, h3, fun j => ?_⟩, h4.grown⟩
  by_cases hj : j = k
  · subst hj
    have hf := fnd_can_same l j
    exact ⟨by rw [Maps.has_del_same, (has_none hf).1], fun e he => by rw [hf] at he; cases he⟩
  · have hf := fnd_can_other l hj
    refine ⟨by rw [Maps.has_del_other (lit_ne hj), (h2 j).1]; simp only [has, hf], fun e he z => ?_⟩
    rw [hf] at he
    rw [Maps.atKey_del_other (lit_ne hj)]
    exact (h2 j).2 e he z
theorem drop_nil {k : Int} (hk : Ir k) (ty : TypeId) (w : World) : (Builtin.delete_ #[55, 3] ty #[.map none, .int .i64 k]).run Try.prog w = .ok (.tuple #[]) w := Maps.drop_nil lawK Try.underlying55 (keyK hk) ty
theorem len_nil' (ty : TypeId) (w : World) : (Builtin.len_ #[55] ty #[.map none]).run Try.prog w = .ok (.int .i64 0) w := Maps.len_nil Try.underlying55 ty
/-- The keys that the map gives are the row's. -/
theorem Mp.perm {D : DataW Unit} (h1 : w.ownsMap Try.prog 3 wE B n D) (h2 : ∀ k : Int, Maps.has D (.int .i64 k) = has l k) (hl : Wok l s) : (keys l).Perm (intKeys D) := by
  obtain ⟨es, hD, hpw, _⟩ := h1.entries lawK
  obtain ⟨es', hD', hko⟩ := h1.keysOf
  obtain rfl : es = es' := by rw [hD] at hD'; simpa using hD'
  subst hD
  exact perm_intKeys hpw (fun p hp => by obtain ⟨v, hv⟩ := hko p hp; obtain ⟨x, _, hx, _⟩ := Maps.keyOf_i64 Try.underlying3 hv; exact ⟨x, hx⟩) hl.keys_nodup (fun x => by rw [mem_keys hl, h2])
theorem size_intKeys {H : Type} (es : List (Lit × DataW H)) : (intKeys (.map es)).length = Maps.size (.map es) := by simp [intKeys, Maps.size_eq]
theorem Mp.size {D : DataW Unit} (h1 : w.ownsMap Try.prog 3 wE B n D) (h2 : ∀ k : Int, Maps.has D (.int .i64 k) = has l k) (hl : Wok l s) : Maps.size D = l.length := by
  have hp := (Mp.perm h1 h2 hl).length_eq
  obtain ⟨es, rfl⟩ := h1.isMap
  rw [← size_intKeys, ← hp, len_keys]
theorem Mp.len (h : Mp w B n l) (hl : Wok l s) (ty : TypeId) : (Builtin.len_ #[55] ty #[.map (some B)]).run Try.prog w = .ok (.int .i64 l.length) w := by
  obtain ⟨D, h1, h2⟩ := h
  have := h1.len Try.underlying55 ty
  rwa [Mp.size h1 (fun k => (h2 k).1) hl] at this

/-! ### Wheels -/
/-- A wheel: its struct in block b, the map in block B, or none yet; the row l; s were set, c at most. -/
structure Wh (w : World) (b : Nat) (mb : Option Nat) (l : List En) (s : Nat) : Prop where
  blk : Blk w b 57 #[.map mb, .int .i64 s]
  ok : Wok l s
  no : mb = none → l = []
  mp : ∀ B, mb = some B → Mp w B s l
/-- The blocks that are its. -/
def FW (b : Nat) (mb : Option Nat) : Nat → Prop := fun k => k = b ∨ mb = some k
variable {b : Nat} {mb : Option Nat} {s : Nat}
theorem Wh.lt (h : Wh w b mb l s) : b < w.heap.size := h.blk.lt
theorem Wh.cells (h : Wh w b mb l s) : w.cell? ⟨b, 0, none⟩ = some (.map mb) ∧ w.cell? ⟨b, 1, none⟩ = some (.int .i64 s) ∧ ∀ i, w.frozen? ⟨b, i, none⟩ = false :=
  ⟨by rw [h.blk.cell]; rfl, by rw [h.blk.cell]; rfl, fun i => h.blk.frozen i⟩
theorem Wh.only {F : Nat → Prop} (h : Wh w b mb l s) (hO : Only F w w') (hF : ∀ k, FW b mb k → ¬ F k) : Wh w' b mb l s :=
  ⟨hO.blk h.blk (hF b (.inl rfl)), h.ok, h.no, fun B hB => (h.mp B hB).only hO (hF B (.inr hB))⟩
theorem Wh.below (h : Wh w b mb l s) (hb : Below w.heap.size w w') : Wh w' b mb l s := h.only (.of (F := fun _ => False) hb) (fun _ _ h => h)
theorem Wh.Fsz (h : Wh w b mb l s) {k : Nat} (hk : FW b mb k) : k < w.heap.size := by
  rcases hk with rfl | hk
  · exact h.lt
  · exact (h.mp k hk).lt
theorem Wh.ne (h : Wh w b mb l s) {B : Nat} (hB : mb = some B) : B ≠ b := by
  rintro rfl
  obtain ⟨D, ⟨es, c, h1, _⟩, _⟩ := h.mp B hB
  have h2 := h.blk
  unfold Blk at h2
  rw [h1] at h2
  cases h2
end Go.Proofs.Ytoomdjkojddpdaa.H14
