/- Rows of numbers of one's own, that grow by one; numbers as bytes, there and back. -/
import Derived.Test.YtdiiengjboeboaaRow
namespace Go.Proofs.Ytdiiengjboeboaa.Wire
open Go.RowKit

theorem info3 : (Try.prog.info? 3).map (fun i => (i.zero, i.size, i.bytes)) = some (some (.int .i64 0), 1, 8) := by kernel_rfl
def ivs (l : List Int) : List Value := l.map (Value.int .i64)
/-- Numbers in memory of their own, from block B on. -/
def ILst (w : World) (B : Nat) (v : Value) (l : List Int) : Prop := w.ownsRow B 3 1 v l.length (ivs l)
theorem ILst.nil_ (w : World) (B : Nat) : ILst w B (.slice none 0 0) [] := ⟨by simp [ivs], .inl ⟨rfl, rfl⟩⟩
theorem ILst.rd {w : World} {B : Nat} {v : Value} {l : List Int} (h : ILst w B v l) : ∃ A c, v = .slice A l.length c ∧ l.length ≤ c ∧ c ≤ maxLen ∧ (v.ownBlock = none → l = []) ∧
    (0 < l.length → ∃ g, A = some ⟨g, 0, none⟩ ∧ v.ownBlock = some g ∧ B ≤ g ∧ g < w.heap.size ∧ ∀ j, j < l.length → w.cell? ⟨g, j, none⟩ = some (.int .i64 (l.getD j 0))) := by
  rcases h.2 with ⟨rfl, h0⟩ | ⟨g, cap, cur, rfl, hB, hh, hle, hm, hs, ht⟩
  · exact ⟨none, 0, by rw [h0], by omega, by simp, fun _ => List.eq_nil_of_length_eq_zero h0, fun h1 => by omega⟩
  · refine ⟨some ⟨g, 0, none⟩, cap, rfl, hle, hm, fun h => by simp [Value.ownBlock] at h, fun _ => ⟨g, rfl, rfl, hB, Blk.lt (w := w) (t := 3) (cs := cur) hh, fun j hj => ?_⟩⟩
    rw [World.ownsRow.cellAt (g := g) (cap := cap) h j (by omega)]
    simp [ivs, hj]
theorem ILst.grown {w w' : World} {B : Nat} {v : Value} {l : List Int} {row : Option Nat} (h : ILst w B v l) (hg : w.grownBy w' row) (hne : v.ownBlock = none ∨ v.ownBlock ≠ row) : ILst w' B v l := World.ownsRow.kept h hg hne
theorem Lst.grown {w w' : World} {B : Nat} {v : Value} {l : List UInt8} {row : Option Nat} (h : Lst w B v l) (hg : w.grownBy w' row) (hne : v.ownBlock = none ∨ v.ownBlock ≠ row) : Lst w' B v l := World.ownsRow.kept h hg hne
theorem ILst.below {w w' : World} {B : Nat} {v : Value} {l : List Int} (h : ILst w B v l) (hb : Below w.heap.size w w') : ILst w' B v l := by
  refine ⟨h.1, ?_⟩
  rcases h.2 with h0 | ⟨g, cap, cur, hv, hB, hh, r⟩
  · exact .inl h0
  · refine .inr ⟨g, cap, cur, hv, hB, ?_, r⟩
    rw [hb.block g (Blk.lt (w := w) (t := 3) (cs := cur) hh)]; exact hh
theorem ILst.alloc {w : World} {B : Nat} {v : Value} {l : List Int} (h : ILst w B v l) (o : Obj) : ILst (w.alloc o) B v l := h.below ((Below.refl _ _).alloc (Nat.le_refl _) _)
theorem ILst.block {w : World} {B : Nat} {v : Value} {l : List Int} (h : ILst w B v l) : ∀ k, v.ownBlock = some k → B ≤ k ∧ k < w.heap.size := World.ownsRow.lt h
/-- A row of bytes and a row of numbers never share a block. -/
theorem Lst.apart {w : World} {B B' : Nat} {v v' : Value} {l : List UInt8} {l' : List Int} (h : Lst w B v l) (h' : ILst w B' v' l') : v.ownBlock = none ∨ v.ownBlock ≠ v'.ownBlock := by
  rcases h.2 with ⟨rfl, _⟩ | ⟨g, cap, cur, rfl, _, hh, _⟩
  · exact .inl rfl
  · right
    rcases h'.2 with ⟨rfl, _⟩ | ⟨g', cap', cur', rfl, _, hh', _⟩
    · simp [Value.ownBlock]
    · intro e
      have e' : g = g' := by simpa [Value.ownBlock] using e
      subst e'
      exact Blk.ne_ (t := 5) (t' := 3) hh hh' (by decide) rfl
theorem wpList_app1 {ops : Array Oper} {rest : List Oper} {o : Oper} {a : Act} {Q : Exit → Act → World → Prop} {w : World} (hgd : o.guard = none) (s x : Operand)
    (ho : o.op = .call { callee := .builtin .append, args := #[s, x], argTypes := #[31, 31] })
    (B : Nat) (v : Value) (l : List Int) (hs : a.eval s = v) (hv : ILst w B v l)
    (g c : Nat) (n : Int) (hx : a.eval x = .slice (some ⟨g, 0, none⟩) 1 c) (hr : w.cell? ⟨g, 0, none⟩ = some (.int .i64 n)) (hlen : l.length ≤ 1000000) (hB : B ≤ w.heap.size)
    (h : ∀ v' w', ILst w' B v' (l ++ [n]) → Below B w w' → w.grownBy w' v.ownBlock → (v'.ownBlock = v.ownBlock ∨ v'.ownBlock = some w.heap.size) → wpList Try.prog ops Q rest (a.put o.dst v') w') : wpList Try.prog ops Q (o :: rest) a w := by
  obtain ⟨i0, hi, hz0, hz1, hz2⟩ := info_parts info3
  refine wpList_append_own_at _ hgd s x 31 ho B 3 i0 (.int .i64 0) 1 8 Try.underlying31 hi hz0 hz1 hz2 rfl (by decide) v l.length (ivs l) hs hv ⟨g, 0, none⟩ 1 c (ivs [n]) hx rfl ?_ ?_ (by unfold maxLen; omega) (by omega) hB ?_
  · intro j u hj
    rcases j with _ | j
    · have : u = .int .i64 n := by simpa [ivs] using hj.symm
      rw [this]; exact hr
    · simp [ivs] at hj
  · intro u hu; obtain ⟨y, _, rfl⟩ := List.mem_map.1 hu; rfl
  · intro v' w' h2 h3 _ h5
    exact h v' w' (by simpa [ILst, ivs] using h2) ((Below.refl B w).grown h3 hB fun k hk => (World.ownsRow.lt hv k hk).1) h3 h5

/-! ### There and back -/
def encs (ps : List (Int × Int)) : List UInt8 := ps.flatMap fun p => num p.1 p.2
def okP (p : Int × Int) : Prop := sz p.1 = true ∧ inN p.1 p.2 = true
theorem num_be (n v : Int) (h : sz n = true) (hv : inN n v = true) (r : List UInt8) : be (num n v ++ r) n = v ∧ (num n v ++ r).drop n.toNat = r := by
  obtain ⟨v0, v1⟩ := of_decide_eq_true hv
  rcases of_decide_eq_true h with rfl | rfl | rfl
  · have v1' : v < 256 := v1
    exact ⟨by show ((by_ v).toNat : Int) = v; exact by_nat v v0 v1', rfl⟩
  · have v1' : v < 65536 := v1
    refine ⟨?_, rfl⟩
    show ((by_ (v / 256)).toNat : Int) * 256 + ((by_ (v % 256)).toNat : Int) = v
    rw [by_nat _ (by omega) (by omega), by_nat _ (by omega) (by omega)]; omega
  · have v1' : v < 4294967296 := v1
    refine ⟨?_, rfl⟩
    show ((((by_ (v / 16777216)).toNat : Int) * 256 + ((by_ (v / 65536 % 256)).toNat : Int)) * 256 + ((by_ (v / 256 % 256)).toNat : Int)) * 256 + ((by_ (v % 256)).toNat : Int) = v
    rw [by_nat _ (by omega) (by omega), by_nat _ (by omega) (by omega), by_nat _ (by omega) (by omega), by_nat _ (by omega) (by omega)]; omega
theorem encs_snoc (ps : List (Int × Int)) (p : Int × Int) : encs (ps ++ [p]) = encs ps ++ num p.1 p.2 := by simp [encs]
theorem encs_length : ∀ ps : List (Int × Int), (∀ p ∈ ps, okP p) → (encs ps).length ≤ 4 * ps.length
  | [], _ => by simp [encs]
  | p :: ps, h => by
    have ih := encs_length ps fun q hq => h q (List.mem_cons_of_mem _ hq)
    have hn := num_length p.1 p.2 (h p (List.mem_cons_self ..)).1
    have : encs (p :: ps) = num p.1 p.2 ++ encs ps := rfl
    rw [this, List.length_append, List.length_cons]
    rcases of_decide_eq_true (h p (List.mem_cons_self ..)).1 with e | e | e <;> omega
theorem put_ok {w : World} {A : Option Addr} {c : Nat} {l : List UInt8} (hr : Rd w A l) (hl : l.length ≤ 2048) (n v : Int) (h : sz n = true) (hv : inN n v = true) :
    Calls Try.prog 11 #[.slice A l.length c, .int .i64 n, .int .i64 v] w (PairPost w (l ++ num n v) 0) := by
  have := put_any (c := c) hr hl n v
  unfold putL putE at this
  simpa only [h, hv, if_true] using this
theorem next_num {w : World} {b : Nat} {r : List UInt8} (n v : Int) (h : sz n = true) (hv : inN n v = true) (hrd : Rdr w b (num n v ++ r) 0) (hm : r.length ≤ 2048) :
    Calls Try.prog 20 #[.pointer (some ⟨b, 0, none⟩), .int .i64 n] w (NextPost w b v r 0) := by
  have hn := num_length n v h
  have hb := num_be n v h hv r
  have hle : (num n v ++ r).length ≤ 4096 := by
    rw [List.length_append]
    rcases of_decide_eq_true h with e | e | e <;> omega
  have := next_any hrd hle n
  have e1 : nxV (num n v ++ r) 0 n = v := by
    unfold nxV; rw [if_neg (by simp), if_neg (by simp [h]), if_neg (by rw [List.length_append]; omega)]; exact hb.1
  have e2 : nxL (num n v ++ r) 0 n = r := by
    unfold nxL; rw [if_neg (by simp), if_neg (by simp [h]), if_neg (by rw [List.length_append]; omega)]; exact hb.2
  have e3 : nxE (num n v ++ r) 0 n = 0 := by
    unfold nxE; rw [if_neg (by simp), if_neg (by simp [h]), if_neg (by rw [List.length_append]; omega)]
  rwa [e1, e2, e3] at this
end Go.Proofs.Ytdiiengjboeboaa.Wire
