/- Appending bytes to a row of bytes of one's own: one law for any source, nil let in. -/
import Derived.Test.YtfbbgoahipejlabDoorBMem
namespace Go.Proofs.YtfbbgoahipejlabDoor.W
open Go.RowKit Go.Proofs.YtfbbgoahipejlabDoor.G

theorem run_app (w : World) (ty : TypeId) (B : Nat) (v : Value) (l : List UInt8) (hv : Lst w B v l) (A : Option Addr) (c : Nat) (news : List UInt8) (hr : Rd w A news) (hlen : l.length + news.length ≤ 1000000) (hB : B ≤ w.heap.size) :
    ∃ v' w', (Builtin.append_ #[22, 22] ty #[v, .slice A news.length c]).run Tryd.prog w = .ok v' w' ∧ Lst w' B v' (l ++ news) ∧ w.grownBy w' v.ownBlock ∧ (v'.ownBlock = v.ownBlock ∨ v'.ownBlock = some w.heap.size) := by
  obtain ⟨i0, hi, hz0, hz1, hz2⟩ := info_parts info5
  cases A with
  | none =>
    obtain rfl := hr.nil_
    refine ⟨v, w, ?_, by simpa using hv, World.grownBy.refl w _, .inl rfl⟩
    rcases hv.2 with ⟨rfl, h0⟩ | ⟨g, cap, cur, rfl, _, _, hnc, _⟩
    · simp [Builtin.append_, run_underlying Tryd.underlying22, sizeOf, typeInfo, hi, Builtin.lenOf, Builtin.firstCells]
    · simp [Builtin.append_, run_underlying Tryd.underlying22, sizeOf, typeInfo, hi, Builtin.lenOf, Builtin.firstCells, hnc, storeCells]
  | some a =>
    obtain ⟨v', w', h1, h2, h3, _, h5⟩ := run_append_own_at (P := Tryd.prog) w B 22 ty 5 i0 (.int .u8 0) 1 1 Tryd.underlying22 hi hz0 hz1 hz2 rfl (by decide) v l.length (bvs l) hv a news.length c (bvs news) (by simp [bvs_length]) hr.news (bvs_one _) (by unfold maxLen; omega) (by omega) hB
    exact ⟨v', w', h1, by simpa [Lst, bvs_append] using h2, h3, h5⟩

/-- At an append in a walk: the new row, and what has not turned. -/
theorem wpList_app {ops : Array Oper} {rest : List Oper} {o : Oper} {a : Act} {Q : Exit → Act → World → Prop} {w : World} (hgd : o.guard = none) (s x : Operand)
    (ho : o.op = .call { callee := .builtin .append, args := #[s, x], argTypes := #[22, 22] })
    (B : Nat) (v : Value) (l : List UInt8) (hs : a.eval s = v) (hv : Lst w B v l)
    (A : Option Addr) (c : Nat) (news : List UInt8) (hx : a.eval x = .slice A news.length c) (hr : Rd w A news) (hlen : l.length + news.length ≤ 1000000) (hB : B ≤ w.heap.size)
    (h : ∀ v' w', Lst w' B v' (l ++ news) → Below B w w' → w.grownBy w' v.ownBlock → (v'.ownBlock = v.ownBlock ∨ v'.ownBlock = some w.heap.size) → wpList Tryd.prog ops Q rest (a.put o.dst v') w') : wpList Tryd.prog ops Q (o :: rest) a w := by
  refine wpList_plain hgd fun K hK => ?_
  obtain ⟨v', w', hrun, h2, h3, h5⟩ := run_app w o.type B v l hv A c news hr hlen hB
  unfold Oper.wp execOp
  simp only [ho, resolve, invoke, builtin, Sem.run_bind, Sem.run_pure, Result.andThen_ok, List.map_toArray, List.map_cons, List.map_nil, hs, hx, hrun]
  exact hK _ _ (h v' w' h2 ((Below.refl B w).grown h3 hB fun k hk => (World.ownsRow.lt hv k hk).1) h3 h5)

/-! ### A byte of a number -/
def by_ (k : Int) : UInt8 := UInt8.ofNat k.toNat
theorem by_nat (k : Int) (h0 : 0 ≤ k) (h1 : k < 256) : ((by_ k).toNat : Int) = k := by
  unfold by_; rw [UInt8.toNat_ofNat']; omega
theorem rd_new1 (w : World) (p : Int) (p0 : 0 ≤ p) (p1 : p < 256) : Rd (w.alloc (.cells #[.int .u8 p] 5)) (some ⟨w.heap.size, 0, none⟩) [by_ p] := fun _ =>
  ⟨w.heap.size, 0, rfl, by simp, fun j hj => by
    obtain rfl : j = 0 := by simpa using hj
    rw [(Blk.new w 5 _).cell]; simp [nth, by_nat p p0 p1]⟩
theorem rd_new2 (w : World) (p q : Int) (p0 : 0 ≤ p) (p1 : p < 256) (q0 : 0 ≤ q) (q1 : q < 256) : Rd (w.alloc (.cells #[.int .u8 p, .int .u8 q] 5)) (some ⟨w.heap.size, 0, none⟩) [by_ p, by_ q] := fun _ =>
  ⟨w.heap.size, 0, rfl, by simp, fun j hj => by
    rw [(Blk.new w 5 _).cell]
    rcases j with _ | _ | j
    · simp [nth, by_nat p p0 p1]
    · simp [nth, by_nat q q0 q1]
    · simp at hj; omega⟩
theorem Lst.alloc {w : World} {B : Nat} {v : Value} {l : List UInt8} (h : Lst w B v l) (o : Obj) : Lst (w.alloc o) B v l := h.below ((Below.refl _ _).alloc (Nat.le_refl _) _)
end Go.Proofs.YtfbbgoahipejlabDoor.W
