/- append as a step of a region: of a list of numbers that is one's own, by one number. -/
import Derived.Test.YtpoidnajhcjmcaaDoorOb
import Derived.Deep.RegionLaw
import Derived.Deep.QuietTactic
import Derived.BigQuiet
namespace Go.Proofs.YtpoidnajhcjmcaaDoor.Ob
open Go.RowKit Go.Proofs.YtpoidnajhcjmcaaDoor.G Go.Proofs.YtpoidnajhcjmcaaDoor.Cell
set_option maxRecDepth 100000
/-! ### append, as a step -/
theorem wp_app {P : Program} {t e : TypeId} {i0 : TypeInfo} {z : Value} {m by_ : Nat} (ht : P.underlying t = some (.slice e)) (hi : P.info? e = some i0) (hz0 : i0.zero = some z) (hz1 : i0.size = m) (hz2 : i0.bytes = by_) (hzm : z.cells.size = m) (hm : 0 < m)
    {o : Oper} {a : Act} {K : Act → World → Prop} {Q : Exit → Act → World → Prop} {w : World} (s x : Operand)
    (ho : o.op = .call { callee := .builtin .append, args := #[s, x], argTypes := #[t, t] })
    (B : Nat) (v : Value) (n : Nat) (xs : List Value) (hs : a.eval s = v) (hv : Own w B e m v n xs)
    (A : Option Addr) (k c : Nat) (news : List Value) (hx : a.eval x = .slice A k c) (hr : Row w A news) (hk : news.length = k * m) (h1 : ∀ u ∈ news, u.oneCell' = true)
    (hlen : n + k ≤ 1000000) (hby : by_ ≤ 100000000) (hB : B ≤ w.heap.size)
    (h : ∀ v' w', Own w' B e m v' (n + k) (xs ++ news) → Below B w w' → w.grownBy w' v.ownBlock → (v'.ownBlock = v.ownBlock ∨ v'.ownBlock = some w.heap.size) → K (a.put o.dst v') w') : o.wp P a w K Q := by
  obtain ⟨v', w', hrun, h2, h3, h5⟩ := run_app ht hi hz0 hz1 hz2 hzm hm w o.type B v n xs hv A k c news hr hk h1 hlen hby hB
  unfold Oper.wp execOp
  simp only [ho, resolve, invoke, builtin, Sem.run_bind, Sem.run_pure, Result.andThen_ok, List.map_toArray, List.map_cons, List.map_nil, hs, hx, hrun]
  exact h v' w' h2 ((Below.refl B w).grown h3 hB fun k hk => (World.ownsRow.lt hv k hk).1) h3 h5
theorem step_app {P : Program} {t e : TypeId} {i0 : TypeInfo} {z : Value} {m by_ : Nat} (ht : P.underlying t = some (.slice e)) (hi : P.info? e = some i0) (hz0 : i0.zero = some z) (hz1 : i0.size = m) (hz2 : i0.bytes = by_) (hzm : z.cells.size = m) (hm : 0 < m)
    {ops : Array Oper} {o : Oper} {a : Act} {K : Act → World → Prop} {Q : Exit → Act → World → Prop} {E : Prop} {w : World} (hgd : o.guard = none) (s x : Operand)
    (ho : o.op = .call { callee := .builtin .append, args := #[s, x], argTypes := #[t, t] })
    (B : Nat) (v : Value) (n : Nat) (xs : List Value) (hs : a.eval s = v) (hv : Own w B e m v n xs)
    (A : Option Addr) (k c : Nat) (news : List Value) (hx : a.eval x = .slice A k c) (hr : Row w A news) (hk : news.length = k * m) (h1 : ∀ u ∈ news, u.oneCell' = true)
    (hlen : n + k ≤ 1000000) (hby : by_ ≤ 100000000) (hB : B ≤ w.heap.size)
    (h : ∀ v' w', Own w' B e m v' (n + k) (xs ++ news) → Below B w w' → w.grownBy w' v.ownBlock → (v'.ownBlock = v.ownBlock ∨ v'.ownBlock = some w.heap.size) → K (a.put o.dst v') w') :
    if Region.wanted o (yielded ops a.tmps) = true then Oper.wp P o a w K Q else E := by
  rw [if_pos (by simp [Region.wanted, hgd])]
  exact wp_app ht hi hz0 hz1 hz2 hzm hm s x ho B v n xs hs hv A k c news hx hr hk h1 hlen hby hB h

/-- One number more. -/
theorem step_one {ops : Array Oper} {o : Oper} {a : Act} {K : Act → World → Prop} {Q : Exit → Act → World → Prop} {E : Prop} {w : World} (hgd : o.guard = none) (s x : Operand)
    (ho : o.op = .call { callee := .builtin .append, args := #[s, x], argTypes := #[27, 27] })
    {v : Value} {l : List Int} {g : Nat} {z : Int} (hs : a.eval s = v) (hv : Lst w 0 v l) (hx : a.eval x = .slice (some ⟨g, 0, none⟩) 1 1) (hb : Blk w g 3 #[.int .i64 z]) (hl : l.length ≤ 100)
    (h : ∀ v' w', Lst w' 0 v' (l ++ [z]) → w.grownBy w' v.ownBlock → (v'.ownBlock = v.ownBlock ∨ v'.ownBlock = some w.heap.size) → K (a.put o.dst v') w') :
    if Region.wanted o (yielded ops a.tmps) = true then Oper.wp Tryd.prog o a w K Q else E := by
  obtain ⟨i0, hi, hz0, hz1, hz2⟩ := info_parts info3
  refine step_app Tryd.underlying27 hi hz0 hz1 hz2 rfl (by decide) hgd s x ho 0 v l.length (l.map (Value.int .i64)) hs hv _ 1 1 [.int .i64 z] hx (Row.of_blk hb (fun j u hj => ?_)) rfl (by simp [Value.oneCell']) (by omega) (by decide) (Nat.zero_le _) fun v' w' h1 _ h3 h4 => h v' w' ?_ h3 h4
  · rcases j with _ | j
    · simpa using hj
    · simp at hj
  · unfold Own at h1; unfold Lst; simpa using h1
end Go.Proofs.YtpoidnajhcjmcaaDoor.Ob
