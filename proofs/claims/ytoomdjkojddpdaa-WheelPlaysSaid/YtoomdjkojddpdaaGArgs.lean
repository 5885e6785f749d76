/- What the statements read of their arguments, whatever the program: structs of numbers, slices of elements that read alike. -/
import Derived.Test.YtoomdjkojddpdaaGen
import Derived.Deep.Slices
import Derived.Deep.Fields
import Derived.ChangeSame
import Derived.ChangeVars
import Derived.JoinedOf
import Derived.LaidLaws
import Derived.LaidHandle
import Derived.Stop.Joined
import Derived.Carry
namespace Go.Proofs.Ytoomdjkojddpdaa.C04
open Go.ChangeShapes Go.WideShapes Go.RowKit Go.Proofs.Ytoomdjkojddpdaa.G

section
variable {H : Type} {enc : TypeId × Value → H} {P : Program} {W : World}
/-- A struct whose fields are all numbers. -/
theorem ints_read {t : TypeId} {fs : Array Field} {k : Nat} (hu : P.underlying t = some (.struct fs)) (hone : Deep.oneCellFields P fs = true) (hC : P.cellsOf t = k) (hk : fs.size = k) (ht : ∀ i, i < k → ∃ f, fs[i]? = some f ∧ P.underlying f.type = some (.int .i64))
    {sp : Nat → Bool} {held : Bool} {fuel : Nat} {cs : List Value} {x : DataW H × List MemPlace} (h : DataW.trod enc P W 0 sp held fuel t cs = some x) :
    ∃ z : Nat → Int, cs.length = k ∧ ∀ i, i < k → cs[i]? = some (.int .i64 (z i)) ∧ z i ≤ 9223372036854775807 := by
  obtain ⟨xs, n, _, _, hlen, hxl, hf⟩ := DataW.trod_struct hu h
  rw [hC] at hlen
  have key : ∀ i, ∃ m : Int, i < k → cs[i]? = some (.int .i64 m) ∧ m ≤ 9223372036854775807 := by
    intro i
    by_cases hi : i < k
    · obtain ⟨f, hfi, hfu⟩ := ht i hi
      obtain ⟨ho, hk'⟩ := Deep.hone_of hone i f hfi
      have h1 := hf i f hfi
      rw [ho, hk', List.getElem?_eq_getElem (by omega)] at h1
      obtain ⟨m, hm, _, hw⟩ := DataW.trod_int hfu h1
      refine ⟨m, fun _ => ⟨?_, (bounds_i64 hw).2⟩⟩
      have := congrArg (·[0]?) hm
      simpa [List.getElem?_take] using this
    · exact ⟨0, fun h => absurd h hi⟩
  exact ⟨fun i => Classical.choose (key i), hlen, fun i hi => Classical.choose_spec (key i) hi⟩
/-- A slice of elements that read alike. -/
theorem open_rows {α : Type} {t e : TypeId} {m : Nat} (g : α → List Value) (ok : α → Prop) (d0 : α) (hu : P.underlying t = some (.slice e)) (hC : P.cellsOf e = m) (hm0 : 0 < m) (hg : ∀ x, (g x).length = m)
    (hread : ∀ (fuel : Nat) (cs : List Value) (x : DataW H × List MemPlace), DataW.trod enc P W 0 (fun _ => true) true fuel e cs = some x → ∃ a : α, cs = g a ∧ ok a)
    {fuel : Nat} {cs : List Value} {x : DataW H × List MemPlace} (h : DataW.trod enc P W 0 (fun _ => true) true fuel t cs = some x) :
    ∃ (A : Option Addr) (c : Nat) (l : List α), cs = [.slice A l.length c] ∧ l.length ≤ c ∧ c ≤ 9223372036854775807 ∧ Row W A (l.flatMap g) ∧ ∀ (k : Nat) (y : α), l[k]? = some y → ok y := by
  rcases Deep.open_slice hu h with ⟨hcs, _⟩ | ⟨a, len, cap, n, k, D, Pl, hcs, _, hl, hm, hmm, _, hi⟩
  · exact ⟨none, 0, [], hcs, by simp, by omega, Row.none_, fun k y hy => by simp at hy⟩
  · rw [if_pos rfl] at hmm
    subst hmm
    rw [hC] at hi
    unfold maxLen at hm
    have hs : ∀ j : Nat, ∃ s : α, j < len → ok s ∧ ∀ i, i < m → W.cell? ((a.add (j * m)).add i) = (g s)[i]? := by
      intro j
      by_cases hj : j < len
      · obtain ⟨cs', h1, h2⟩ := hi j (by omega)
        obtain ⟨s, rfl, hok'⟩ := hread _ _ _ h2
        obtain ⟨_, _, h3⟩ := World.cells?_some h1
        exact ⟨s, fun _ => ⟨hok', fun i hi' => h3 i hi'⟩⟩
      · exact ⟨d0, fun h => absurd h hj⟩
    obtain ⟨S, hS⟩ : ∃ S : Nat → α, ∀ j, j < len → ok (S j) ∧ ∀ i, i < m → W.cell? ((a.add (j * m)).add i) = (g (S j))[i]? := ⟨fun j => Classical.choose (hs j), fun j hj => Classical.choose_spec (hs j) hj⟩
    clear hs
    have hlen : (List.ofFn fun j : Fin len => S j).length = len := by simp
    refine ⟨some a, _, List.ofFn fun j : Fin len => S j, by rw [hlen]; exact hcs, by rw [hlen]; exact hl, hm, fun h0 => ?_, fun k y hy => ?_⟩
    · rw [flat_len hg, hlen] at h0
      have hl0 : 0 < len := by
        rcases Nat.eq_zero_or_pos len with h1 | h1
        · rw [h1, Nat.zero_mul] at h0; omega
        · exact h1
      have hc0 := (hS 0 hl0).2 0 hm0
      have hg0 : (g (S 0))[0]? = some ((g (S 0))[0]'(by rw [hg]; exact hm0)) := List.getElem?_eq_getElem _
      rw [hg0, Nat.zero_mul] at hc0
      have hc1 : W.cell? (a.add 0) = some ((g (S 0))[0]'(by rw [hg]; exact hm0)) := by
        obtain ⟨ab, ao, asp⟩ := a
        cases asp <;> simpa [Addr.add] using hc0
      obtain ⟨b, o, rfl⟩ := plain_addr hc1
      have hlt : b < W.heap.size := by
        have := World.block_lt_of_cell? W _ hc1
        simpa [Addr.add_lit] using this
      refine ⟨b, o, rfl, hlt, fun j u hj => ?_⟩
      have hjl : j < len * m := by
        have := (List.getElem?_eq_some_iff.1 hj).1
        rwa [flat_len hg, hlen] at this
      have hq : j / m < len := Nat.div_lt_of_lt_mul (by rwa [Nat.mul_comm])
      have hr : j % m < m := Nat.mod_lt _ hm0
      have hj' : j / m * m + j % m = j := by rw [Nat.mul_comm]; exact Nat.div_add_mod j m
      have hx : (List.ofFn fun j : Fin len => S j)[j / m]? = some (S (j / m)) := by
        rw [List.getElem?_eq_getElem (by rw [hlen]; exact hq)]; simp
      have h5 := flat_at hg _ (j / m) (j % m) _ hx hr
      rw [hj', hj] at h5
      have h6 := (hS (j / m) hq).2 (j % m) hr
      rw [← h5] at h6
      rw [← h6]
      congr 1
      simp [Addr.add_lit, Nat.add_assoc, hj']
    · have hk : k < len := by
        have := (List.getElem?_eq_some_iff.1 hy).1
        rwa [hlen] at this
      rw [List.getElem?_eq_getElem (by rw [hlen]; exact hk)] at hy
      simp at hy
      subst hy
      exact (hS k hk).1
end
end Go.Proofs.Ytoomdjkojddpdaa.C04
