/- What the statements read of their arguments (bytes, numbers), and what their rows ask behind the call. -/
import Derived.Test.YtdiiengjboeboaaLiv
import Derived.Carry
namespace Go.Proofs.Ytdiiengjboeboaa.Wire
open Go.ChangeShapes Go.WideShapes Go.RowKit

theorem own : ownKnob Try.prog.godebug = none := by kernel_rfl
theorem laidOut : laidOutB Try.prog = true := by kernel_rfl
theorem cells3 : Try.prog.cellsOf 3 = 1 := by kernel_rfl
theorem cells5 : Try.prog.cellsOf 5 = 1 := by kernel_rfl
/-- Below the heap's old size nothing has turned: all arguments read as they did. -/
theorem trodAll_below {H : Type} {enc : TypeId × Value → H} {W W' : World} (hb : Below W.heap.size W W') : ∀ (ts : List TypeId) (vs : List Value) (ds : List (DataW H)) (p : List MemPlace),
    (ts.all fun t => Try.prog.readableRec t && decide (t < Try.prog.types.size)) = true → DataW.TrodAll enc Try.prog W 0 (fun _ => true) true ts vs ds p → (∀ x ∈ p, x.block < W.heap.size) →
    DataW.TrodAll enc Try.prog W' 0 (fun b => decide (b < W.heap.size)) true ts vs ds p := by
  intro ts
  induction ts with
  | nil => intro vs ds p _ h _; cases vs <;> cases ds <;> first | exact h | cases h
  | cons t ts ih =>
    intro vs ds p hts h hlt
    cases vs with
    | nil => cases ds <;> cases h
    | cons v vs =>
      cases ds with
      | nil => cases h
      | cons d ds =>
        obtain ⟨p1, p2, h1, h2, rfl⟩ := h
        simp only [List.all_cons, Bool.and_eq_true, decide_eq_true_eq] at hts
        exact ⟨p1, p2, Below.trod laidOut hts.1.1 hts.1.2 h1 hb (fun x hx => hlt x (List.mem_append_left _ hx)), ih vs ds p2 hts.2 h2 (fun x hx => hlt x (List.mem_append_right _ hx)), rfl⟩
/-- What a row asks behind the call: the law returned true, and of what was there nothing has turned. -/
theorem post_true {H : Type} {enc : TypeId × Value → H} {f : Func} {s : ChangeSpec} {W W' : World} {args : Array Value} {ds : List (DataW H)} {before : List MemPlace}
    (hW : DataW.Whole enc Try.prog f.params.toList s.vars false W args.toList ds [] before) (hv : s.vars = []) (hr : f.resultTypes = #[4])
    (hts : (f.params.toList.all fun t => Try.prog.readableRec t && decide (t < Try.prog.types.size)) = true)
    (hfn : s.fn H (ds ++ []) = { results := [.lit (.bool true)], args := ds }) (hb : Below W.heap.size W W') :
    s.post enc Try.prog f false true false false W args (.bool true) W' := by
  have hW' := hW
  have hlt := fun (x : MemPlace) (hx : x ∈ before) => hW.lt x hx
  obtain ⟨p, q, hA, hV, rfl, hfz, hnd⟩ := hW
  rw [hv] at hV
  have hq : q = [] := hV
  subst hq
  refine ⟨ds, [], _, [], p, [], hW', ?_, ?_, ?_, hb.frame _, fun h => by cases h⟩
  · rw [hfn, hr]; exact trodAll_mk1 (shut_bool Try.underlying4 true)
  · rw [hfn]; exact trodAll_below hb _ _ _ _ hts hA (fun x hx => by simpa using hlt x (List.mem_append_left _ hx))
  · rw [hfn, hv]; rfl

/-! ### few, at bytes -/
def FirstPost (w : World) (A : Option Addr) (l : List UInt8) (c : Nat) (e : Ending) (w' : World) : Prop := ∃ p : List UInt8, e = .returned (.slice A p.length c) ∧ p.length ≤ 200 ∧ p.length ≤ c ∧ p = l.take 200 ∧ Rd w A p ∧ w = w'
theorem first_any {w : World} {A : Option Addr} {l : List UInt8} {c : Nat} (hr : Rd w A l) (hl : l.length ≤ c) (hc : c ≤ 9223372036854775807) : Calls Try.prog 10 #[.slice A l.length c] w (FirstPost w A l c) :=
  (few_any l.length c hl hc w).mono fun e w' ⟨he, hw⟩ => ⟨l.take 200, by rw [he, List.length_take, Nat.min_comm], by simp; omega, by simp; omega, rfl, hr.take 200, hw⟩

/-! ### Arguments -/
/-- Numbers at a slice's address. -/
def Ints (w : World) (A : Option Addr) (n : Nat) (z : Nat → Int) : Prop := 0 < n → ∃ b o : Nat, A = some ⟨b, o, none⟩ ∧ b < w.heap.size ∧ ∀ j, j < n → w.cell? ⟨b, o + j, none⟩ = some (.int .i64 (z j)) ∧ -9223372036854775808 ≤ z j ∧ z j ≤ 9223372036854775807
theorem Ints.at_ {w w' : World} {A : Option Addr} {n : Nat} {z : Nat → Int} (h : Ints w A n z) (hb : Below w.heap.size w w') {k : Nat} (hk : k < n) :
    ∃ b o : Nat, A = some ⟨b, o, none⟩ ∧ b < w.heap.size ∧ w'.cell? ⟨b, o + k, none⟩ = some (.int .i64 (z k)) ∧ -9223372036854775808 ≤ z k ∧ z k ≤ 9223372036854775807 := by
  obtain ⟨b, o, e, hlt, hc⟩ := h (by omega)
  obtain ⟨h1, h2⟩ := hc k hk
  exact ⟨b, o, e, hlt, (hb.cell (p := ⟨b, o + k, none⟩) hlt).trans h1, h2⟩
theorem plain_addr {W : World} {a : Addr} {v : Value} (h : W.cell? (a.add 0) = some v) : ∃ b o, a = ⟨b, o, none⟩ := by
  obtain ⟨ab, ao, asp⟩ := a
  cases asp with
  | none => exact ⟨ab, ao, rfl⟩
  | some x =>
    exfalso
    have e : ((⟨ab, ao, some x⟩ : Addr).add 0) = ⟨ab, ao, some x⟩ := rfl
    rw [e] at h
    unfold World.cell? at h
    split at h <;> simp at h
section
variable {H : Type} {enc : TypeId × Value → H} {W : World}
theorem open_nums {t e : TypeId} {k : IntKind} (ht : Try.prog.underlying t = some (.slice e)) (he : Try.prog.underlying e = some (.int k)) (hc : Try.prog.cellsOf e = 1) {base : Nat} {v : Value} {d : DataW H} {p : List MemPlace}
    (hok : Value.okWide Try.prog W .any base t v) (h : DataW.Trod enc Try.prog W 0 (fun _ => true) true t v d p) :
    ∃ (A : Option Addr) (n c : Nat) (zs : List Int), v = .slice A n c ∧ n ≤ zs.length ∧ n ≤ c ∧ c ≤ 9223372036854775807 ∧ (∀ x ∈ zs, (Lit.int k x).wf = true) ∧
      (0 < n → ∃ b o : Nat, A = some ⟨b, o, none⟩ ∧ b < W.heap.size ∧ ∀ j, j < n → W.cell? ⟨b, o + j, none⟩ = some (.int k (zs.getD j 0))) := by
  obtain ⟨A, n, c, rfl⟩ := WideShapes.okWide_slice ht hok
  obtain ⟨fuel, hf⟩ := h
  rcases open_ints ht he hc hf with ⟨hcs, _⟩ | ⟨a, len, cap, zs, hcs, _, hl, hm, hz, _, hcell, hwf⟩
  · have hcs' : [Value.slice A n c] = [.slice none 0 0] := hcs
    injection hcs' with e1 _
    injection e1 with e1 e2 e3
    subst e1 e2 e3
    exact ⟨none, 0, 0, [], rfl, by simp, by omega, by omega, by simp, fun h0 => absurd h0 (by omega)⟩
  · have hcs' : [Value.slice A n c] = [.slice (some a) len cap] := hcs
    injection hcs' with e1 _
    injection e1 with e1 e2 e3
    subst e1 e2 e3
    rw [if_pos rfl] at hz
    unfold maxLen at hm
    refine ⟨some a, n, c, zs, rfl, by omega, hl, hm, hwf, fun h0 => ?_⟩
    have h1 := hcell 0 (by omega)
    obtain ⟨b, o, rfl⟩ := plain_addr h1
    have hlt : b < W.heap.size := by
      have := World.block_lt_of_cell? W _ h1
      simpa [Addr.add_lit] using this
    refine ⟨b, o, rfl, hlt, fun j hj => ?_⟩
    have := hcell j (by omega)
    simpa only [Addr.add_lit] using this
theorem open_bytes {base : Nat} {v : Value} {d : DataW H} {p : List MemPlace} (hok : Value.okWide Try.prog W .any base 22 v) (h : DataW.Trod enc Try.prog W 0 (fun _ => true) true 22 v d p) :
    ∃ (A : Option Addr) (l : List UInt8) (c : Nat), v = .slice A l.length c ∧ l.length ≤ c ∧ c ≤ 9223372036854775807 ∧ Rd W A l := by
  obtain ⟨A, n, c, zs, rfl, hn, hl, hm, hwf, hc⟩ := open_nums Try.underlying22 Try.underlying5 cells5 hok h
  have hlen : ((zs.take n).map by_).length = n := by simp; omega
  refine ⟨A, (zs.take n).map by_, c, by rw [hlen], by omega, hm, fun h0 => ?_⟩
  rw [hlen] at h0
  obtain ⟨b, o, e, hlt, hcell⟩ := hc h0
  refine ⟨b, o, e, hlt, fun j hj => ?_⟩
  rw [hlen] at hj
  rw [hcell j hj]
  have hjz : j < zs.length := by omega
  have hw := hwf zs[j] (List.getElem_mem hjz)
  have hbd : 0 ≤ zs[j] ∧ zs[j] < 256 := by
    have := bounds_u8 hw
    omega
  have e1 : zs.getD j 0 = zs[j] := by simp [hjz]
  have e2 : nth ((zs.take n).map by_) j = zs[j] := by
    unfold nth
    rw [show ((zs.take n).map by_).getD j 0 = by_ zs[j] by simp [hj, hjz]]
    exact by_nat _ hbd.1 hbd.2
  rw [e1, e2]
theorem open_numbers {base : Nat} {v : Value} {d : DataW H} {p : List MemPlace} (hok : Value.okWide Try.prog W .any base 31 v) (h : DataW.Trod enc Try.prog W 0 (fun _ => true) true 31 v d p) :
    ∃ (A : Option Addr) (n c : Nat) (z : Nat → Int), v = .slice A n c ∧ n ≤ c ∧ c ≤ 9223372036854775807 ∧ Ints W A n z := by
  obtain ⟨A, n, c, zs, rfl, hn, hl, hm, hwf, hc⟩ := open_nums Try.underlying31 Try.underlying3 cells3 hok h
  refine ⟨A, n, c, fun j => zs.getD j 0, rfl, hl, hm, fun h0 => ?_⟩
  obtain ⟨b, o, e, hlt, hcell⟩ := hc h0
  refine ⟨b, o, e, hlt, fun j hj => ⟨hcell j hj, ?_⟩⟩
  have hjz : j < zs.length := by omega
  have e1 : zs.getD j 0 = zs[j] := by simp [hjz]
  show -9223372036854775808 ≤ zs.getD j 0 ∧ zs.getD j 0 ≤ 9223372036854775807
  rw [e1]
  exact bounds_i64 (hwf zs[j] (List.getElem_mem hjz))
end
end Go.Proofs.Ytdiiengjboeboaa.Wire
