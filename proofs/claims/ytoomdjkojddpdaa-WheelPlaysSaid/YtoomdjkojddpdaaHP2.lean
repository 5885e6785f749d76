/- The plain part of WheelAgain: keys that are set again, every other one cancelled. No memory, no program. -/
import Derived.Test.YtoomdjkojddpdaaH0
namespace Go.Proofs.Ytoomdjkojddpdaa.H14
theorem has_iff {l : List En} {s : Int} (h : Wok l s) {q : Int} : has l q = true ↔ q ∈ keys l := (mem_keys h).symm
theorem has_mem {l : List En} {e : En} (he : e ∈ l) : has l e.k = true := by
  unfold has
  cases hf : fnd l e.k with
  | none => exact absurd rfl (fnd_none hf e he)
  | some x => rfl
theorem has_set {l : List En} {s : Int} (h : Wok l s) {k u : Int} (hs : 0 ≤ s) (hk : -9223372036854775808 ≤ k ∧ k ≤ 9223372036854775807) (hu : 0 ≤ u ∧ u ≤ 4611686018427387904) (q : Int) : has (set l s k u) q = true ↔ q = k ∨ has l q = true := by
  unfold has
  by_cases e : q = k
  · subst e; rw [fnd_set_same h hs hk hu]; simp
  · rw [fnd_set_other h hs hk hu e]; simp [e]
theorem unt_set {l : List En} {s : Int} (h : Wok l s) {k u : Int} (hs : 0 ≤ s) (hk : -9223372036854775808 ≤ k ∧ k ≤ 9223372036854775807) (hu : 0 ≤ u ∧ u ≤ 4611686018427387904) (q : Int) : unt (set l s k u) q = if q = k then u else unt l q := by
  unfold unt
  by_cases e : q = k
  · subst e; rw [fnd_set_same h hs hk hu, if_pos rfl]
  · rw [fnd_set_other h hs hk hu e, if_neg e]
theorem len_of_has {l l' : List En} {s s' : Int} (h : Wok l s) (h' : Wok l' s') (he : ∀ q, has l q = true ↔ has l' q = true) : l.length = l'.length := by
  rw [← len_keys l, ← len_keys l']
  refine List.Perm.length_eq ((List.perm_ext_iff_of_nodup h.keys_nodup h'.keys_nodup).2 fun q => ?_)
  rw [← has_iff h, ← has_iff h', he]
theorem unt_mem {l : List En} {s : Int} (h : Wok l s) {e : En} (he : e ∈ l) : unt l e.k = e.u := by unfold unt; rw [h.fnd he]
theorem mem_take_succ {l : List Int} {k : Nat} {x : Int} (h : l[k]? = some x) (q : Int) : q ∈ l.take (k + 1) ↔ q = x ∨ q ∈ l.take k := by
  obtain ⟨hk, e⟩ := List.getElem?_eq_some_iff.1 h
  rw [List.take_succ_eq_append_getElem hk, e, List.mem_append, List.mem_singleton, Or.comm]
/-- The first j of the even places struck. -/
def ev : Nat → List En → List En
  | 0, l => l
  | _ + 1, [] => []
  | _ + 1, [_] => []
  | j + 1, _ :: b :: r => b :: ev j r
/-- The odd places. -/
def od : List En → List En
  | [] => []
  | [_] => []
  | _ :: b :: r => b :: od r
theorem ev_od : ∀ (j : Nat) (l : List En), l.length ≤ 2 * j → ev j l = od l
  | 0, l, h => by
    obtain rfl : l = [] := List.eq_nil_of_length_eq_zero (by omega)
    rfl
  | _ + 1, [], _ => rfl
  | _ + 1, [_], _ => rfl
  | j + 1, a :: b :: r, h => by
    show b :: ev j r = b :: od r
    rw [ev_od j r (by simp only [List.length_cons] at h; omega)]
theorem od_len : ∀ l : List En, (od l).length = l.length / 2
  | [] => rfl
  | [_] => by simp [od]
  | _ :: b :: r => by
    show (b :: od r).length = _
    simp only [List.length_cons]
    rw [od_len r]; omega
theorem od_at : ∀ (l : List En) (i : Nat), (od l)[i]? = l[2 * i + 1]?
  | [], i => by simp [od]
  | [a], i => by simp [od]
  | a :: b :: r, 0 => rfl
  | a :: b :: r, i + 1 => by
    show (od r)[i]? = (a :: b :: r)[2 * (i + 1) + 1]?
    rw [od_at r i, show 2 * (i + 1) + 1 = (2 * i + 1) + 2 from by omega]
    rfl
theorem can_self {l : List En} {k : Int} (h : ∀ e ∈ l, e.k ≠ k) : can l k = l := List.filter_eq_self.2 fun e he => by simpa using h e he
theorem ev_sub : ∀ (j : Nat) (l : List En) (e : En), e ∈ ev j l → e ∈ l
  | 0, _, _, h => h
  | _ + 1, [], _, h => h
  | _ + 1, [_], _, h => by simp [ev] at h
  | j + 1, a :: b :: r, e, h => by
    have h' : e ∈ b :: ev j r := h
    rcases List.mem_cons.1 h' with rfl | h'
    · simp
    · exact List.mem_cons_of_mem _ (List.mem_cons_of_mem _ (ev_sub j r e h'))
theorem ev_step : ∀ (j : Nat) (l : List En) (e : En), l.Pairwise (fun a b => a.k ≠ b.k) → l[2 * j]? = some e → can (ev j l) e.k = ev (j + 1) l ∧ e ∈ ev j l
  | 0, [], e, _, h => by simp at h
  | 0, a :: r, e, hp, h => by
    obtain rfl : a = e := by simpa using h
    have h1 : can r a.k = r := can_self fun x hx => ((List.pairwise_cons.1 hp).1 x hx).symm
    refine ⟨?_, by simp [ev]⟩
    show can (a :: r) a.k = _
    have h2 : can (a :: r) a.k = can r a.k := by simp [can]
    rw [h2, h1]
    cases r with
    | nil => rfl
    | cons b r => rfl
  | j + 1, [], e, _, h => by simp at h
  | j + 1, [a], e, _, h => by simp at h
  | j + 1, a :: b :: r, e, hp, h => by
    have h' : r[2 * j]? = some e := by
      rw [show 2 * (j + 1) = 2 * j + 2 from by omega] at h
      simpa using h
    obtain ⟨h1, h2⟩ := List.pairwise_cons.1 hp
    obtain ⟨h3, h4⟩ := List.pairwise_cons.1 h2
    obtain ⟨i1, i2⟩ := ev_step j r e h4 h'
    have hne : b.k ≠ e.k := h3 e (List.mem_of_getElem? h')
    refine ⟨?_, List.mem_cons_of_mem _ i2⟩
    show can (b :: ev j r) e.k = b :: ev (j + 1) r
    rw [← i1]
    simp [can, hne]
theorem can_can (l : List En) (k : Int) : can (can l k) k = can l k := can_self fun _ he => (mem_can.1 he).2
theorem od_sub : ∀ (l : List En) (x : En), x ∈ od l → x ∈ l := fun l _ h => ev_sub l.length l _ (by rw [ev_od l.length l (by omega)]; exact h)
theorem due_all {l : List En} {c : Int} (h : ∀ e ∈ l, e.u ≤ c) : due l c = l ∧ left l c = [] := by
  refine ⟨List.filter_eq_self.2 fun e he => by simpa using h e he, List.filter_eq_nil_iff.2 fun e he => ?_⟩
  have := h e he
  simp only [decide_eq_true_eq]; omega
theorem ins_len (l : List En) (x : En) : (ins l x).length = l.length + 1 := by
  have : ∀ r : List En, (r.filter fun e => decide (e.u ≤ x.u)).length + (r.filter fun e => decide (x.u < e.u)).length = r.length := by
    intro r
    induction r with
    | nil => rfl
    | cons a r ih =>
      by_cases h : a.u ≤ x.u
      · have h' : ¬ x.u < a.u := by omega
        rw [List.filter_cons_of_pos (by simpa using h), List.filter_cons_of_neg (by simpa using h')]
        simp only [List.length_cons]; omega
      · have h' : x.u < a.u := by omega
        rw [List.filter_cons_of_neg (by simpa using h), List.filter_cons_of_pos (by simpa using h')]
        simp only [List.length_cons]; omega
  have := this l
  unfold ins
  rw [List.length_append, List.length_cons]
  omega
theorem set_len (l : List En) (s k u : Int) : (set l s k u).length ≤ l.length + 1 := by
  unfold set
  rw [ins_len]
  have := List.length_filter_le (fun e : En => decide (e.k ≠ k)) l
  unfold can
  omega
theorem keys_at {l : List En} {i : Nat} {e : En} (h : l[i]? = some e) : (keys l)[i]? = some e.k := by simp [keys, h]
end Go.Proofs.Ytoomdjkojddpdaa.H14
