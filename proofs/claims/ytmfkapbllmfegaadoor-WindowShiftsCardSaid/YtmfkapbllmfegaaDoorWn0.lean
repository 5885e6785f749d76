/- Windows, plain: whose a phase is, an owner's phases in their row, how many ticks of a kind are ahead of a tick, and which is the n-th. -/
import Derived.Test.YtmfkapbllmfegaaDoorOne0
namespace Go.Proofs.YtmfkapbllmfegaaDoor.W13
open Go.RowKit Go.Proofs.YtmfkapbllmfegaaDoor.G Go.Proofs.YtmfkapbllmfegaaDoor.C04

/-! ### How many of a kind are below: any kind -/
def ah (q : Nat → Bool) : Nat → Nat
  | 0 => 0
  | n + 1 => ah q n + if q n = true then 1 else 0
theorem ah_le (q : Nat → Bool) (n : Nat) : ah q n ≤ n := by
  induction n with
  | zero => exact Nat.le_refl _
  | succ n ih => unfold ah; split <;> omega
theorem ah_mono (q : Nat → Bool) {n m : Nat} (h : n ≤ m) : ah q n ≤ ah q m := by
  induction m with
  | zero => obtain rfl : n = 0 := by omega
            exact Nat.le_refl _
  | succ m ih =>
    by_cases e : n = m + 1
    · subst e; exact Nat.le_refl _
    · have := ih (by omega)
      show _ ≤ ah q m + _
      omega
/-- How many ticks of that kind are below t, if phases tell it. -/
def bq (q : Nat → Bool) (F t : Nat) : Nat := t / F * ah q F + ah q (t % F)
theorem bq_zero (q : Nat → Bool) (F : Nat) : bq q F 0 = 0 := by simp [bq, ah]
theorem bq_succ (q : Nat → Bool) {F : Nat} (hF : 0 < F) (t : Nat) : bq q F (t + 1) = bq q F t + if q (t % F) = true then 1 else 0 := by
  obtain ⟨a, r, hr, rfl⟩ : ∃ a r, r < F ∧ t = r + F * a := ⟨t / F, t % F, Nat.mod_lt _ hF, (Nat.mod_add_div t F).symm⟩
  unfold bq
  rw [Nat.add_mul_div_left _ _ hF, Nat.add_mul_mod_self_left, Nat.div_eq_of_lt hr, Nat.mod_eq_of_lt hr, show r + F * a + 1 = r + 1 + F * a by omega, Nat.add_mul_div_left _ _ hF, Nat.add_mul_mod_self_left]
  by_cases h : r + 1 < F
  · rw [Nat.div_eq_of_lt h, Nat.mod_eq_of_lt h]
    show _ + (ah q r + _) = _
    omega
  · obtain rfl : F = r + 1 := by omega
    rw [Nat.div_self hF, Nat.mod_self]
    show (1 + a) * (ah q r + _) + ah q 0 = (0 + a) * (ah q r + _) + ah q r + _
    rw [Nat.add_mul, Nat.one_mul, Nat.zero_add]
    simp only [ah]
    omega
theorem bq_mono (q : Nat → Bool) {F : Nat} (hF : 0 < F) {t u : Nat} (h : t ≤ u) : bq q F t ≤ bq q F u := by
  induction u with
  | zero => obtain rfl : t = 0 := by omega
            exact Nat.le_refl _
  | succ u ih =>
    by_cases e : t = u + 1
    · subst e; exact Nat.le_refl _
    · have := ih (by omega)
      rw [bq_succ q hF]; omega
theorem bq_le (q : Nat → Bool) {F : Nat} (hF : 0 < F) (t : Nat) : bq q F t ≤ t := by
  induction t with
  | zero => rw [bq_zero]; exact Nat.le_refl _
  | succ t ih => rw [bq_succ q hF]; split <;> omega
theorem bq_shift (q : Nat → Bool) {F : Nat} (hF : 0 < F) (t : Nat) : bq q F (t + F) = bq q F t + ah q F := by
  unfold bq
  rw [Nat.add_div_right _ hF, Nat.add_mod_right, Nat.succ_mul]; omega

/-! ### Windows in their row -/
def inW (x : Win) (p : Int) : Bool := decide (x.s ≤ p ∧ p < x.s + x.l)
def whoW (l : List Win) (p : Int) : Option Int := (l.find? (fun x => inW x p)).map (·.o)
def tks (x : Win) : List Int := (List.range x.l.toNat).map (fun i : Nat => x.s + (i : Int))
def phs (o : Int) : List Win → List Int
  | [] => []
  | x :: r => (if x.o = o then tks x else []) ++ phs o r
def Ch (P F : Int) : Int → List Win → Prop
  | _, [] => True
  | e, x :: r => (x.o = -1 ∨ 0 ≤ x.o ∧ x.o < P) ∧ 1 ≤ x.l ∧ e ≤ x.s ∧ x.s + x.l ≤ F ∧ Ch P F (x.s + x.l) r
theorem ch_of {P F : Int} : ∀ {l : List Win} {k : Nat} {e : Int}, wbad P F k e l = none → Ch P F e l
  | [], _, _, _ => trivial
  | x :: r, k, e, h => by
    unfold wbad at h
    split at h
    · rename_i hw
      have hw' := of_decide_eq_true hw
      exact ⟨hw'.1, hw'.2.1, hw'.2.2.1, hw'.2.2.2, ch_of h⟩
    · cases h
theorem mem_tks {x : Win} {p : Int} : p ∈ tks x ↔ inW x p = true := by
  simp only [tks, List.mem_map, List.mem_range, inW, decide_eq_true_eq]
  constructor
  · rintro ⟨i, hi, rfl⟩; omega
  · rintro ⟨h1, h2⟩; exact ⟨(p - x.s).toNat, by omega, by omega⟩
theorem phs_bd {P F : Int} {o : Int} : ∀ {l : List Win} {e : Int}, Ch P F e l → ∀ p ∈ phs o l, e ≤ p ∧ p < F
  | [], _, _, p, hp => by cases hp
  | x :: r, e, h, p, hp => by
    obtain ⟨_, h1, h2, h3, h4⟩ := h
    rcases List.mem_append.1 hp with hp | hp
    · split at hp
      · have := mem_tks.1 hp
        simp only [inW, decide_eq_true_eq] at this
        omega
      · cases hp
    · have := phs_bd h4 p hp; omega
theorem tks_sorted (x : Win) : (tks x).Pairwise (· < ·) := by
  unfold tks
  rw [List.pairwise_map]
  exact (List.pairwise_lt_range).imp (fun h => by omega)
theorem phs_sorted {P F : Int} {o : Int} : ∀ {l : List Win} {e : Int}, Ch P F e l → (phs o l).Pairwise (· < ·)
  | [], _, _ => List.Pairwise.nil
  | x :: r, e, h => by
    obtain ⟨_, h1, h2, h3, h4⟩ := h
    unfold phs
    rw [List.pairwise_append]
    refine ⟨?_, phs_sorted h4, ?_⟩
    · split
      · exact tks_sorted x
      · exact List.Pairwise.nil
    · intro a ha b hb
      have := phs_bd h4 b hb
      split at ha
      · have := mem_tks.1 ha
        simp only [inW, decide_eq_true_eq] at this
        omega
      · cases ha
theorem who_cons (x : Win) (r : List Win) (p : Int) : whoW (x :: r) p = if inW x p = true then some x.o else whoW r p := by
  unfold whoW
  rw [List.find?_cons]
  cases inW x p <;> rfl
theorem mem_phs {P F : Int} {o p : Int} : ∀ {l : List Win} {e : Int}, Ch P F e l → (p ∈ phs o l ↔ whoW l p = some o)
  | [], _, _ => by simp [phs, whoW]
  | x :: r, e, h => by
    obtain ⟨_, h1, h2, h3, h4⟩ := h
    have ih := mem_phs (o := o) (p := p) h4
    rw [who_cons]
    unfold phs
    rw [List.mem_append]
    by_cases hi : inW x p = true
    · rw [if_pos hi]
      have hn : p ∉ phs o r := fun hp => by
        have := phs_bd h4 p hp
        simp only [inW, decide_eq_true_eq] at hi
        omega
      by_cases ho : x.o = o
      · rw [if_pos ho, mem_tks]; simp [hi, ho]
      · rw [if_neg ho]; simp [hn, ho]
    · rw [if_neg hi, ← ih]
      by_cases ho : x.o = o
      · rw [if_pos ho, mem_tks]; simp [hi]
      · rw [if_neg ho]; simp
theorem who_own {P F : Int} {p o : Int} : ∀ {l : List Win} {e : Int}, Ch P F e l → whoW l p = some o → o = -1 ∨ 0 ≤ o ∧ o < P
  | [], _, _, hw => by simp [whoW] at hw
  | x :: r, e, h, hw => by
    obtain ⟨h0, _, _, _, h4⟩ := h
    rw [who_cons] at hw
    split at hw
    · cases hw; exact h0
    · exact who_own h4 hw

/-! ### Of one owner -/
def own (l : List Win) (o : Int) (n : Nat) : Bool := decide (whoW l (n : Int) = some o)
theorem countP_succ (n : Int) : ∀ {L : List Int}, L.Pairwise (· < ·) → L.countP (fun p => decide (p < n + 1)) = L.countP (fun p => decide (p < n)) + if n ∈ L then 1 else 0
  | [], _ => rfl
  | a :: r, h => by
    obtain ⟨h1, h2⟩ := List.pairwise_cons.1 h
    have ih := countP_succ n h2
    rw [List.countP_cons, List.countP_cons, ih]
    by_cases hn : n ∈ r
    · have := h1 n hn
      simp only [hn, List.mem_cons, or_true, if_true, decide_eq_true_eq]
      rw [if_pos (by omega), if_pos (by omega)]
    · simp only [hn, List.mem_cons, or_false, if_false, decide_eq_true_eq]
      by_cases h3 : a < n
      · rw [if_pos (by omega), if_pos h3, if_neg (by omega)]
      · by_cases h4 : n = a
        · rw [if_pos (by omega), if_neg h3, if_pos h4]
        · rw [if_neg (by omega), if_neg h3, if_neg h4]
theorem countP_at : ∀ {L : List Int} {k : Nat} {p : Int}, L.Pairwise (· < ·) → L[k]? = some p → L.countP (fun x => decide (x < p)) = k
  | [], k, p, _, hk => by simp at hk
  | a :: r, 0, p, h, hk => by
    obtain ⟨h1, _⟩ := List.pairwise_cons.1 h
    obtain rfl : a = p := by simpa using hk
    rw [List.countP_eq_zero]
    intro x hx
    rcases List.mem_cons.1 hx with rfl | hx
    · simp
    · have := h1 x hx
      simp only [decide_eq_true_eq]; omega
  | a :: r, k + 1, p, h, hk => by
    obtain ⟨h1, h2⟩ := List.pairwise_cons.1 h
    have hk' : r[k]? = some p := by simpa using hk
    have := h1 p (List.mem_of_getElem? hk')
    rw [List.countP_cons, countP_at h2 hk', if_pos (by simpa using this)]
theorem ah_count {P F : Int} {o : Int} {l : List Win} (h : Ch P F 0 l) (n : Nat) : ah (own l o) n = (phs o l).countP (fun p => decide (p < (n : Int))) := by
  induction n with
  | zero =>
    symm
    show (phs o l).countP _ = 0
    rw [List.countP_eq_zero]
    intro a ha
    have := phs_bd h a ha
    simp only [decide_eq_true_eq]; omega
  | succ n ih =>
    unfold ah
    rw [ih, show ((n + 1 : Nat) : Int) = (n : Int) + 1 by omega, countP_succ (n : Int) (phs_sorted h)]
    have hm := mem_phs (o := o) (p := (n : Int)) h
    by_cases hn : (n : Int) ∈ phs o l
    · rw [if_pos hn, if_pos (by simp only [own, decide_eq_true_eq]; exact hm.1 hn)]
    · rw [if_neg hn, if_neg (by simp only [own, decide_eq_true_eq]; exact fun h' => hn (hm.2 h'))]
theorem ah_len {P : Int} {F : Nat} {o : Int} {l : List Win} (h : Ch P F 0 l) : ah (own l o) F = (phs o l).length := by
  rw [ah_count h, List.countP_eq_length]
  intro a ha
  have := phs_bd h a ha
  simp only [decide_eq_true_eq]; omega
/-- The n-th tick. -/
def tth (l : List Win) (o : Int) (F n : Nat) : Nat := n / (phs o l).length * F + ((phs o l)[n % (phs o l).length]?.getD 0).toNat
theorem ph_at {P : Int} {F : Nat} {o : Int} {l : List Win} (h : Ch P F 0 l) {k : Nat} (hk : k < (phs o l).length) : ∃ p : Nat, (phs o l)[k]? = some (p : Int) ∧ p < F ∧ own l o p = true ∧ ah (own l o) p = k := by
  obtain ⟨p, hp⟩ : ∃ p, (phs o l)[k]? = some p := ⟨_, List.getElem?_eq_getElem hk⟩
  have hm := List.mem_of_getElem? hp
  have hb := phs_bd h p hm
  obtain ⟨q, rfl⟩ : ∃ q : Nat, p = (q : Int) := ⟨p.toNat, by omega⟩
  refine ⟨q, hp, by omega, ?_, ?_⟩
  · simp only [own, decide_eq_true_eq]; exact (mem_phs h).1 hm
  · rw [ah_count h]; exact countP_at (phs_sorted h) hp
theorem tth_at {P : Int} {F : Nat} {o : Int} {l : List Win} (h : Ch P F 0 l) (hc : 0 < (phs o l).length) (n : Nat) : own l o (tth l o F n % F) = true ∧ bq (own l o) F (tth l o F n) = n ∧ tth l o F n ≤ n / (phs o l).length * F + F := by
  obtain ⟨p, hp, hF, ho, ha⟩ := ph_at h (Nat.mod_lt n hc)
  have hF0 : 0 < F := by omega
  have e : tth l o F n = p + F * (n / (phs o l).length) := by unfold tth; rw [hp, Nat.mul_comm]; show _ + (p : Int).toNat = _; omega
  refine ⟨?_, ?_, ?_⟩
  · rw [e, Nat.add_mul_mod_self_left, Nat.mod_eq_of_lt hF]; exact ho
  · unfold bq
    rw [e, Nat.add_mul_mod_self_left, Nat.mod_eq_of_lt hF, ha, Nat.add_mul_div_left _ _ hF0, Nat.div_eq_of_lt hF, ah_len h, Nat.zero_add]
    exact Nat.div_add_mod' n _
  · rw [e, Nat.mul_comm F]; omega
theorem tth_shift (l : List Win) (o : Int) (F n : Nat) (hc : 0 < (phs o l).length) : tth l o F (n + (phs o l).length) = tth l o F n + F := by
  unfold tth
  rw [Nat.add_div_right _ hc, Nat.add_mod_right, Nat.succ_mul]; omega
/-- The n-th is told by its two properties. -/
theorem tth_uniq {P : Int} {F : Nat} {o : Int} {l : List Win} (h : Ch P F 0 l) (hF : 0 < F) (hc : 0 < (phs o l).length) {t : Nat} (ht : own l o (t % F) = true) : tth l o F (bq (own l o) F t) = t := by
  obtain ⟨h1, h2, _⟩ := tth_at h hc (bq (own l o) F t)
  rcases Nat.lt_trichotomy (tth l o F (bq (own l o) F t)) t with hl | he | hl
  · have := bq_mono (own l o) hF (show tth l o F (bq (own l o) F t) + 1 ≤ t from hl)
    rw [bq_succ _ hF, if_pos h1, h2] at this; omega
  · exact he
  · have := bq_mono (own l o) hF (show t + 1 ≤ tth l o F (bq (own l o) F t) from hl)
    rw [bq_succ _ hF, if_pos ht, h2] at this; omega
/-- The next one: it is its, it is no earlier, and less than a frame later; none between is its. -/
theorem tth_next {P : Int} {F : Nat} {o : Int} {l : List Win} (h : Ch P F 0 l) (hF : 0 < F) (hc : 0 < (phs o l).length) (t : Nat) : t ≤ tth l o F (bq (own l o) F t) ∧ tth l o F (bq (own l o) F t) < t + F ∧ ∀ i, t ≤ i → i < tth l o F (bq (own l o) F t) → own l o (i % F) = false := by
  obtain ⟨h1, h2, _⟩ := tth_at h hc (bq (own l o) F t)
  refine ⟨?_, ?_, ?_⟩
  · refine Nat.le_of_not_lt fun hl => ?_
    have := bq_mono (own l o) hF (show tth l o F (bq (own l o) F t) + 1 ≤ t from hl)
    rw [bq_succ _ hF, if_pos h1, h2] at this; omega
  · refine Nat.lt_of_not_le fun hl => ?_
    have := bq_mono (own l o) hF hl
    rw [bq_shift _ hF, h2, ah_len h] at this; omega
  · intro i hi hi2
    cases he : own l o (i % F) with
    | false => rfl
    | true =>
      have a := bq_mono (own l o) hF hi
      have b := bq_mono (own l o) hF (show i + 1 ≤ tth l o F (bq (own l o) F t) from hi2)
      rw [bq_succ _ hF, if_pos he, h2] at b; omega
end Go.Proofs.YtmfkapbllmfegaaDoor.W13
