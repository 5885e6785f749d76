/- A wheel as plain data: the row of those that wait; what each call leaves, and tells. No memory, no program. -/
namespace Go.Proofs.Ytoomdjkojddpdaa.H14

theorem pw_eq {α : Type} {R : α → α → Prop} {l : List α} (h : l.Pairwise R) {C : α → α → Prop} (hC : ∀ a b, C a b → C b a) (hR : ∀ a b, R a b → ¬ C a b) {a b : α} (ha : a ∈ l) (hb : b ∈ l) (hab : C a b) : a = b := by
  induction h with
  | nil => simp at ha
  | cons h1 _ ih =>
    rcases List.mem_cons.1 ha with rfl | ha' <;> rcases List.mem_cons.1 hb with rfl | hb'
    · rfl
    · exact absurd hab (hR _ _ (h1 _ hb'))
    · exact absurd (hC _ _ hab) (hR _ _ (h1 _ ha'))
    · exact ih ha' hb'
/-- One that waits: its key, until when, how many were set ahead. -/
structure En where
  k : Int
  u : Int
  t : Int
deriving DecidableEq
/-- a stands ahead of b. -/
def bf (a b : En) : Prop := a.u < b.u ∨ (a.u = b.u ∧ a.t < b.t)
/-- A row: in its order, no key twice, all turns below s. -/
structure Wok (l : List En) (s : Int) : Prop where
  srt : l.Pairwise bf
  nd : l.Pairwise fun a b => a.k ≠ b.k
  tn : ∀ e ∈ l, 0 ≤ e.t ∧ e.t < s
  kr : ∀ e ∈ l, -9223372036854775808 ≤ e.k ∧ e.k ≤ 9223372036854775807
  ur : ∀ e ∈ l, 0 ≤ e.u ∧ e.u ≤ 4611686018427387904
def fnd (l : List En) (k : Int) : Option En := l.find? fun e => decide (e.k = k)
def can (l : List En) (k : Int) : List En := l.filter fun e => decide (e.k ≠ k)
/-- Laid in behind all that are no later. -/
def ins (l : List En) (x : En) : List En := l.filter (fun e => decide (e.u ≤ x.u)) ++ x :: l.filter (fun e => decide (x.u < e.u))
def set (l : List En) (s k u : Int) : List En := ins (can l k) ⟨k, u, s⟩
def due (l : List En) (c : Int) : List En := l.filter fun e => decide (e.u ≤ c)
def left (l : List En) (c : Int) : List En := l.filter fun e => decide (c < e.u)
def keys (l : List En) : List Int := l.map En.k
theorem Wok.nil (s : Int) : Wok [] s := ⟨.nil, .nil, by simp, by simp, by simp⟩
theorem Wok.filter {l : List En} {s : Int} (h : Wok l s) (p : En → Bool) : Wok (l.filter p) s :=
  ⟨h.srt.filter _, h.nd.filter _, fun e he => h.tn e (List.mem_filter.1 he).1, fun e he => h.kr e (List.mem_filter.1 he).1, fun e he => h.ur e (List.mem_filter.1 he).1⟩
theorem Wok.can {l : List En} {s : Int} (h : Wok l s) (k : Int) : Wok (can l k) s := h.filter _
theorem Wok.left {l : List En} {s : Int} (h : Wok l s) (c : Int) : Wok (left l c) s := h.filter _
theorem Wok.due {l : List En} {s : Int} (h : Wok l s) (c : Int) : Wok (due l c) s := h.filter _
theorem mem_can {l : List En} {k : Int} {e : En} : e ∈ can l k ↔ e ∈ l ∧ e.k ≠ k := by simp [can]
theorem mem_ins {l : List En} {x e : En} : e ∈ ins l x ↔ e = x ∨ e ∈ l := by
  simp only [ins, List.mem_append, List.mem_cons, List.mem_filter, decide_eq_true_eq]
  constructor
  · rintro (h | h | h)
    · exact .inr h.1
    · exact .inl h
    · exact .inr h.1
  · rintro (h | h)
    · exact .inr (.inl h)
    · rcases Int.lt_or_le x.u e.u with h1 | h1
      · exact .inr (.inr ⟨h, h1⟩)
      · exact .inl ⟨h, h1⟩
theorem mem_set {l : List En} {s k u : Int} {e : En} : e ∈ set l s k u ↔ e = ⟨k, u, s⟩ ∨ (e ∈ l ∧ e.k ≠ k) := by rw [set, mem_ins, mem_can]
theorem Wok.set {l : List En} {s : Int} (h : Wok l s) {k u : Int} (hs : 0 ≤ s) (hk : -9223372036854775808 ≤ k ∧ k ≤ 9223372036854775807) (hu : 0 ≤ u ∧ u ≤ 4611686018427387904) : Wok (set l s k u) (s + 1) := by
  have hc := h.can k
  refine ⟨?_, ?_, fun e he => ?_, fun e he => ?_, fun e he => ?_⟩
  · refine List.pairwise_append.2 ⟨hc.srt.filter _, List.pairwise_cons.2 ⟨fun e he => ?_, hc.srt.filter _⟩, fun a ha b hb => ?_⟩
    · simp only [List.mem_filter, decide_eq_true_eq] at he
      exact .inl he.2
    · simp only [List.mem_filter, decide_eq_true_eq] at ha
      rcases List.mem_cons.1 hb with rfl | hb
      · have h1 := (hc.tn a ha.1).2
        have h2 := ha.2
        rcases Int.lt_or_le a.u u with h3 | h3
        · exact .inl h3
        · exact .inr ⟨Int.le_antisymm h2 h3, h1⟩
      · simp only [List.mem_filter, decide_eq_true_eq] at hb
        exact .inl (Int.lt_of_le_of_lt ha.2 hb.2)
  · refine List.pairwise_append.2 ⟨hc.nd.filter _, List.pairwise_cons.2 ⟨fun e he => ?_, hc.nd.filter _⟩, fun a ha b hb => ?_⟩
    · exact fun e' => (mem_can.1 (List.mem_filter.1 he).1).2 e'.symm
    · simp only [List.mem_filter, decide_eq_true_eq] at ha
      rcases List.mem_cons.1 hb with rfl | hb
      · exact (mem_can.1 ha.1).2
      · simp only [List.mem_filter, decide_eq_true_eq] at hb
        intro e
        have hab : a = b := by
          exact pw_eq hc.nd (C := fun a b => a.k = b.k) (fun _ _ h => h.symm) (fun _ _ h => h) ha.1 hb.1 e
        rw [hab] at ha
        omega
  · rcases mem_set.1 he with rfl | ⟨he, _⟩
    · exact ⟨hs, by show s < s + 1; omega⟩
    · have := h.tn e he; omega
  · rcases mem_set.1 he with rfl | ⟨he, _⟩
    · exact hk
    · exact h.kr e he
  · rcases mem_set.1 he with rfl | ⟨he, _⟩
    · exact hu
    · exact h.ur e he
theorem Wok.one {l : List En} {s : Int} (h : Wok l s) {a b : En} (ha : a ∈ l) (hb : b ∈ l) (e : a.k = b.k) : a = b :=
  pw_eq h.nd (C := fun a b => a.k = b.k) (fun _ _ h => h.symm) (fun _ _ h => h) ha hb e
theorem fnd_some {l : List En} {k : Int} {e : En} (h : fnd l k = some e) : e ∈ l ∧ e.k = k := by
  have h1 := List.mem_of_find?_eq_some h
  have h2 := List.find?_some h
  exact ⟨h1, by simpa using h2⟩
theorem fnd_none {l : List En} {k : Int} (h : fnd l k = none) : ∀ e ∈ l, e.k ≠ k := by
  intro e he
  have := List.find?_eq_none.1 h e he
  simpa using this
theorem Wok.fnd {l : List En} {s : Int} (h : Wok l s) {e : En} (he : e ∈ l) : fnd l e.k = some e := by
  cases hf : H14.fnd l e.k with
  | none => exact absurd rfl (fnd_none hf e he)
  | some x => obtain ⟨h1, h2⟩ := fnd_some hf; rw [h.one h1 he h2]
theorem fnd_iff {l : List En} {s : Int} (h : Wok l s) {k : Int} {e : En} : H14.fnd l k = some e ↔ e ∈ l ∧ e.k = k :=
  ⟨fnd_some, fun ⟨h1, h2⟩ => by rw [← h2]; exact h.fnd h1⟩
theorem fnd_can_same (l : List En) (k : Int) : fnd (can l k) k = none := by
  cases hf : fnd (can l k) k with
  | none => rfl
  | some e => obtain ⟨h1, h2⟩ := fnd_some hf; exact absurd h2 (mem_can.1 h1).2
theorem fnd_can_other (l : List En) {k j : Int} (h : j ≠ k) : fnd (can l k) j = fnd l j := by
  unfold fnd can
  rw [List.find?_filter]
  congr 1
  funext e
  by_cases hj : e.k = j
  · have hjk : e.k ≠ k := by rw [hj]; exact h
    simp [hj, h]
  · simp [hj]
theorem fnd_set_same {l : List En} {s : Int} (h : Wok l s) {k u : Int} (hs : 0 ≤ s) (hk : -9223372036854775808 ≤ k ∧ k ≤ 9223372036854775807) (hu : 0 ≤ u ∧ u ≤ 4611686018427387904) : fnd (set l s k u) k = some ⟨k, u, s⟩ :=
  (fnd_iff (h.set hs hk hu)).2 ⟨mem_set.2 (.inl rfl), rfl⟩
theorem fnd_set_other {l : List En} {s : Int} (h : Wok l s) {k u j : Int} (hs : 0 ≤ s) (hk : -9223372036854775808 ≤ k ∧ k ≤ 9223372036854775807) (hu : 0 ≤ u ∧ u ≤ 4611686018427387904) (hj : j ≠ k) : fnd (set l s k u) j = fnd l j := by
  have h' := h.set (k := k) (u := u) hs hk hu
  cases hf : fnd l j with
  | some e =>
    obtain ⟨h1, h2⟩ := fnd_some hf
    exact (fnd_iff h').2 ⟨mem_set.2 (.inr ⟨h1, by rw [h2]; exact hj⟩), h2⟩
  | none =>
    cases hg : fnd (set l s k u) j with
    | none => rfl
    | some e =>
      obtain ⟨h1, h2⟩ := fnd_some hg
      rcases mem_set.1 h1 with rfl | ⟨h3, _⟩
      · exact absurd h2.symm hj
      · exact absurd h2 (fnd_none hf e h3)
/-- Whether a key waits. -/
def has (l : List En) (k : Int) : Bool := (fnd l k).isSome
/-- Until when a key waits. -/
def unt (l : List En) (k : Int) : Int := match fnd l k with | some e => e.u | none => 0
def trn (l : List En) (k : Int) : Int := match fnd l k with | some e => e.t | none => 0
theorem Wok.keys_nodup {l : List En} {s : Int} (h : Wok l s) : (keys l).Nodup := List.pairwise_map.2 (h.nd.imp fun h => h)
theorem mem_keys {l : List En} {s : Int} (h : Wok l s) {k : Int} : k ∈ keys l ↔ has l k = true := by
  unfold has keys
  rw [List.mem_map]
  constructor
  · rintro ⟨e, he, rfl⟩; rw [h.fnd he]; rfl
  · intro h1
    obtain ⟨e, he⟩ := Option.isSome_iff_exists.1 h1
    obtain ⟨h2, h3⟩ := fnd_some he
    exact ⟨e, h2, h3⟩
/-! ### The order that the row is sorted by -/
/-- Below 0: a's key stands ahead of b's. -/
def cmp3 (x y : Int) : Int := if x < y then -1 else if y < x then 1 else 0
def cmpE (u t u' t' : Int) : Int := if cmp3 u u' ≠ 0 then cmp3 u u' else cmp3 t t'
def cf (l : List En) (a b : Int) : Int := cmpE (unt l a) (trn l a) (unt l b) (trn l b)
theorem cf_lt {l : List En} {a b : Int} : cf l a b < 0 ↔ (unt l a < unt l b ∨ (unt l a = unt l b ∧ trn l a < trn l b)) := by
  unfold cf cmpE cmp3
  rcases Int.lt_trichotomy (unt l a) (unt l b) with h1 | h1 | h1
  · have h2 : unt l a ≠ unt l b := by omega
    simp [h1]
  · rcases Int.lt_trichotomy (trn l a) (trn l b) with h3 | h3 | h3
    · simp [h1, h3]
    · simp [h1, h3]
    · have h4 : ¬ trn l a < trn l b := by omega
      simp [h1, h3, h4]
  · have h4 : ¬ unt l a < unt l b := by omega
    have h5 : unt l a ≠ unt l b := by omega
    simp [h1, h4, h5]
theorem due_left (l : List En) {s : Int} (h : Wok l s) (c : Int) : l = due l c ++ left l c := by
  unfold due left
  have : ∀ l : List En, l.Pairwise bf → l = l.filter (fun e => decide (e.u ≤ c)) ++ l.filter (fun e => decide (c < e.u)) := by
    intro l
    induction l with
    | nil => intro; rfl
    | cons x r ih =>
      intro hp
      obtain ⟨h1, h2⟩ := List.pairwise_cons.1 hp
      by_cases hx : x.u ≤ c
      · have hx' : ¬ c < x.u := by omega
        rw [List.filter_cons_of_pos (by simpa using hx), List.filter_cons_of_neg (by simpa using hx'), List.cons_append, ← ih h2]
      · have hx' : c < x.u := by omega
        have he : r.filter (fun e => decide (e.u ≤ c)) = [] := by
          rw [List.filter_eq_nil_iff]
          intro e he
          have := h1 e he
          unfold bf at this
          simp only [decide_eq_true_eq]
          omega
        rw [List.filter_cons_of_neg (by simpa using hx), List.filter_cons_of_pos (by simpa using hx'), he, List.nil_append]
        congr 1
        have h3 := ih h2
        rw [he, List.nil_append] at h3
        exact h3
  exact this l h.srt
/-- THE ROW's KEYS ARE THE ONE LIST OF THEM THAT IS SORTED. -/
theorem keys_unique {l : List En} {s : Int} (h : Wok l s) {ss : List Int} (hp : ss.Perm (keys l)) (hs : ss.Pairwise fun a b => ¬ cf l b a < 0) : ss = keys l := by
  have h1 : (keys l).Pairwise fun a b => ¬ cf l b a < 0 := by
    unfold keys
    refine List.pairwise_map.2 (h.srt.imp_of_mem ?_)
    rintro a b ha hb hab
    rw [cf_lt]
    unfold unt trn
    rw [h.fnd ha, h.fnd hb]
    unfold bf at hab
    simp only
    omega
  refine List.Perm.eq_of_pairwise (le := fun a b => ¬ cf l b a < 0) (fun a b ha hb h2 h3 => ?_) hs h1 hp
  have ha' := hp.mem_iff.1 ha
  obtain ⟨x, hx, rfl⟩ := List.mem_map.1 ha'
  obtain ⟨y, hy, rfl⟩ := List.mem_map.1 hb
  rw [cf_lt] at h2 h3
  unfold unt trn at h2 h3
  rw [h.fnd hx, h.fnd hy] at h2 h3
  simp only at h2 h3
  have hu : x.u = y.u := by omega
  have ht : x.t = y.t := by omega
  have hxy : x = y := by
    refine pw_eq h.srt (C := fun a b => a.u = b.u ∧ a.t = b.t) (fun _ _ h => ⟨h.1.symm, h.2.symm⟩) (fun a b hab e' => ?_) hx hy ⟨hu, ht⟩
    unfold bf at hab
    omega
  rw [hxy]
theorem cut_keys {l : List En} {s : Int} (h : Wok l s) (c : Int) : (keys l).filter (fun k => decide (unt l k ≤ c)) = keys (due l c) := by
  unfold keys due
  rw [List.filter_map]
  congr 1
  refine List.filter_congr fun e he => ?_
  have h1 : unt l e.k = e.u := by unfold unt; rw [h.fnd he]
  show decide (unt l e.k ≤ c) = _
  rw [h1]
/-- All keys of some struck, one after the other. -/
def cans (l : List En) (ks : List Int) : List En := ks.foldl can l
theorem mem_cans {ks : List Int} : ∀ {l : List En} {e : En}, e ∈ cans l ks ↔ e ∈ l ∧ e.k ∉ ks := by
  induction ks with
  | nil => intro l e; simp [cans]
  | cons k r ih => intro l e; show e ∈ cans (can l k) r ↔ _; rw [ih, mem_can]; simp [and_assoc]
theorem cans_filter (l : List En) (ks : List Int) : cans l ks = l.filter fun e => decide (e.k ∉ ks) := by
  induction ks generalizing l with
  | nil => exact (List.filter_eq_self.2 fun e _ => by simp).symm
  | cons k r ih =>
    show cans (can l k) r = _
    rw [ih, can, List.filter_filter]
    refine List.filter_congr fun e _ => ?_
    by_cases h1 : e.k = k <;> by_cases h2 : e.k ∈ r <;> simp [h1, h2]
theorem cans_due {l : List En} {s : Int} (h : Wok l s) (c : Int) : cans l (keys (due l c)) = left l c := by
  rw [cans_filter]
  unfold left
  refine List.filter_congr fun e he => ?_
  have : e.k ∈ keys (due l c) ↔ e.u ≤ c := by
    unfold keys due
    rw [List.mem_map]
    constructor
    · rintro ⟨x, hx, hxe⟩
      simp only [List.mem_filter, decide_eq_true_eq] at hx
      rw [← h.one hx.1 he hxe]; exact hx.2
    · intro hc; exact ⟨e, by simpa [List.mem_filter] using ⟨he, hc⟩, rfl⟩
  by_cases hc : e.u ≤ c
  · have h2 : ¬ c < e.u := by omega
    simp [this, hc]
  · have h2 : c < e.u := by omega
    simp [this, hc, h2]
theorem Wok.cans {l : List En} {s : Int} (h : Wok l s) (ks : List Int) : Wok (cans l ks) s := by rw [cans_filter]; exact h.filter _
theorem len_keys (l : List En) : (keys l).length = l.length := by simp [keys]
end Go.Proofs.Ytoomdjkojddpdaa.H14
