/- A register of four slots as plain data: what each access does, and why a read tells one whole message, none too old. No memory, no program. -/
namespace Go.Proofs.YtppmfmgmlicefabDoor.Cell
def nth (l : List Int) (k : Nat) : Int := l.getD k 0
def okV (v : Int) : Bool := decide (0 ≤ v ∧ v ≤ 2147483647)
theorem nth_set (l : List Int) (i j : Nat) (v : Int) : nth (l.set i v) j = if i = j ∧ j < l.length then v else nth l j := by
  unfold nth
  simp only [List.getD_eq_getElem?_getD, List.getElem?_set]
  by_cases h : i = j
  · subst h
    by_cases h2 : i < l.length
    · simp [h2]
    · simp [h2]
  · simp [h]
theorem nth_set_ne (l : List Int) {i j : Nat} (v : Int) (h : i ≠ j) : nth (l.set i v) j = nth l j := by rw [nth_set, if_neg (fun hh => h hh.1)]
theorem nth_set_eq (l : List Int) {i : Nat} (v : Int) (h : i < l.length) : nth (l.set i v) i = v := by rw [nth_set, if_pos ⟨rfl, h⟩]
theorem nth_rep (n : Nat) (v : Int) (i : Nat) (h : i < n) : nth (List.replicate n v) i = v := by simp [nth, h]
theorem nth_oob (l : List Int) (i : Nat) (h : l.length ≤ i) : nth l i = 0 := by simp [nth, h]
theorem okV_of {v : Int} (h : okV v = true) : 0 ≤ v ∧ v ≤ 2147483647 := of_decide_eq_true h
theorem okV_mk {v : Int} (h0 : 0 ≤ v) (h1 : v ≤ 2147483647) : okV v = true := decide_eq_true ⟨h0, h1⟩
end Go.Proofs.YtppmfmgmlicefabDoor.Cell
namespace Go.Proofs.YtppmfmgmlicefabDoor.F4
open Go.Proofs.YtppmfmgmlicefabDoor.Cell

/-- A write under way: how many accesses it made, its words, its pair, its place. -/
structure Wr where
  k : Nat
  l : List Int
  p : Nat
  q : Nat
/-- A read under way: how many accesses it made, its pair, its place, its words. -/
structure Rr where
  k : Nat
  p : Nat
  q : Nat
  t : List Int
structure St where
  W : Nat
  m : List Int
  wr : Option Wr
  rd : Option Rr
def pl (W p q : Nat) : Nat := 4 + (2 * p + q) * W
/-- The writer's next access. -/
def wNext (s : St) (x : Wr) : St :=
  if x.k = 0 then { s with wr := some { x with k := 1, p := (1 - nth s.m 1).toNat } }
  else if x.k = 1 then { s with wr := some { x with k := 2, q := (1 - nth s.m (2 + x.p)).toNat } }
  else if x.k < 2 + s.W then { s with m := s.m.set (pl s.W x.p x.q + (x.k - 2)) (nth x.l (x.k - 2)), wr := some { x with k := x.k + 1 } }
  else if x.k = 2 + s.W then { s with m := s.m.set (2 + x.p) x.q, wr := some { x with k := x.k + 1 } }
  else { s with m := s.m.set 0 x.p, wr := none }
/-- The reader's words behind its next access. -/
def rTold (s : St) (y : Rr) : List Int := y.t.set (y.k - 3) (nth s.m (pl s.W y.p y.q + (y.k - 3)))
/-- The reader's next access. -/
def rNext (s : St) (y : Rr) : St :=
  if y.k = 0 then { s with rd := some { y with k := 1, p := (nth s.m 0).toNat } }
  else if y.k = 1 then { s with m := s.m.set 1 y.p, rd := some { y with k := 2 } }
  else if y.k = 2 then { s with rd := some { y with k := 3, q := (nth s.m (2 + y.p)).toNat } }
  else if y.k < 2 + s.W then { s with rd := some { y with k := y.k + 1, t := rTold s y } }
  else { s with rd := none }

def bit (v : Int) : Prop := v = 0 ∨ v = 1
structure OkW (s : St) (x : Wr) : Prop where
  k : x.k ≤ 3 + s.W
  len : x.l.length = s.W
  ok : ∀ i, okV (nth x.l i) = true
  p : x.p ≤ 1
  q : x.q ≤ 1
  c : 2 ≤ x.k → x.k ≤ 2 + s.W → (x.q : Int) = 1 - nth s.m (2 + x.p)
structure OkR (s : St) (y : Rr) : Prop where
  k : y.k ≤ 2 + s.W
  len : y.t.length = s.W
  p : y.p ≤ 1
  q : y.q ≤ 1
  c : 2 ≤ y.k → nth s.m 1 = y.p
structure Ok (s : St) : Prop where
  w1 : 1 ≤ s.W
  w6 : s.W ≤ 6
  len : s.m.length = 4 + 4 * s.W
  bits : ∀ i, i < 4 → bit (nth s.m i)
  wr : ∀ x, s.wr = some x → OkW s x
  rd : ∀ y, s.rd = some y → OkR s y
theorem bit_nat {v : Int} (h : bit v) : ((v.toNat : Nat) : Int) = v ∧ v.toNat ≤ 1 := by rcases h with h | h <;> subst h <;> decide
theorem bit_neg {v : Int} (h : bit v) : (((1 - v).toNat : Nat) : Int) = 1 - v ∧ (1 - v).toNat ≤ 1 := by rcases h with h | h <;> subst h <;> decide
theorem bit_of {p : Nat} (h : p ≤ 1) : bit (p : Int) := by unfold bit; omega
theorem pl_lt {W p q i : Nat} (hp : p ≤ 1) (hq : q ≤ 1) (hi : i < W) : 4 ≤ pl W p q + i ∧ pl W p q + i < 4 + 4 * W := by
  have : p = 0 ∨ p = 1 := by omega
  have : q = 0 ∨ q = 1 := by omega
  rcases ‹p = 0 ∨ p = 1› with rfl | rfl <;> rcases ‹q = 0 ∨ q = 1› with rfl | rfl <;> simp [pl] <;> omega
theorem pl_inj {W p q i p' q' i' : Nat} (hp : p ≤ 1) (hq : q ≤ 1) (hi : i < W) (hp' : p' ≤ 1) (hq' : q' ≤ 1) (hi' : i' < W) (h : pl W p q + i = pl W p' q' + i') : p = p' ∧ q = q' ∧ i = i' := by
  have a1 : p = 0 ∨ p = 1 := by omega
  have a2 : q = 0 ∨ q = 1 := by omega
  have a3 : p' = 0 ∨ p' = 1 := by omega
  have a4 : q' = 0 ∨ q' = 1 := by omega
  rcases a1 with rfl | rfl <;> rcases a2 with rfl | rfl <;> rcases a3 with rfl | rfl <;> rcases a4 with rfl | rfl <;> simp [pl] at h ⊢ <;> omega

/-! ### What stays -/
theorem ok_w {s : St} (h : Ok s) {x : Wr} (hx : s.wr = some x) : Ok (wNext s x) := by
  have hw := h.wr x hx
  obtain ⟨w1, w6, len, bits, hwr, hrd⟩ := h
  unfold wNext
  split
  · rename_i k0
    have hb := bit_neg (bits 1 (by omega))
    exact ⟨w1, w6, len, bits, fun x' e => by
      obtain rfl := Option.some.inj e
      exact ⟨by show 1 ≤ 3 + s.W; omega, hw.len, hw.ok, hb.2, hw.q, fun h2 => absurd h2 (by show ¬ 2 ≤ 1; omega)⟩, fun y e => ⟨(hrd y e).k, (hrd y e).len, (hrd y e).p, (hrd y e).q, (hrd y e).c⟩⟩
  split
  · rename_i k0 k1
    have hb := bit_neg (bits (2 + x.p) (by have := hw.p; omega))
    exact ⟨w1, w6, len, bits, fun x' e => by
      obtain rfl := Option.some.inj e
      exact ⟨by show 2 ≤ 3 + s.W; omega, hw.len, hw.ok, hw.p, hb.2, fun _ _ => hb.1⟩, fun y e => ⟨(hrd y e).k, (hrd y e).len, (hrd y e).p, (hrd y e).q, (hrd y e).c⟩⟩
  split
  · rename_i k0 k1 k2
    have hp := pl_lt (W := s.W) (i := x.k - 2) hw.p hw.q (by omega)
    have hn : ∀ j, j < 4 → nth (s.m.set (pl s.W x.p x.q + (x.k - 2)) (nth x.l (x.k - 2))) j = nth s.m j := fun j hj => nth_set_ne _ _ (by omega)
    exact ⟨w1, w6, by rw [List.length_set]; exact len, fun i hi => by rw [hn i hi]; exact bits i hi, fun x' e => by
      obtain rfl := Option.some.inj e
      exact ⟨by show x.k + 1 ≤ 3 + s.W; omega, hw.len, hw.ok, hw.p, hw.q, fun _ _ => by
        show (x.q : Int) = 1 - nth (s.m.set _ _) (2 + x.p)
        rw [hn _ (by have := hw.p; omega)]; exact hw.c (by omega) (by omega)⟩, fun y e => ⟨(hrd y e).k, (hrd y e).len, (hrd y e).p, (hrd y e).q, fun h2 => by
        show nth (s.m.set _ _) 1 = _
        rw [hn 1 (by omega)]; exact (hrd y e).c h2⟩⟩
  split
  · rename_i k0 k1 k2 k3
    have hp := hw.p
    exact ⟨w1, w6, by rw [List.length_set]; exact len, fun i hi => by
        show bit (nth (s.m.set _ _) i)
        rw [nth_set]; split
        · exact bit_of hw.q
        · exact bits i hi, fun x' e => by
      obtain rfl := Option.some.inj e
      exact ⟨by show x.k + 1 ≤ 3 + s.W; omega, hw.len, hw.ok, hw.p, hw.q, fun _ h2 => absurd h2 (by show ¬ x.k + 1 ≤ 2 + s.W; omega)⟩, fun y e => ⟨(hrd y e).k, (hrd y e).len, (hrd y e).p, (hrd y e).q, fun h2 => by
        show nth (s.m.set _ _) 1 = _
        rw [nth_set_ne _ _ (by omega)]; exact (hrd y e).c h2⟩⟩
  · exact ⟨w1, w6, by rw [List.length_set]; exact len, fun i hi => by
        show bit (nth (s.m.set _ _) i)
        rw [nth_set]; split
        · exact bit_of hw.p
        · exact bits i hi, fun x' e => (by cases e), fun y e => ⟨(hrd y e).k, (hrd y e).len, (hrd y e).p, (hrd y e).q, fun h2 => by
        show nth (s.m.set _ _) 1 = _
        rw [nth_set_ne _ _ (by omega)]; exact (hrd y e).c h2⟩⟩
theorem rTold_length (s : St) (y : Rr) : (rTold s y).length = y.t.length := by simp [rTold]
theorem ok_r {s : St} (h : Ok s) {y : Rr} (hy : s.rd = some y) : Ok (rNext s y) := by
  have hr := h.rd y hy
  obtain ⟨w1, w6, len, bits, hwr, hrd⟩ := h
  unfold rNext
  split
  · rename_i k0
    have hb := bit_nat (bits 0 (by omega))
    exact ⟨w1, w6, len, bits, fun x e => ⟨(hwr x e).k, (hwr x e).len, (hwr x e).ok, (hwr x e).p, (hwr x e).q, (hwr x e).c⟩, fun y' e => by
      obtain rfl := Option.some.inj e
      exact ⟨by show 1 ≤ 2 + s.W; omega, hr.len, hb.2, hr.q, fun h2 => absurd h2 (by show ¬ 2 ≤ 1; omega)⟩⟩
  split
  · rename_i k0 k1
    have hp := hr.p
    exact ⟨w1, w6, by rw [List.length_set]; exact len, fun i hi => by
        show bit (nth (s.m.set _ _) i)
        rw [nth_set]; split
        · exact bit_of hr.p
        · exact bits i hi, fun x e => ⟨(hwr x e).k, (hwr x e).len, (hwr x e).ok, (hwr x e).p, (hwr x e).q, fun h1 h2 => by
        show (x.q : Int) = 1 - nth (s.m.set _ _) (2 + x.p)
        rw [nth_set_ne _ _ (by omega)]; exact (hwr x e).c h1 h2⟩, fun y' e => by
      obtain rfl := Option.some.inj e
      exact ⟨by show 2 ≤ 2 + s.W; omega, hr.len, hr.p, hr.q, fun _ => by
        show nth (s.m.set 1 _) 1 = _
        exact nth_set_eq _ _ (by omega)⟩⟩
  split
  · rename_i k0 k1 k2
    have hb := bit_nat (bits (2 + y.p) (by have := hr.p; omega))
    exact ⟨w1, w6, len, bits, fun x e => ⟨(hwr x e).k, (hwr x e).len, (hwr x e).ok, (hwr x e).p, (hwr x e).q, (hwr x e).c⟩, fun y' e => by
      obtain rfl := Option.some.inj e
      exact ⟨by show 3 ≤ 2 + s.W; omega, hr.len, hr.p, hb.2, fun _ => hr.c (by omega)⟩⟩
  split
  · rename_i k0 k1 k2 k3
    exact ⟨w1, w6, len, bits, fun x e => ⟨(hwr x e).k, (hwr x e).len, (hwr x e).ok, (hwr x e).p, (hwr x e).q, (hwr x e).c⟩, fun y' e => by
      obtain rfl := Option.some.inj e
      exact ⟨by show y.k + 1 ≤ 2 + s.W; omega, (rTold_length s y).trans hr.len, hr.p, hr.q, fun _ => hr.c (by omega)⟩⟩
  · exact ⟨w1, w6, len, bits, fun x e => ⟨(hwr x e).k, (hwr x e).len, (hwr x e).ok, (hwr x e).p, (hwr x e).q, (hwr x e).c⟩, fun y' e => (by cases e)⟩
theorem ok_wdrop {s : St} (h : Ok s) : Ok { s with wr := none } :=
  ⟨h.w1, h.w6, h.len, h.bits, fun x e => (by cases e), fun y e => ⟨(h.rd y e).k, (h.rd y e).len, (h.rd y e).p, (h.rd y e).q, (h.rd y e).c⟩⟩
theorem ok_rdrop {s : St} (h : Ok s) : Ok { s with rd := none } :=
  ⟨h.w1, h.w6, h.len, h.bits, fun x e => ⟨(h.wr x e).k, (h.wr x e).len, (h.wr x e).ok, (h.wr x e).p, (h.wr x e).q, (h.wr x e).c⟩, fun y e => (by cases e)⟩
theorem ok_write {s : St} (h : Ok s) {l : List Int} (hl : l.length = s.W) (hv : ∀ i, okV (nth l i) = true) : Ok { s with wr := some ⟨0, l, 0, 0⟩ } :=
  ⟨h.w1, h.w6, h.len, h.bits, fun x e => by
    obtain rfl := Option.some.inj e
    exact ⟨Nat.zero_le _, hl, hv, Nat.zero_le _, Nat.zero_le _, fun h2 => absurd h2 (by show ¬ 2 ≤ 0; omega)⟩, fun y e => ⟨(h.rd y e).k, (h.rd y e).len, (h.rd y e).p, (h.rd y e).q, (h.rd y e).c⟩⟩
theorem ok_read {s : St} (h : Ok s) : Ok { s with rd := some ⟨0, 0, 0, List.replicate s.W 0⟩ } :=
  ⟨h.w1, h.w6, h.len, h.bits, fun x e => ⟨(h.wr x e).k, (h.wr x e).len, (h.wr x e).ok, (h.wr x e).p, (h.wr x e).q, (h.wr x e).c⟩, fun y e => by
    obtain rfl := Option.some.inj e
    exact ⟨Nat.zero_le _, by simp, Nat.zero_le _, Nat.zero_le _, fun h2 => absurd h2 (by show ¬ 2 ≤ 0; omega)⟩⟩
def s0 (W : Nat) : St := ⟨W, List.replicate (4 + 4 * W) 0, none, none⟩
theorem ok_s0 {W : Nat} (h1 : 1 ≤ W) (h6 : W ≤ 6) : Ok (s0 W) :=
  ⟨h1, h6, by simp [s0], fun i hi => .inl (nth_rep _ _ _ (by omega)), fun x e => (by cases e), fun y e => (by cases e)⟩

/-! ### Whole messages -/
/-- The message at (pair, place) is v, in all its words. -/
def whole (s : St) (p q : Nat) (v : Int) : Prop := ∀ i, i < s.W → nth s.m (pl s.W p q + i) = v
def slot (s : St) (p : Nat) : Nat := (nth s.m (2 + p)).toNat
structure IW (s : St) (b : Int) (g : Nat → Int) (x : Wr) : Prop where
  hl : x.l = List.replicate s.W b
  ha : 1 ≤ x.k → (x.p : Int) = 1 - nth s.m 1 ∨ (x.p : Int) = nth s.m 0
  hd : 2 ≤ x.k → ∀ i, i < x.k - 2 → i < s.W → nth s.m (pl s.W x.p x.q + i) = b
  hz : x.k = 3 + s.W → g x.p = b
/-- What a read that has its place is to tell. -/
structure IV (s : St) (b lo la : Int) (g : Nat → Int) (y : Rr) (v : Int) : Prop where
  whole : whole s y.p y.q v
  lo : lo ≤ v
  b : v ≤ b
  la : la ≤ v
  g : v ≤ g (nth s.m 0).toNat
  t : ∀ i, i < y.k - 3 → nth y.t i = v
  apart : ∀ x, s.wr = some x → 1 ≤ x.k → x.k ≤ 2 + s.W → x.p = y.p → y.q = slot s y.p
structure IR (s : St) (b o lo la : Int) (g : Nat → Int) (y : Rr) : Prop where
  hlo : lo ≤ o
  hb : y.k = 1 → nth s.m 0 = y.p ∨ nth s.m 1 = y.p
  hc : 1 ≤ y.k → y.k ≤ 2 → lo ≤ g y.p ∧ la ≤ g y.p ∧ g y.p ≤ g (nth s.m 0).toNat
  hv : 3 ≤ y.k → ∃ v, IV s b lo la g y v
structure Inv (s : St) (b o lo la : Int) (g : Nat → Int) : Prop where
  ok : Ok s
  hg : ∀ p, p ≤ 1 → whole s p (slot s p) (g p) ∧ g p ≤ b
  ho : o ≤ g (nth s.m 0).toNat
  hla : la ≤ g (nth s.m 0).toNat
  hob : o ≤ b
  hwr : ∀ x, s.wr = some x → IW s b g x
  hrd : ∀ y, s.rd = some y → IR s b o lo la g y
/-- The same cells, the same message. -/
theorem whole_eq {s s' : St} (hW : s'.W = s.W) {p q : Nat} {v : Int} (h : whole s p q v) (hm : ∀ i, i < s.W → nth s'.m (pl s.W p q + i) = nth s.m (pl s.W p q + i)) : whole s' p q v := fun i hi => by
  rw [hW] at hi ⊢; rw [hm i hi]; exact h i hi
theorem slot_le {s : St} (h : Ok s) {p : Nat} (hp : p ≤ 1) : slot s p ≤ 1 := (bit_nat (h.bits (2 + p) (by omega))).2
theorem lat_le {s : St} (h : Ok s) : (nth s.m 0).toNat ≤ 1 := (bit_nat (h.bits 0 (by omega))).2
/-- A write begins. -/
theorem inv_write {s : St} {b o lo la : Int} {g : Nat → Int} (h : Inv s b o lo la g) (hb : okV (b + 1) = true) (hw : s.wr = none) : Inv { s with wr := some ⟨0, List.replicate s.W (b + 1), 0, 0⟩ } (b + 1) o lo la g :=
  ⟨ok_write h.ok (by simp) (fun i => by
      by_cases hi : i < s.W
      · rw [nth_rep _ _ _ hi]; exact hb
      · rw [nth_oob _ _ (by simp; omega)]; rfl),
   fun p hp => ⟨(h.hg p hp).1, by have := (h.hg p hp).2; omega⟩, h.ho, h.hla, by have := h.hob; omega,
   fun x e => by
    obtain rfl := Option.some.inj e
    exact ⟨rfl, fun h1 => absurd h1 (by show ¬ 1 ≤ 0; omega), fun h1 => absurd h1 (by show ¬ 2 ≤ 0; omega), fun h1 => absurd h1 (by show ¬ 0 = 3 + s.W; omega)⟩,
   fun y e => by
    obtain ⟨r1, r2, r3, r4⟩ := h.hrd y e
    exact ⟨r1, r2, r3, fun hk => by
      obtain ⟨v, a1, a2, a3, a4, a5, a6, a7⟩ := r4 hk
      exact ⟨v, a1, a2, by omega, a4, a5, a6, fun x e h1 => by
        obtain rfl := Option.some.inj e
        exact absurd h1 (by show ¬ 1 ≤ 0; omega)⟩⟩⟩
theorem inv_wdrop {s : St} {b o lo la : Int} {g : Nat → Int} (h : Inv s b o lo la g) : Inv { s with wr := none } b o lo la g :=
  ⟨ok_wdrop h.ok, h.hg, h.ho, h.hla, h.hob, fun x e => (by cases e), fun y e => by
    obtain ⟨r1, r2, r3, r4⟩ := h.hrd y e
    exact ⟨r1, r2, r3, fun hk => by
      obtain ⟨v, a1, a2, a3, a4, a5, a6, a7⟩ := r4 hk
      exact ⟨v, a1, a2, a3, a4, a5, a6, fun x e => (by cases e)⟩⟩⟩
/-- A read begins. -/
theorem inv_read {s : St} {b o lo la : Int} {g : Nat → Int} (h : Inv s b o lo la g) : Inv { s with rd := some ⟨0, 0, 0, List.replicate s.W 0⟩ } b o o la g :=
  ⟨ok_read h.ok, h.hg, h.ho, h.hla, h.hob, fun x e => ⟨(h.hwr x e).hl, (h.hwr x e).ha, (h.hwr x e).hd, (h.hwr x e).hz⟩, fun y e => by
    obtain rfl := Option.some.inj e
    exact ⟨Int.le_refl _, fun h1 => absurd h1 (by show ¬ 0 = 1; omega), fun h1 => absurd h1 (by show ¬ 1 ≤ 0; omega), fun h1 => absurd h1 (by show ¬ 3 ≤ 0; omega)⟩⟩
theorem inv_rdrop {s : St} {b o lo la lo' : Int} {g : Nat → Int} (h : Inv s b o lo la g) : Inv { s with rd := none } b o lo' la g :=
  ⟨ok_rdrop h.ok, h.hg, h.ho, h.hla, h.hob, fun x e => ⟨(h.hwr x e).hl, (h.hwr x e).ha, (h.hwr x e).hd, (h.hwr x e).hz⟩, fun y e => (by cases e)⟩
/-- The writer's accesses but the last one. -/
theorem inv_wstep {s : St} {b o lo la : Int} {g : Nat → Int} (h : Inv s b o lo la g) {x : Wr} (hx : s.wr = some x) (hk : x.k ≤ 2 + s.W) : ∃ g', Inv (wNext s x) b o lo la g' := by
  have hok := h.ok
  have hn := ok_w hok hx
  have hw := hok.wr x hx
  have iw := h.hwr x hx
  have w1 := hok.w1
  unfold wNext at hn ⊢
  by_cases k0 : x.k = 0
  · rw [if_pos k0] at hn ⊢
    have hb := bit_neg (hok.bits 1 (by omega))
    refine ⟨g, hn, h.hg, h.ho, h.hla, h.hob, fun x' e => ?_, fun y e => ?_⟩
    · obtain rfl := Option.some.inj e
      exact ⟨iw.hl, fun _ => .inl hb.1, fun h2 => absurd h2 (by show ¬ 2 ≤ 1; omega), fun h2 => absurd h2 (by show ¬ 1 = 3 + s.W; omega)⟩
    · obtain ⟨r1, r2, r3, r4⟩ := h.hrd y e
      have hr := hok.rd y e
      refine ⟨r1, r2, r3, fun hk => ?_⟩
      obtain ⟨v, a1, a2, a3, a4, a5, a6, a7⟩ := r4 hk
      refine ⟨v, a1, a2, a3, a4, a5, a6, fun x' e' _ _ hp => ?_⟩
      obtain rfl := Option.some.inj e'
      exfalso
      have h1 := hr.c (by omega)
      have h2 := hb.1
      have hp' : (1 - nth s.m 1).toNat = y.p := hp
      rw [hp', h1] at h2
      omega
  rw [if_neg k0] at hn ⊢
  by_cases k1 : x.k = 1
  · rw [if_pos k1] at hn ⊢
    refine ⟨g, hn, h.hg, h.ho, h.hla, h.hob, fun x' e => ?_, fun y e => ?_⟩
    · obtain rfl := Option.some.inj e
      exact ⟨iw.hl, fun _ => iw.ha (by omega), fun _ i hi => absurd hi (by show ¬ i < 2 - 2; omega), fun h2 => absurd h2 (by show ¬ 2 = 3 + s.W; omega)⟩
    · obtain ⟨r1, r2, r3, r4⟩ := h.hrd y e
      refine ⟨r1, r2, r3, fun hk => ?_⟩
      obtain ⟨v, a1, a2, a3, a4, a5, a6, a7⟩ := r4 hk
      refine ⟨v, a1, a2, a3, a4, a5, a6, fun x' e' _ _ hp => ?_⟩
      obtain rfl := Option.some.inj e'
      exact a7 x hx (by omega) (by omega) hp
  rw [if_neg k1] at hn ⊢
  by_cases k2 : x.k < 2 + s.W
  · rw [if_pos k2] at hn ⊢
    have hwp := hw.p
    have hwq := hw.q
    have hwc := hw.c (by omega) hk
    have hpl := pl_lt (W := s.W) (i := x.k - 2) hwp hwq (by omega)
    have hsm : ∀ j, j < 4 → nth (s.m.set (pl s.W x.p x.q + (x.k - 2)) (nth x.l (x.k - 2))) j = nth s.m j := fun j hj => nth_set_ne _ _ (by omega)
    have hoth : ∀ p q i, p ≤ 1 → q ≤ 1 → i < s.W → (p = x.p → q ≠ x.q) → nth (s.m.set (pl s.W x.p x.q + (x.k - 2)) (nth x.l (x.k - 2))) (pl s.W p q + i) = nth s.m (pl s.W p q + i) := fun p q i hp hq hi hne => nth_set_ne _ _ fun e => by
      obtain ⟨e1, e2, _⟩ := pl_inj hwp hwq (by omega) hp hq hi e
      exact hne e1.symm e2.symm
    have hsl : ∀ p, p ≤ 1 → p = x.p → slot s p ≠ x.q := fun p hp e => by
      subst e
      unfold slot
      have := bit_nat (hok.bits (2 + x.p) (by omega))
      omega
    have hslot : ∀ p, p ≤ 1 → slot { s with m := s.m.set (pl s.W x.p x.q + (x.k - 2)) (nth x.l (x.k - 2)), wr := some { x with k := x.k + 1 } } p = slot s p := fun p hp => by
      unfold slot
      show (nth (s.m.set _ _) _).toNat = _
      rw [hsm _ (by omega)]
    have hL : nth (s.m.set (pl s.W x.p x.q + (x.k - 2)) (nth x.l (x.k - 2))) 0 = nth s.m 0 := hsm 0 (by omega)
    have hR : nth (s.m.set (pl s.W x.p x.q + (x.k - 2)) (nth x.l (x.k - 2))) 1 = nth s.m 1 := hsm 1 (by omega)
    refine ⟨g, hn, fun p hp => ⟨?_, (h.hg p hp).2⟩, ?_, ?_, h.hob, fun x' e => ?_, fun y e => ?_⟩
    · rw [hslot p hp]
      exact whole_eq (s := s) (by rfl) (h.hg p hp).1 fun i hi => hoth p _ i hp (slot_le hok hp) hi (hsl p hp)
    · show o ≤ g (nth (s.m.set _ _) 0).toNat
      rw [hL]; exact h.ho
    · show la ≤ g (nth (s.m.set _ _) 0).toNat
      rw [hL]; exact h.hla
    · obtain rfl := Option.some.inj e
      refine ⟨iw.hl, fun _ => ?_, fun _ i hi hiW => ?_, fun h2 => absurd h2 (by show ¬ x.k + 1 = 3 + s.W; omega)⟩
      · show (x.p : Int) = 1 - nth (s.m.set _ _) 1 ∨ (x.p : Int) = nth (s.m.set _ _) 0
        rw [hL, hR]; exact iw.ha (by omega)
      · have hi' : i < x.k + 1 - 2 := hi
        show nth (s.m.set _ _) (pl s.W x.p x.q + i) = b
        by_cases hii : i = x.k - 2
        · subst hii
          rw [nth_set_eq _ _ (by rw [hok.len]; omega), iw.hl, nth_rep _ _ _ (by omega)]
        · rw [nth_set_ne _ _ (by omega)]
          exact iw.hd (by omega) i (by omega) hiW
    · obtain ⟨r1, r2, r3, r4⟩ := h.hrd y e
      have hr := hok.rd y e
      have hyp := hr.p
      have hyq := hr.q
      refine ⟨r1, ?_, ?_, fun hk3 => ?_⟩
      · show y.k = 1 → nth (s.m.set _ _) 0 = y.p ∨ nth (s.m.set _ _) 1 = y.p
        rw [hL, hR]; exact r2
      · show 1 ≤ y.k → y.k ≤ 2 → lo ≤ g y.p ∧ la ≤ g y.p ∧ g y.p ≤ g (nth (s.m.set _ _) 0).toNat
        rw [hL]; exact r3
      · obtain ⟨v, a1, a2, a3, a4, a5, a6, a7⟩ := r4 hk3
        refine ⟨v, ?_, a2, a3, a4, ?_, a6, fun x' e' h1 h2 hp => ?_⟩
        · exact whole_eq (s := s) (by rfl) a1 fun i hi => hoth _ _ i hyp hyq hi fun e1 => by
            rw [a7 x hx (by omega) (by omega) e1.symm]; exact hsl _ hyp e1
        · show v ≤ g (nth (s.m.set _ _) 0).toNat
          rw [hL]; exact a5
        · obtain rfl := Option.some.inj e'
          rw [hslot _ hyp]
          exact a7 x hx (by omega) (by omega) hp
  rw [if_neg k2] at hn ⊢
  · have k3 : x.k = 2 + s.W := by omega
    rw [if_pos k3] at hn ⊢
    have hwp := hw.p
    have hwq := hw.q
    have hwc := hw.c (by omega) hk
    have hlen := hok.len
    have hq : nth (s.m.set (2 + x.p) (x.q : Int)) (2 + x.p) = x.q := nth_set_eq _ _ (by omega)
    have hother : ∀ j, j ≠ 2 + x.p → nth (s.m.set (2 + x.p) (x.q : Int)) j = nth s.m j := fun j hj => nth_set_ne _ _ (by omega)
    have hL := hother 0 (by omega)
    have hR := hother 1 (by omega)
    have hmsg : ∀ p q i, p ≤ 1 → q ≤ 1 → i < s.W → nth (s.m.set (2 + x.p) (x.q : Int)) (pl s.W p q + i) = nth s.m (pl s.W p q + i) := fun p q i hp hq hi => hother _ (by have := pl_lt hp hq hi; omega)
    have hnew : whole s x.p x.q b := fun i hi => iw.hd (by omega) i (by omega) hi
    have hle : ∀ p, p ≤ 1 → g p ≤ b := fun p hp => (h.hg p hp).2
    obtain ⟨g', hg'⟩ : ∃ g' : Nat → Int, g' = fun p => if p = x.p then b else g p := ⟨_, rfl⟩
    have g1 : g' x.p = b := by rw [hg']; exact if_pos rfl
    have g2 : ∀ p, p ≠ x.p → g' p = g p := fun p hp => by rw [hg']; exact if_neg hp
    have g3 : ∀ p, p ≤ 1 → g p ≤ g' p := fun p hp => by
      by_cases e : p = x.p
      · rw [e, g1]; exact hle _ hwp
      · rw [g2 p e]; exact Int.le_refl _
    have hlat := lat_le hok
    refine ⟨g', hn, fun p hp => ?_, ?_, ?_, h.hob, fun x' e => ?_, fun y e => ?_⟩
    · by_cases e : p = x.p
      · subst e
        have hs : slot { s with m := s.m.set (2 + x.p) (x.q : Int), wr := some { x with k := x.k + 1 } } x.p = x.q := by
          unfold slot
          show (nth (s.m.set _ _) _).toNat = _
          rw [hq]; rfl
        rw [hs, g1]
        exact ⟨whole_eq (s := s) (by rfl) hnew fun i hi => hmsg _ _ i hwp hwq hi, Int.le_refl _⟩
      · have hs : slot { s with m := s.m.set (2 + x.p) (x.q : Int), wr := some { x with k := x.k + 1 } } p = slot s p := by
          unfold slot
          show (nth (s.m.set _ _) _).toNat = _
          rw [hother _ (by omega)]
        rw [hs, g2 p e]
        exact ⟨whole_eq (s := s) (by rfl) (h.hg p hp).1 fun i hi => hmsg _ _ i hp (slot_le hok hp) hi, hle p hp⟩
    · show o ≤ g' (nth (s.m.set _ _) 0).toNat
      rw [hL]; exact Int.le_trans h.ho (g3 _ hlat)
    · show la ≤ g' (nth (s.m.set _ _) 0).toNat
      rw [hL]; exact Int.le_trans h.hla (g3 _ hlat)
    · obtain rfl := Option.some.inj e
      refine ⟨iw.hl, fun _ => ?_, fun _ i _ hiW => ?_, fun _ => g1⟩
      · show (x.p : Int) = 1 - nth (s.m.set _ _) 1 ∨ (x.p : Int) = nth (s.m.set _ _) 0
        rw [hL, hR]; exact iw.ha (by omega)
      · show nth (s.m.set _ _) (pl s.W x.p x.q + i) = b
        rw [hmsg _ _ i hwp hwq hiW]; exact hnew i hiW
    · obtain ⟨r1, r2, r3, r4⟩ := h.hrd y e
      have hr := hok.rd y e
      have hyp := hr.p
      have hyq := hr.q
      refine ⟨r1, ?_, ?_, fun hk3 => ?_⟩
      · show y.k = 1 → nth (s.m.set _ _) 0 = y.p ∨ nth (s.m.set _ _) 1 = y.p
        rw [hL, hR]; exact r2
      · show 1 ≤ y.k → y.k ≤ 2 → lo ≤ g' y.p ∧ la ≤ g' y.p ∧ g' y.p ≤ g' (nth (s.m.set _ _) 0).toNat
        rw [hL]
        intro hk1 hk2
        obtain ⟨c1, c2, c3⟩ := r3 hk1 hk2
        have hup := g3 y.p hyp
        refine ⟨by omega, by omega, ?_⟩
        by_cases e1 : y.p = x.p
        · have hlp : nth s.m 0 = y.p := by
            rcases iw.ha (by omega) with h1 | h1
            · have hyk : y.k = 1 := by
                rcases Nat.lt_or_ge y.k 2 with hlt | hge
                · omega
                · have := hr.c hge; omega
              rcases r2 hyk with h2 | h2
              · exact h2
              · omega
            · omega
          rw [hlp]; exact Int.le_refl _
        · rw [g2 _ e1]
          exact Int.le_trans c3 (g3 _ hlat)
      · obtain ⟨v, a1, a2, a3, a4, a5, a6, a7⟩ := r4 hk3
        refine ⟨v, ?_, a2, a3, a4, ?_, a6, fun x' e' h1 h2 hp => ?_⟩
        · exact whole_eq (s := s) (by rfl) a1 fun i hi => hmsg _ _ i hyp hyq hi
        · show v ≤ g' (nth (s.m.set _ _) 0).toNat
          rw [hL]; exact Int.le_trans a5 (g3 _ hlat)
        · obtain rfl := Option.some.inj e'
          exact absurd h2 (by show ¬ x.k + 1 ≤ 2 + s.W; omega)
/-- The writer's last access. -/
theorem inv_wlast {s : St} {b o lo la : Int} {g : Nat → Int} (h : Inv s b o lo la g) {x : Wr} (hx : s.wr = some x) (hk : x.k = 3 + s.W) : (wNext s x).wr = none ∧ Inv (wNext s x) b b lo la g := by
  have hok := h.ok
  have hn := ok_w hok hx
  have hw := hok.wr x hx
  have iw := h.hwr x hx
  unfold wNext at hn ⊢
  rw [if_neg (by omega), if_neg (by omega), if_neg (by omega), if_neg (by omega)] at hn ⊢
  have hwp := hw.p
  have hlen := hok.len
  have h0 : nth (s.m.set 0 (x.p : Int)) 0 = x.p := nth_set_eq _ _ (by omega)
  have hother : ∀ j, j ≠ 0 → nth (s.m.set 0 (x.p : Int)) j = nth s.m j := fun j hj => nth_set_ne _ _ (by omega)
  have hmsg : ∀ p q i, p ≤ 1 → q ≤ 1 → i < s.W → nth (s.m.set 0 (x.p : Int)) (pl s.W p q + i) = nth s.m (pl s.W p q + i) := fun p q i hp hq hi => hother _ (by have := pl_lt hp hq hi; omega)
  have hslot : ∀ p, slot { s with m := s.m.set 0 (x.p : Int), wr := none } p = slot s p := fun p => by
    unfold slot
    show (nth (s.m.set _ _) _).toNat = _
    rw [hother _ (by omega)]
  have hz := iw.hz hk
  have hle : ∀ p, p ≤ 1 → g p ≤ b := fun p hp => (h.hg p hp).2
  have hlat : g (nth s.m 0).toNat ≤ b := hle _ (lat_le hok)
  have hpb : g (nth (s.m.set 0 (x.p : Int)) 0).toNat = b := by rw [h0]; exact hz
  refine ⟨rfl, hn, fun p hp => ?_, ?_, ?_, Int.le_refl _, fun x' e => (by cases e), fun y e => ?_⟩
  · rw [hslot]
    exact ⟨whole_eq (s := s) (by rfl) (h.hg p hp).1 fun i hi => hmsg _ _ i hp (slot_le hok hp) hi, hle p hp⟩
  · show b ≤ g (nth (s.m.set _ _) 0).toNat
    rw [hpb]; exact Int.le_refl _
  · show la ≤ g (nth (s.m.set _ _) 0).toNat
    rw [hpb]; exact Int.le_trans h.hla hlat
  · obtain ⟨r1, r2, r3, r4⟩ := h.hrd y e
    have hr := hok.rd y e
    have hyp := hr.p
    have hyq := hr.q
    have hob := h.hob
    refine ⟨by omega, ?_, ?_, fun hk3 => ?_⟩
    · show y.k = 1 → nth (s.m.set _ _) 0 = y.p ∨ nth (s.m.set _ _) 1 = y.p
      rw [h0, hother 1 (by omega)]
      intro hk1
      by_cases e1 : x.p = y.p
      · exact .inl (by omega)
      · refine .inr ?_
        have hb1 := hok.bits 1 (by omega)
        rcases iw.ha (by omega) with h1 | h1
        · rcases hb1 with hb1 | hb1 <;> omega
        · rcases r2 hk1 with h2 | h2
          · omega
          · exact h2
    · show 1 ≤ y.k → y.k ≤ 2 → lo ≤ g y.p ∧ la ≤ g y.p ∧ g y.p ≤ g (nth (s.m.set _ _) 0).toNat
      rw [hpb]
      intro hk1 hk2
      obtain ⟨c1, c2, c3⟩ := r3 hk1 hk2
      exact ⟨c1, c2, hle _ hyp⟩
    · obtain ⟨v, a1, a2, a3, a4, a5, a6, a7⟩ := r4 hk3
      refine ⟨v, ?_, a2, a3, a4, ?_, a6, fun x' e' => (by cases e')⟩
      · exact whole_eq (s := s) (by rfl) a1 fun i hi => hmsg _ _ i hyp hyq hi
      · show v ≤ g (nth (s.m.set _ _) 0).toNat
        rw [hpb]; exact a3
/-- The reader's accesses but the last one. -/
theorem inv_rstep {s : St} {b o lo la : Int} {g : Nat → Int} (h : Inv s b o lo la g) {y : Rr} (hy : s.rd = some y) (hk : y.k < 2 + s.W) : Inv (rNext s y) b o lo la g := by
  have hok := h.ok
  have hn := ok_r hok hy
  have hr := hok.rd y hy
  obtain ⟨r1, r2, r3, r4⟩ := h.hrd y hy
  unfold rNext at hn ⊢
  by_cases k0 : y.k = 0
  · rw [if_pos k0] at hn ⊢
    have hb := bit_nat (hok.bits 0 (by omega))
    refine ⟨hn, h.hg, h.ho, h.hla, h.hob, fun x e => ⟨(h.hwr x e).hl, (h.hwr x e).ha, (h.hwr x e).hd, (h.hwr x e).hz⟩, fun y' e => ?_⟩
    obtain rfl := Option.some.inj e
    have ho := h.ho
    have hla := h.hla
    exact ⟨r1, fun _ => .inl hb.1.symm, fun _ _ => ⟨Int.le_trans r1 ho, hla, Int.le_refl _⟩, fun h3 => absurd h3 (by show ¬ 3 ≤ 1; omega)⟩
  rw [if_neg k0] at hn ⊢
  by_cases k1 : y.k = 1
  · rw [if_pos k1] at hn ⊢
    have hyp := hr.p
    have hlen := hok.len
    have h1 : nth (s.m.set 1 (y.p : Int)) 1 = y.p := nth_set_eq _ _ (by omega)
    have hother : ∀ j, j ≠ 1 → nth (s.m.set 1 (y.p : Int)) j = nth s.m j := fun j hj => nth_set_ne _ _ (by omega)
    have hmsg : ∀ p q i, p ≤ 1 → q ≤ 1 → i < s.W → nth (s.m.set 1 (y.p : Int)) (pl s.W p q + i) = nth s.m (pl s.W p q + i) := fun p q i hp hq hi => hother _ (by have := pl_lt hp hq hi; omega)
    have hslot : ∀ p, slot { s with m := s.m.set 1 (y.p : Int), rd := some { y with k := 2 } } p = slot s p := fun p => by
      unfold slot
      show (nth (s.m.set _ _) _).toNat = _
      rw [hother _ (by omega)]
    have h0 := hother 0 (by omega)
    refine ⟨hn, fun p hp => ?_, ?_, ?_, h.hob, fun x e => ?_, fun y' e => ?_⟩
    · rw [hslot]
      exact ⟨whole_eq (s := s) (by rfl) (h.hg p hp).1 fun i hi => hmsg _ _ i hp (slot_le hok hp) hi, (h.hg p hp).2⟩
    · show o ≤ g (nth (s.m.set _ _) 0).toNat
      rw [h0]; exact h.ho
    · show la ≤ g (nth (s.m.set _ _) 0).toNat
      rw [h0]; exact h.hla
    · have iw := h.hwr x e
      have hw := hok.wr x e
      have hwp := hw.p
      refine ⟨iw.hl, fun hk1 => ?_, fun hk2 i hi hiW => ?_, iw.hz⟩
      · show (x.p : Int) = 1 - nth (s.m.set _ _) 1 ∨ (x.p : Int) = nth (s.m.set _ _) 0
        rw [h0, h1]
        by_cases e1 : x.p = y.p
        · refine .inr ?_
          rcases r2 k1 with h2 | h2
          · omega
          · rcases iw.ha hk1 with h3 | h3
            · omega
            · exact h3
        · exact .inl (by omega)
      · show nth (s.m.set _ _) (pl s.W x.p x.q + i) = b
        rw [hmsg _ _ i hwp hw.q hiW]; exact iw.hd hk2 i hi hiW
    · obtain rfl := Option.some.inj e
      refine ⟨r1, fun hh => absurd hh (by show ¬ 2 = 1; omega), fun _ _ => ?_, fun h3 => absurd h3 (by show ¬ 3 ≤ 2; omega)⟩
      show lo ≤ g y.p ∧ la ≤ g y.p ∧ g y.p ≤ g (nth (s.m.set _ _) 0).toNat
      rw [h0]; exact r3 (by omega) (by omega)
  rw [if_neg k1] at hn ⊢
  by_cases k2 : y.k = 2
  · rw [if_pos k2] at hn ⊢
    refine ⟨hn, h.hg, h.ho, h.hla, h.hob, fun x e => ⟨(h.hwr x e).hl, (h.hwr x e).ha, (h.hwr x e).hd, (h.hwr x e).hz⟩, fun y' e => ?_⟩
    obtain rfl := Option.some.inj e
    obtain ⟨c1, c2, c3⟩ := r3 (by omega) (by omega)
    obtain ⟨d1, d2⟩ := h.hg y.p hr.p
    exact ⟨r1, fun hh => absurd hh (by show ¬ 3 = 1; omega), fun _ hh => absurd hh (by show ¬ 3 ≤ 2; omega), fun _ => ⟨g y.p, d1, c1, d2, c2, c3, fun i hi => absurd hi (by show ¬ i < 3 - 3; omega), fun _ _ _ _ _ => rfl⟩⟩
  rw [if_neg k2] at hn ⊢
  rw [if_pos hk] at hn ⊢
  refine ⟨hn, h.hg, h.ho, h.hla, h.hob, fun x e => ⟨(h.hwr x e).hl, (h.hwr x e).ha, (h.hwr x e).hd, (h.hwr x e).hz⟩, fun y' e => ?_⟩
  obtain rfl := Option.some.inj e
  obtain ⟨v, a1, a2, a3, a4, a5, a6, a7⟩ := r4 (by omega)
  refine ⟨r1, fun hh => absurd hh (by show ¬ y.k + 1 = 1; omega), fun _ hh => absurd hh (by show ¬ y.k + 1 ≤ 2; omega), fun _ => ⟨v, a1, a2, a3, a4, a5, fun i hi => ?_, a7⟩⟩
  have hi' : i < y.k + 1 - 3 := hi
  have hlen := hr.len
  show nth (rTold s y) i = v
  unfold rTold
  by_cases e1 : i = y.k - 3
  · subst e1
    rw [nth_set_eq _ _ (by omega)]; exact a1 _ (by omega)
  · rw [nth_set_ne _ _ (by omega)]; exact a6 i (by omega)
/-- The reader's last access: what it tells. -/
theorem inv_rlast {s : St} {b o lo la : Int} {g : Nat → Int} (h : Inv s b o lo la g) {y : Rr} (hy : s.rd = some y) (hk : y.k = 2 + s.W) :
    ∃ v, (∀ i, i < s.W → nth (rTold s y) i = v) ∧ (rTold s y).length = s.W ∧ lo ≤ v ∧ v ≤ b ∧ la ≤ v ∧ (rNext s y).rd = none ∧ Inv (rNext s y) b o lo v g := by
  have hok := h.ok
  have hn := ok_r hok hy
  have hr := hok.rd y hy
  have w1 := hok.w1
  obtain ⟨r1, r2, r3, r4⟩ := h.hrd y hy
  obtain ⟨v, a1, a2, a3, a4, a5, a6, a7⟩ := r4 (by omega)
  unfold rNext at hn ⊢
  rw [if_neg (by omega), if_neg (by omega), if_neg (by omega), if_neg (by omega)] at hn ⊢
  have hlen := hr.len
  refine ⟨v, fun i hi => ?_, by rw [rTold_length]; exact hlen, a2, a3, a4, rfl, hn, h.hg, h.ho, a5, h.hob, fun x e => ⟨(h.hwr x e).hl, (h.hwr x e).ha, (h.hwr x e).hd, (h.hwr x e).hz⟩, fun y e => (by cases e)⟩
  unfold rTold
  by_cases e1 : i = y.k - 3
  · subst e1
    rw [nth_set_eq _ _ (by omega)]; exact a1 _ (by omega)
  · rw [nth_set_ne _ _ (by omega)]; exact a6 i (by omega)
theorem inv_s0 {W : Nat} (h1 : 1 ≤ W) (h6 : W ≤ 6) : Inv (s0 W) 0 0 0 0 fun _ => 0 := by
  have hz : ∀ i, nth (List.replicate (4 + 4 * W) (0 : Int)) i = 0 := fun i => by
    by_cases hi : i < 4 + 4 * W
    · exact nth_rep _ _ _ hi
    · exact nth_oob _ _ (by simp; omega)
  exact ⟨ok_s0 h1 h6, fun p _ => ⟨fun i _ => hz _, Int.le_refl _⟩, Int.le_refl _, Int.le_refl _, Int.le_refl _, fun x e => (by cases e), fun y e => (by cases e)⟩
end Go.Proofs.YtppmfmgmlicefabDoor.F4
