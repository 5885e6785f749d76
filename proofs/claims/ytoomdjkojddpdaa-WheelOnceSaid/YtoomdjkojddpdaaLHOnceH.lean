/- WheelOnce: the walk. -/
import Derived.Test.YtoomdjkojddpdaaHArgs
import Derived.Test.YtoomdjkojddpdaaHP2
namespace Go.Proofs.Ytoomdjkojddpdaa.hOnce
open Go.RowKit Go.Proofs.Ytoomdjkojddpdaa.G Go.Proofs.Ytoomdjkojddpdaa.Sat Go.Proofs.Ytoomdjkojddpdaa.H14
set_option maxRecDepth 100000
def intOf : Value → Int
  | .int _ a => a
  | _ => 0
variable {w V V' : World} {b S n : Nat} {U : Nat → Int}
/-- The key j, as it was set: the j-th, until U j. -/
def en (U : Nat → Int) (j : Nat) : En := ⟨j, U j, j⟩
/-- The first k are set. -/
def S1 (w V : World) (b : Nat) (U : Nat → Int) (k : Nat) : Prop := ∃ l : List En, Mw w V b l k ∧ l.length = k ∧ ∀ e, e ∈ l ↔ ∃ j : Nat, j < k ∧ e = en U j
theorem S1.bw {k : Nat} (h : S1 w V b U k) : Below w.heap.size w V := by obtain ⟨l, h1, _⟩ := h; exact h1.bw
theorem set_s1 {k : Nat} (h : S1 w V b U k) {u : Int} (hU : U k = u) (hu : 0 ≤ u ∧ u < 500) (hk : k < 100) : Calls Try.prog 13 #[.pointer (some ⟨b, 0, none⟩), .int .i64 k, .int .i64 u] V fun e V' => (∃ y, e = .returned (.bool y)) ∧ S1 w V' b U (k + 1) := by
  obtain ⟨l, h1, h2, h3⟩ := h
  have hc : cut u = u := cut_id u hu.1 (by omega)
  have hno : ∀ e ∈ l, e.k ≠ (k : Int) := fun e he => by
    obtain ⟨j, hj, rfl⟩ := (h3 e).1 he
    show (j : Int) ≠ k
    omega
  refine (set_m h1 (k := (k : Int)) (by unfold Ir; omega) u (by omega)).mono fun e V' ⟨he, h5, _⟩ => ⟨⟨_, he⟩, _, h5, ?_, fun e => ?_⟩
  · unfold H14.set
    rw [ins_len, can_self hno, h2]
  · rw [mem_set, hc]
    constructor
    · rintro (rfl | ⟨h6, _⟩)
      · exact ⟨k, by omega, by unfold en; rw [hU]⟩
      · obtain ⟨j, hj, e1⟩ := (h3 e).1 h6
        exact ⟨j, by omega, e1⟩
    · rintro ⟨j, hj, rfl⟩
      by_cases e : j = k
      · subst e; exact .inl (by unfold en; rw [hU])
      · exact .inr ⟨(h3 _).2 ⟨j, by omega, rfl⟩, hno _ ((h3 _).2 ⟨j, by omega, rfl⟩)⟩
/-- What was seen, in block S. -/
def Sn (V : World) (S n : Nat) (sn : Nat → Bool) : Prop := ∃ cs : Array Value, Blk V S 4 cs ∧ cs.size = n ∧ ∀ j, j < n → cs[j]? = some (.bool (sn j))
theorem Sn.kp {sn : Nat → Bool} (h : Sn V S n sn) (k : Kp V V') : Sn V' S n sn := by
  obtain ⟨cs, h1, h2⟩ := h
  exact ⟨cs, k.2 S _ _ (by decide) h1, h2⟩
theorem Sn.at {sn : Nat → Bool} (h : Sn V S n sn) {j : Nat} (hj : j < n) {y : Bool} (hy : sn j = y) : V.cell? ⟨S, j, none⟩ = some (.bool y) := by
  obtain ⟨cs, h1, _, h3⟩ := h
  rw [h1.cell, h3 j hj, hy]
theorem Sn.frozen {sn : Nat → Bool} (h : Sn V S n sn) (i : Nat) : V.frozen? ⟨S, i, none⟩ = false := by
  obtain ⟨cs, h1, _⟩ := h
  exact h1.frozen i
theorem Sn.set_ {sn sn' : Nat → Bool} (h : Sn V S n sn) {j : Nat} (hj : j < n) (h' : ∀ i, i < n → sn' i = if i = j then true else sn i) : Sn (V.setCell ⟨S, j, none⟩ (.bool true)) S n sn' := by
  obtain ⟨cs, h1, h2, h3⟩ := h
  refine ⟨_, h1.set_ j _, by simpa using h2, fun i hi => ?_⟩
  rw [h' i hi, Array.getElem?_setIfInBounds]
  by_cases e : j = i
  · subst e; rw [if_pos rfl, if_pos (by omega), if_pos rfl]
  · rw [if_neg e, if_neg (fun h => e h.symm)]; exact h3 i hi
/-- Between two Dues: those that wait, and which were seen. -/
structure Os (w V : World) (b S n : Nat) (U : Nat → Int) (l : List En) (sn : Nat → Bool) : Prop where
  mw : ∃ s, Mw w V b l s
  sub : ∀ e ∈ l, ∃ j : Nat, j < n ∧ e = en U j
  seen : Sn V S n sn
  hs : w.heap.size ≤ S
  eq : ∀ j : Nat, j < n → sn j = !has l j
theorem Os.bw {l : List En} {sn : Nat → Bool} (h : Os w V b S n U l sn) : Below w.heap.size w V := by obtain ⟨s, h1⟩ := h.mw; exact h1.bw
/-- Behind Due: the list of d, k of them are told; l wait. -/
structure Is (w V : World) (b S n : Nat) (A : Option Addr) (d l : List En) (sn : Nat → Bool) : Prop where
  mw : ∃ s, Mw w V b l s
  seen : Sn V S n sn
  hs : w.heap.size ≤ S
  rw_ : Rw V A (keys d)
theorem Is.bw {A : Option Addr} {d l : List En} {sn : Nat → Bool} (h : Is w V b S n A d l sn) : Below w.heap.size w V := by obtain ⟨s, h1⟩ := h.mw; exact h1.bw
theorem due_o {l : List En} {sn : Nat → Bool} (h : Os w V b S n U l sn) (hl : l.length ≤ 100) {now : Int} (hn : 0 ≤ now ∧ now ≤ 500) :
    Calls Try.prog 18 #[.pointer (some ⟨b, 0, none⟩), .int .i64 now] V fun e V' => ∃ A c, e = .returned (.slice A (H14.due l now).length c) ∧ Is w V' b S n A (H14.due l now) (left l now) sn := by
  obtain ⟨s, h1⟩ := h.mw
  refine (due_m h1 (by omega) now).mono fun e V' ⟨A, c, h2, h3, h4, h5, h6, h7⟩ => ?_
  rw [cut_id now hn.1 (by omega)] at h2 h3 h6
  exact ⟨A, c, by rw [h2, len_keys], ⟨s, h6⟩, h.seen.kp h7, h.hs, h3⟩
/-- Those seen, k of d told. -/
def snk (sn : Nat → Bool) (d : List En) (k : Nat) (j : Nat) : Bool := sn j || decide ((j : Int) ∈ keys (d.take k))
theorem snk_zero (sn : Nat → Bool) (d : List En) : snk sn d 0 = sn := by funext j; simp [snk, keys]
theorem Is.step {A : Option Addr} {d l : List En} {sn : Nat → Bool} {k j : Nat} (h : Is w V b S n A d l (snk sn d k)) (hk : d[k]? = some (en U j)) (hj : j < n) : Is w (V.setCell ⟨S, j, none⟩ (.bool true)) b S n A d l (snk sn d (k + 1)) := by
  obtain ⟨s, h1⟩ := h.mw
  obtain ⟨cs, hb, _⟩ := h.seen
  refine ⟨⟨s, h1.box hb (by decide) h.hs _ _⟩, h.seen.set_ hj fun i hi => ?_, h.hs, ?_⟩
  · obtain ⟨hlt, e⟩ := List.getElem?_eq_some_iff.1 hk
    unfold snk
    have e2 : keys (d.take (k + 1)) = keys (d.take k) ++ [(j : Int)] := by
      rw [List.take_succ_eq_append_getElem hlt, e]; simp [keys, en]
    rw [e2]
    by_cases hij : i = j
    · subst hij; rw [if_pos rfl]; simp
    · rw [if_neg hij]
      have : ¬ (i : Int) = j := by omega
      simp [this]
  · refine ⟨fun h0 => ?_, fun g o e => ?_⟩
    · obtain ⟨g, o, e, hg, hc⟩ := h.rw_.1 h0
      obtain ⟨cur, hcur⟩ := h.rw_.2 g o e
      have := hcur.far (p := ⟨S, j, none⟩) (hcur.ne_ hb (by decide)) (.bool true)
      exact ⟨g, o, e, this.lt, fun i u hi => by rw [this.cell, ← hcur.cell]; exact hc i u hi⟩
    · obtain ⟨cur, hcur⟩ := h.rw_.2 g o e
      exact ⟨cur, hcur.far (p := ⟨S, j, none⟩) (hcur.ne_ hb (by decide)) (.bool true)⟩
theorem Is.drewN {A : Option Addr} {d l : List En} {sn : Nat → Bool} (h : Is w V b S n A d l sn) (k : Nat) : Is w (V.drewN k) b S n A d l sn := by
  obtain ⟨s, h1⟩ := h.mw
  exact ⟨⟨s, h1.bel (bn (Below.refl _ _) k)⟩, h.seen, h.hs, h.rw_⟩
theorem Is.at {A : Option Addr} {d l : List En} {sn : Nat → Bool} (h : Is w V b S n A d l sn) {k j : Nat} (hk : d[k]? = some (en U j)) : ∃ g o : Nat, A = some ⟨g, o, none⟩ ∧ V.cell? ⟨g, o + k, none⟩ = some (.int .i64 j) := by
  obtain ⟨g, o, e1, _, e2⟩ := ints_row h.rw_.1 (keys_at hk)
  exact ⟨g, o, e1, e2⟩
/-- What the k-th of d is, at a Due: not seen, in its time, no earlier than the one ahead. -/
theorem due_fact {l : List En} {s : Int} {sn : Nat → Bool} (hl : Wok l s) (hsub : ∀ e ∈ l, ∃ j : Nat, j < n ∧ e = en U j) (heq : ∀ j : Nat, j < n → sn j = !has l j) {now : Int} {k : Nat} {e : En} (hk : (H14.due l now)[k]? = some e) :
    ∃ j : Nat, j < n ∧ e = en U j ∧ U j ≤ now ∧ e ∈ l ∧ snk sn (H14.due l now) k j = false := by
  have hm := List.mem_of_getElem? hk
  have hm' : e ∈ l ∧ e.u ≤ now := by simpa [H14.due] using hm
  obtain ⟨j, hj, rfl⟩ := hsub e hm'.1
  refine ⟨j, hj, rfl, hm'.2, hm'.1, ?_⟩
  unfold snk
  rw [heq j hj, show has l (j : Int) = true from has_mem hm'.1]
  simp only [Bool.not_true, Bool.false_or, decide_eq_false_iff_not]
  intro hin
  obtain ⟨x, hx, hxe⟩ := List.mem_map.1 hin
  obtain ⟨i, hi, hix⟩ := List.mem_take_iff_getElem.1 hx
  have hnd := (hl.due now).nd
  obtain ⟨hk1, hk2⟩ := List.getElem?_eq_some_iff.1 hk
  have := (List.pairwise_iff_getElem.1 hnd) i k (by omega) hk1 (by omega)
  rw [hk2, hix] at this
  exact this hxe
theorem due_prev {l : List En} {s : Int} (hl : Wok l s) {now : Int} {k j i : Nat} (hk : (H14.due l now)[k + 1]? = some (en U j)) (hi : (H14.due l now)[k]? = some (en U i)) : U i ≤ U j ∧ (U j = U i → (i : Int) ≤ j) := by
  obtain ⟨h1, h2⟩ := List.getElem?_eq_some_iff.1 hk
  obtain ⟨h3, h4⟩ := List.getElem?_eq_some_iff.1 hi
  have := (List.pairwise_iff_getElem.1 (hl.due now).srt) k (k + 1) h3 h1 (by omega)
  rw [h2, h4] at this
  unfold bf en at this
  simp only at this
  omega
theorem os_next {A : Option Addr} {l : List En} {sn : Nat → Bool} {now : Int} (h0 : ∀ e ∈ l, ∃ j : Nat, j < n ∧ e = en U j) (heq : ∀ j : Nat, j < n → sn j = !has l j) {s : Int} (hl : Wok l s) (h : Is w V b S n A (H14.due l now) (left l now) (snk sn (H14.due l now) (H14.due l now).length)) :
    Os w V b S n U (left l now) (snk sn (H14.due l now) (H14.due l now).length) := by
  refine ⟨h.mw, fun e he => h0 e (List.mem_filter.1 he).1, h.seen, h.hs, fun j hj => ?_⟩
  unfold snk
  rw [List.take_length, heq j hj]
  have e1 : decide ((j : Int) ∈ keys (H14.due l now)) = has (H14.due l now) j := by
    rw [Bool.eq_iff_iff, decide_eq_true_eq]; exact (has_iff (hl.due now)).symm
  rw [e1]
  unfold has
  cases hf : fnd l (j : Int) with
  | none =>
    have h1 : fnd (left l now) (j : Int) = none := by
      cases hg : fnd (left l now) (j : Int) with
      | none => rfl
      | some e => obtain ⟨a, c⟩ := fnd_some hg; exact absurd c (fnd_none hf e (List.mem_filter.1 a).1)
    rw [h1]; simp
  | some e =>
    obtain ⟨a, c⟩ := fnd_some hf
    by_cases hu : e.u ≤ now
    · have h1 : fnd (H14.due l now) (j : Int) = some e := (fnd_iff (hl.due now)).2 ⟨by simpa [H14.due] using ⟨a, hu⟩, c⟩
      have h2 : fnd (left l now) (j : Int) = none := by
        cases hg : fnd (left l now) (j : Int) with
        | none => rfl
        | some x =>
          obtain ⟨p, q⟩ := fnd_some hg
          have hp : x ∈ l ∧ now < x.u := by simpa [left] using p
          have := hl.one hp.1 a (by rw [q, c])
          subst this
          omega
      rw [h1, h2]; simp
    · have h1 : fnd (left l now) (j : Int) = some e := (fnd_iff (hl.left now)).2 ⟨by simpa [left] using ⟨a, by omega⟩, c⟩
      have h2 : fnd (H14.due l now) (j : Int) = none := by
        cases hg : fnd (H14.due l now) (j : Int) with
        | none => rfl
        | some x =>
          obtain ⟨p, q⟩ := fnd_some hg
          have hp : x ∈ l ∧ x.u ≤ now := by simpa [H14.due] using p
          have := hl.one hp.1 a (by rw [q, c])
          subst this
          omega
      rw [h1, h2]; simp
theorem len_due {l : List En} {s : Int} (hl : Wok l s) (now : Int) : (H14.due l now).length + (left l now).length = l.length := by
  have := congrArg List.length (due_left l hl now)
  rw [List.length_append] at this
  exact this.symm
theorem S1.out {sn : Nat → Bool} (h : S1 w V b U n) (hS : Sn V' S n sn) (hs : w.heap.size ≤ S) (hsn : ∀ j, sn j = false) (hb : Below V.heap.size V V') : ∃ l, Os w V' b S n U l sn ∧ l.length = n := by
  obtain ⟨l, h1, h2, h3⟩ := h
  refine ⟨l, ⟨⟨n, h1.bel hb⟩, fun e he => (h3 e).1 he, hS, hs, fun j hj => ?_⟩, h2⟩
  have : has l (j : Int) = true := has_mem ((h3 (en U j)).2 ⟨j, hj, rfl⟩)
  rw [this, hsn j]; rfl
theorem infoB : (Try.prog.info? 4).map (fun i => (i.zero, i.size, i.bytes)) = some (some (.bool false), 1, 1) := by kernel_rfl
theorem makeB (k : Nat) (hk : k ≤ 64) (W : World) : (Instr.makeSlice 52 (.int .i64 k) (.int .i64 k)).run Try.prog W = .ok (.slice (some ⟨W.heap.size, 0, none⟩) k k) (W.alloc (.cells (madeCells #[Value.bool false] k) 4)) :=
  run_make_row' (P := Try.prog) 52 4 (.bool false) 1 Try.underlying52 infoB rfl .i64 .i64 k (by omega) (by omega) W
theorem sn_new (V : World) (n : Nat) : Sn (V.alloc (.cells (madeCells #[Value.bool false] n) 4)) V.heap.size n (fun _ => false) := by
  refine ⟨_, Blk.new _ _ _, ?_, fun j hj => ?_⟩
  · have e := toList_madeCells_one (.bool false) n
    rw [← Array.length_toList, e]; simp
  · have e := toList_madeCells_one (.bool false) n
    rw [← Array.getElem?_toList, e]; simp [hj]
/-- At the head of the outer loop: i times asked, last at t. -/
def Lo (w V : World) (b S n : Nat) (U : Nat → Int) (m i : Nat) (now told : Int) : Prop :=
  ∃ (l : List En) (sn : Nat → Bool), Os w V b S n U l sn ∧ told = ((n - l.length : Nat) : Int) ∧ l.length ≤ n ∧ (0 < i → ∀ e ∈ l, now < e.u) ∧ 0 ≤ now ∧ (i ≤ m → now ≤ 499) ∧ (m < i → l = [])
end Go.Proofs.Ytoomdjkojddpdaa.hOnce
