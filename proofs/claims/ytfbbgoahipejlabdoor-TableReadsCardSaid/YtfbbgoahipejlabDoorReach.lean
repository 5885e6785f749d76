/- Ahead of paths: marks that are handed on round by round, and what they tell. No memory, no program. -/
import Derived.Test.YtfbbgoahipejlabDoorCfg
import Derived.Test.YtfbbgoahipejlabDoorChk
namespace Go.Proofs.YtfbbgoahipejlabDoor.C04
open Go.RowKit Go.Proofs.YtfbbgoahipejlabDoor.G

/-! ### Marks -/
def upd (s : Int → Bool) (i : Int) (v : Bool) : Int → Bool := fun x => if x = i then v else s x
def mst (s : Int → Bool) (p : Int × Int) : Int → Bool := upd s p.1 (s p.1 || s p.2)
def mrd : List (Int × Int) → (Int → Bool) → Int → Bool
  | [], s => s
  | p :: l, s => mrd l (mst s p)
def mrn (l : List (Int × Int)) : Nat → (Int → Bool) → Int → Bool
  | 0, s => s
  | n + 1, s => mrn l n (mrd l s)
def one1 (r : Int) : Int → Bool := fun x => decide (x = r)
/-- What is marked, said without rounds. -/
def rch (l : List (Int × Int)) (x r : Int) : Prop := ∀ S : Int → Prop, S r → (∀ p ∈ l, S p.2 → S p.1) → S x
theorem upd_same (s : Int → Bool) (i : Int) (v : Bool) : upd s i v i = v := by simp [upd]
theorem upd_other (s : Int → Bool) {i x : Int} (v : Bool) (h : x ≠ i) : upd s i v x = s x := by simp [upd, h]
theorem upd_id (s : Int → Bool) (i : Int) : upd s i (s i) = s := by
  funext x
  by_cases h : x = i
  · subst h; exact upd_same _ _ _
  · exact upd_other _ _ h
theorem mst_up (s : Int → Bool) (p : Int × Int) (x : Int) (h : s x = true) : mst s p x = true := by
  by_cases e : x = p.1
  · subst e; rw [mst, upd_same, h]; rfl
  · rw [mst, upd_other _ _ e]; exact h
theorem mrd_up : ∀ (l : List (Int × Int)) (s : Int → Bool) (x : Int), s x = true → mrd l s x = true
  | [], _, _, h => h
  | p :: l, s, x, h => mrd_up l _ x (mst_up s p x h)
theorem mrd_mem : ∀ (l : List (Int × Int)) (s : Int → Bool) (p : Int × Int), p ∈ l → s p.2 = true → mrd l s p.1 = true
  | [], _, _, h, _ => by cases h
  | q :: l, s, p, h, h2 => by
    rcases List.mem_cons.1 h with rfl | h
    · exact mrd_up l _ _ (by rw [mst, upd_same, h2, Bool.or_true])
    · exact mrd_mem l _ p h (mst_up s q _ h2)
theorem mst_in {l : List (Int × Int)} {r : Int} {s : Int → Bool} {p : Int × Int} (hp : p ∈ l) (hs : ∀ x, s x = true → rch l x r) (x : Int) (h : mst s p x = true) : rch l x r := by
  by_cases e : x = p.1
  · subst e
    rw [mst, upd_same] at h
    rcases (Bool.or_eq_true_iff ..).1 h with h | h
    · exact hs _ h
    · exact fun S h0 hc => hc p hp (hs _ h S h0 hc)
  · rw [mst, upd_other _ _ e] at h; exact hs x h
theorem mrd_in {l : List (Int × Int)} {r : Int} : ∀ (l' : List (Int × Int)) (s : Int → Bool), (∀ p ∈ l', p ∈ l) → (∀ x, s x = true → rch l x r) → ∀ x, mrd l' s x = true → rch l x r
  | [], _, _, hs, x, h => hs x h
  | p :: l', s, hl, hs, x, h => mrd_in l' (mst s p) (fun q hq => hl q (List.mem_cons_of_mem _ hq)) (mst_in (hl p (List.mem_cons_self ..)) hs) x h
theorem mrn_in {l : List (Int × Int)} {r : Int} : ∀ (n : Nat) (s : Int → Bool), (∀ x, s x = true → rch l x r) → ∀ x, mrn l n s x = true → rch l x r
  | 0, _, hs, x, h => hs x h
  | n + 1, s, hs, x, h => mrn_in n (mrd l s) (mrd_in l s (fun _ h => h) hs) x h
def shut (l : List (Int × Int)) (s : Int → Bool) : Prop := ∀ p ∈ l, s p.2 = true → s p.1 = true
theorem mrd_shut : ∀ (l : List (Int × Int)) (s : Int → Bool), shut l s → mrd l s = s
  | [], _, _ => rfl
  | p :: l, s, h => by
    have e : mst s p = s := by
      rw [mst]
      have hp : (s p.1 || s p.2) = s p.1 := by
        rcases h2 : s p.2 with _ | _
        · rw [Bool.or_false]
        · rw [h p (List.mem_cons_self ..) h2]; rfl
      rw [hp]; exact upd_id _ _
    rw [mrd, e]
    exact mrd_shut l s (fun q hq => h q (List.mem_cons_of_mem _ hq))
theorem mrn_shut {l : List (Int × Int)} : ∀ (n : Nat) (s : Int → Bool), shut l s → mrn l n s = s
  | 0, _, _ => rfl
  | n + 1, s, h => by rw [mrn, mrd_shut l s h]; exact mrn_shut n s h
theorem shut_all {l : List (Int × Int)} {s : Int → Bool} (h : shut l s) {r x : Int} (hr : s r = true) (hx : rch l x r) : s x = true := hx (fun y => s y = true) hr h

/-! ### Counting -/
def cnt (s : Int → Bool) : Nat → Nat
  | 0 => 0
  | n + 1 => cnt s n + (if s n = true then 1 else 0)
theorem cnt_le (s : Int → Bool) : ∀ n, cnt s n ≤ n
  | 0 => Nat.le_refl _
  | n + 1 => by have := cnt_le s n; rw [cnt]; split <;> omega
theorem cnt_up {s s' : Int → Bool} (h : ∀ x, s x = true → s' x = true) : ∀ n, cnt s n ≤ cnt s' n
  | 0 => Nat.le_refl _
  | n + 1 => by
    have := cnt_up h n
    rw [cnt, cnt]
    by_cases e : s n = true
    · rw [if_pos e, if_pos (h _ e)]; omega
    · rw [if_neg e]; omega
theorem cnt_more {s s' : Int → Bool} (h : ∀ x, s x = true → s' x = true) (k : Nat) (h1 : s k = false) (h2 : s' k = true) : ∀ n, k < n → cnt s n + 1 ≤ cnt s' n
  | 0, hk => by omega
  | n + 1, hk => by
    rw [cnt, cnt]
    by_cases e : k = n
    · subst e
      have := cnt_up h k
      rw [if_neg (by rw [h1]; decide), if_pos h2]; omega
    · have := cnt_more h k h1 h2 n (by omega)
      by_cases e2 : s n = true
      · rw [if_pos e2, if_pos (h _ e2)]; omega
      · rw [if_neg e2]; omega
theorem cnt_all {s : Int → Bool} : ∀ n, cnt s n = n → ∀ k, k < n → s k = true
  | 0, _, k, hk => by omega
  | n + 1, h, k, hk => by
    rw [cnt] at h
    have := cnt_le s n
    by_cases e : s n = true
    · rw [if_pos e] at h
      by_cases ek : k = n
      · subst ek; exact e
      · exact cnt_all n (by omega) k (by omega)
    · rw [if_neg e] at h; omega
theorem cnt_one {r : Nat} {n : Nat} (h : r < n) : 1 ≤ cnt (one1 r) n := by
  have h0 : cnt (fun _ => false) n ≤ n := cnt_le _ n
  have := cnt_more (s := fun _ => false) (s' := one1 r) (fun _ h => by cases h) r rfl (by simp [one1]) n h
  omega
theorem mrn_cnt {l : List (Int × Int)} {P : Nat} (hl : ∀ p ∈ l, 0 ≤ p.1 ∧ p.1 < (P : Int)) : ∀ (n : Nat) (s : Int → Bool), shut l (mrn l n s) ∨ cnt s P + n ≤ cnt (mrn l n s) P
  | 0, s => .inr (Nat.le_refl _)
  | n + 1, s => by
    by_cases h : shut l s
    · left
      rw [mrn_shut (n + 1) s h]; exact h
    · have hx : ∃ p ∈ l, s p.2 = true ∧ s p.1 = false := by
        apply Classical.byContradiction
        intro hn
        refine h fun p hp h2 => ?_
        rcases h1 : s p.1 with _ | _
        · exact absurd ⟨p, hp, h2, h1⟩ hn
        · rfl
      obtain ⟨p, hp, h2, h1⟩ := hx
      obtain ⟨g0, g1⟩ := hl p hp
      obtain ⟨k, hk⟩ := Int.eq_ofNat_of_zero_le g0
      rw [hk] at h1 g1
      have hm := mrd_mem l s p hp h2
      rw [hk] at hm
      have hc := cnt_more (mrd_up l s) k h1 hm P (by omega)
      rcases mrn_cnt hl n (mrd l s) with h3 | h3
      · exact .inl h3
      · right; rw [mrn]; omega
/-- As many rounds as there are places, less one: all that can be come to is marked, and nothing else. -/
theorem mrn_iff {l : List (Int × Int)} {P : Nat} (hl : ∀ p ∈ l, 0 ≤ p.1 ∧ p.1 < (P : Int)) {r : Int} (h0 : 0 ≤ r) (h1 : r < (P : Int)) {n : Nat} (hn : P ≤ n + 1) (x : Int) : mrn l n (one1 r) x = true ↔ rch l x r := by
  constructor
  · refine mrn_in n (one1 r) (fun y hy => ?_) x
    have : y = r := of_decide_eq_true hy
    subst this
    exact fun S h _ => h
  · intro hx
    obtain ⟨r', rfl⟩ := Int.eq_ofNat_of_zero_le h0
    have hup : ∀ (m : Nat) (s : Int → Bool) (y : Int), s y = true → mrn l m s y = true := by
      intro m
      induction m with
      | zero => exact fun _ _ h => h
      | succ m ih => exact fun s y h => ih _ _ (mrd_up l s y h)
    have hr : mrn l n (one1 (r' : Int)) (r' : Int) = true := hup n _ _ (by simp [one1])
    have hs : shut l (mrn l n (one1 (r' : Int))) := by
      rcases mrn_cnt hl n (one1 (r' : Int)) with h | h
      · exact h
      · have c1 := cnt_one (r := r') (n := P) (by omega)
        have c2 := cnt_le (mrn l n (one1 (r' : Int))) P
        intro p hp _
        obtain ⟨g0, g1⟩ := hl p hp
        obtain ⟨k, hk⟩ := Int.eq_ofNat_of_zero_le g0
        rw [hk] at g1 ⊢
        exact cnt_all P (by omega) k (by omega)
    exact shut_all hs hr hx

/-! ### Channels -/
def fro (cs : List Chn) : List (Int × Int) := cs.map fun k => (k.f, k.t)
def bak (cs : List Chn) : List (Int × Int) := cs.map fun k => (k.t, k.f)
def reach (cs : List Chn) (a b : Int) : Prop := ∀ S : Int → Prop, S a → (∀ k ∈ cs, S k.f → S k.t) → S b
theorem reach_self (cs : List Chn) (a : Int) : reach cs a a := fun _ h _ => h
theorem reach_trans {cs : List Chn} {a b d : Int} (h : reach cs a b) (g : reach cs b d) : reach cs a d := fun S h0 hc => g S (h S h0 hc) hc
theorem reach_one {cs : List Chn} {k : Chn} (h : k ∈ cs) : reach cs k.f k.t := fun _ h0 hc => hc k h h0
theorem reach_less {cs ds : List Chn} (hd : ∀ k ∈ ds, k ∈ cs) {a b : Int} (h : reach ds a b) : reach cs a b := fun S h0 hc => h S h0 fun k hk => hc k (hd k hk)
theorem rch_fro (cs : List Chn) (x r : Int) : rch (fro cs) x r ↔ reach cs x r := by
  constructor
  · intro h S hx hc
    apply Classical.byContradiction
    intro hr
    refine h (fun y => ¬ S y) hr (fun p hp h2 h1 => ?_) hx
    obtain ⟨k, hk, rfl⟩ := List.mem_map.1 hp
    exact h2 (hc k hk h1)
  · intro h S hr hc
    apply Classical.byContradiction
    intro hx
    refine h (fun y => ¬ S y) hx (fun k hk h1 h2 => ?_) hr
    exact h1 (hc (k.f, k.t) (List.mem_map.2 ⟨k, hk, rfl⟩) h2)
theorem rch_bak (cs : List Chn) (x r : Int) : rch (bak cs) x r ↔ reach cs r x := by
  constructor
  · exact fun h S hr hc => h S hr (fun p hp h2 => by
      obtain ⟨k, hk, rfl⟩ := List.mem_map.1 hp
      exact hc k hk h2)
  · exact fun h S hr hc => h S hr (fun k hk h1 => hc (k.t, k.f) (List.mem_map.2 ⟨k, hk, rfl⟩) h1)
theorem rgt_ends {P : Int} {k : Chn} (h : rgt P k = true) : (0 ≤ k.f ∧ k.f < P) ∧ (0 ≤ k.t ∧ k.t < P) ∧ k.f ≠ k.t := by
  obtain ⟨h1, h2, h3, h4, h5, _⟩ := of_decide_eq_true h
  exact ⟨⟨h1, h2⟩, ⟨h3, h4⟩, h5⟩
theorem cbad_none {P : Int} : ∀ (cs : List Chn) (i : Nat), cbad P i cs = none → ∀ k ∈ cs, rgt P k = true
  | [], _, _, k, hk => by cases hk
  | x :: r, i, h, k, hk => by
    rw [cbad] at h
    by_cases hx : rgt P x = true
    · rw [if_pos hx] at h
      rcases List.mem_cons.1 hk with rfl | hk
      · exact hx
      · exact cbad_none r (i + 1) h k hk
    · rw [if_neg hx] at h; cases h

/-! ### Paths, and those from which one leads -/
noncomputable def pathV (c : Cfg) (a b : Int) : Bool := @decide (flt c = none ∧ isp c.P a = true ∧ isp c.P b = true ∧ reach c.cs a b) (Classical.propDecidable _)
theorem pathV_iff {c : Cfg} {a b : Int} : pathV c a b = true ↔ (flt c = none ∧ isp c.P a = true ∧ isp c.P b = true ∧ reach c.cs a b) := by
  unfold pathV; exact @decide_eq_true_iff _ (Classical.propDecidable _)
def sel (s : Int → Bool) : Nat → Nat → List Int
  | _, 0 => []
  | i, n + 1 => if s i = true then (i : Int) :: sel s (i + 1) n else sel s (i + 1) n
theorem sel_congr {s s' : Int → Bool} : ∀ (n i : Nat), (∀ k : Nat, i ≤ k → k < i + n → s k = s' k) → sel s i n = sel s' i n
  | 0, _, _ => rfl
  | n + 1, i, h => by rw [sel, sel, h i (Nat.le_refl _) (by omega), sel_congr n (i + 1) fun k h1 h2 => h k (by omega) (by omega)]
theorem sel_none {s : Int → Bool} : ∀ (n i : Nat), (∀ k : Nat, i ≤ k → k < i + n → s k = false) → sel s i n = []
  | 0, _, _ => rfl
  | n + 1, i, h => by rw [sel, if_neg (by rw [h i (Nat.le_refl _) (by omega)]; decide), sel_none n (i + 1) fun k h1 h2 => h k (by omega) (by omega)]
theorem sel_more {s : Int → Bool} : ∀ (n i m : Nat), (∀ k : Nat, i + n ≤ k → s k = false) → sel s i (n + m) = sel s i n
  | 0, i, m, h => by rw [Nat.zero_add, sel_none m i fun k h1 _ => h k (by omega)]; rfl
  | n + 1, i, m, h => by
    have e : n + 1 + m = (n + m) + 1 := by omega
    rw [e, sel, sel, sel_more n (i + 1) m fun k hk => h k (by omega)]
theorem sel_len {s : Int → Bool} : ∀ (n i : Nat), (sel s i n).length ≤ n
  | 0, _ => Nat.le_refl _
  | n + 1, i => by
    have := sel_len (s := s) n (i + 1)
    rw [sel]; split
    · rw [List.length_cons]; omega
    · omega
theorem mem_sel {s : Int → Bool} {z : Int} : ∀ (n i : Nat), z ∈ sel s i n ↔ ∃ k : Nat, z = (k : Int) ∧ i ≤ k ∧ k < i + n ∧ s k = true
  | 0, i => by
    simp only [sel, List.not_mem_nil, false_iff]
    rintro ⟨k, _, h1, h2, _⟩; omega
  | n + 1, i => by
    have ih := mem_sel (s := s) (z := z) n (i + 1)
    rw [sel]
    by_cases h : s i = true
    · rw [if_pos h, List.mem_cons, ih]
      constructor
      · rintro (rfl | ⟨k, rfl, h1, h2, h3⟩)
        · exact ⟨i, rfl, Nat.le_refl _, by omega, h⟩
        · exact ⟨k, rfl, by omega, by omega, h3⟩
      · rintro ⟨k, rfl, h1, h2, h3⟩
        by_cases e : k = i
        · subst e; exact .inl rfl
        · exact .inr ⟨k, rfl, by omega, by omega, h3⟩
    · rw [if_neg h, ih]
      constructor
      · rintro ⟨k, rfl, h1, h2, h3⟩; exact ⟨k, rfl, by omega, by omega, h3⟩
      · rintro ⟨k, rfl, h1, h2, h3⟩
        by_cases e : k = i
        · subst e; exact absurd h3 h
        · exact ⟨k, rfl, by omega, by omega, h3⟩
noncomputable def intoV (c : Cfg) (b : Int) : List Int := sel (fun x => pathV c x b) 0 4
theorem mem_into {c : Cfg} {a b : Int} : a ∈ intoV c b ↔ pathV c a b = true := by
  rw [intoV, mem_sel]
  constructor
  · rintro ⟨k, rfl, _, _, h⟩; exact h
  · intro h
    obtain ⟨hf, ha, _⟩ := pathV_iff.1 h
    have ha' : 0 ≤ a ∧ a < c.P := of_decide_eq_true ha
    obtain ⟨k, rfl⟩ := Int.eq_ofNat_of_zero_le ha'.1
    have hP : c.P ≤ 4 := by
      unfold flt at hf
      split at hf
      · rename_i hw; exact (wth_yes hw).2
      · cases hf
    exact ⟨k, rfl, by omega, by omega, h⟩
end Go.Proofs.YtfbbgoahipejlabDoor.C04
