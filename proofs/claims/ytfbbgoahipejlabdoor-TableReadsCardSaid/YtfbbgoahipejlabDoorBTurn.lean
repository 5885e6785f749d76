/- Sums of bytes: what one turned byte does to a sealed row. Plain lists. -/
import Derived.Test.YtfbbgoahipejlabDoorBOpn
namespace Go.Proofs.YtfbbgoahipejlabDoor.W
open Go.RowKit Go.Proofs.YtfbbgoahipejlabDoor.G

def str (l : List UInt8) : Value := .string ⟨l.toArray⟩
theorem conv_any {w : World} {A : Option Addr} {l : List UInt8} (hr : Rd w A l) (c : Nat) : (convert 22 9 (.slice A l.length c)).run Tryd.prog w = .ok (str l) w := by
  cases A with
  | some a =>
    refine run_convert_bytes_back (P := Tryd.prog) w 22 9 5 a c l Tryd.underlying22 Tryd.underlying5 Tryd.underlying9 (fun j hj => ?_)
    exact hr.news j (bv l[j]) (by simp [bvs, hj])
  | none =>
    obtain rfl := hr.nil_
    rw [List.length_nil, run_convert_bytes_string (P := Tryd.prog) w 22 9 5 none 0 c Tryd.underlying22 Tryd.underlying5 Tryd.underlying9]
    rfl
def tot : List UInt8 → Nat
  | [] => 0
  | x :: r => x.toNat + tot r
theorem tot_append : ∀ l r : List UInt8, tot (l ++ r) = tot l + tot r
  | [], r => by simp [tot]
  | x :: l, r => by simp only [List.cons_append, tot, tot_append l r]; omega
theorem su_tot (l : List UInt8) : ∀ k, k ≤ l.length → su l k = ((tot (l.take k) : Nat) : Int) % 65536
  | 0, _ => by simp [su, tot]
  | k + 1, h => by
    have ih := su_tot l k (by omega)
    have hk : k < l.length := by omega
    have e : l.take (k + 1) = l.take k ++ [l[k]] := by rw [List.take_succ_eq_append_getElem hk]
    have hn : nth l k = (l[k].toNat : Int) := by simp [nth, hk]
    rw [su, ih, e, tot_append, hn]
    simp only [tot]
    omega
theorem sum_tot (l : List UInt8) : sum l = ((tot l : Nat) : Int) % 65536 := by
  unfold sum; rw [su_tot l l.length (Nat.le_refl _), List.take_length]
theorem tot_set : ∀ (l : List UInt8) (q : Nat) (x : UInt8) (h : q < l.length), tot (l.set q x) + l[q].toNat = tot l + x.toNat
  | [], q, x, h => by simp at h
  | y :: r, 0, x, h => by simp [tot]; omega
  | y :: r, q + 1, x, h => by
    have ih := tot_set r q x (by simpa using h)
    simp only [List.set_cons_succ, tot, List.getElem_cons_succ]
    omega
theorem sum_set (p : List UInt8) (q : Nat) (x : UInt8) (h : q < p.length) : sum (p.set q x) = sum p ↔ x = p[q] := by
  rw [sum_tot, sum_tot]
  have ht := tot_set p q x h
  have h1 := x.toNat_lt
  have h2 := p[q].toNat_lt
  constructor
  · intro he
    have : x.toNat = p[q].toNat := by omega
    exact UInt8.toNat_inj.1 this
  · rintro rfl
    omega
theorem be_two (x y : UInt8) : be [x, y] 2 = (x.toNat : Int) * 256 + y.toNat := rfl
theorem seal_two (p : List UInt8) : ∃ h l : UInt8, sealL p = p ++ [h, l] ∧ (h.toNat : Int) * 256 + l.toNat = sum p := by
  have hb := sum_bd p
  refine ⟨by_ (sum p / 256), by_ (sum p % 256), rfl, ?_⟩
  rw [by_nat _ (by omega) (by omega), by_nat _ (by omega) (by omega)]
  omega
theorem openB_two (p : List UInt8) (x y : UInt8) : openB (p ++ [x, y]) = decide ((x.toNat : Int) * 256 + y.toNat = sum p) := by
  unfold openB
  have e1 : back (p ++ [x, y]) = [x, y] := by simp [back]
  have e2 : front (p ++ [x, y]) = p := by simp [front]
  rw [e1, e2, be_two]
theorem front_two (p : List UInt8) (x y : UInt8) : front (p ++ [x, y]) = p := by simp [front]
theorem open_seal (p : List UInt8) : openE (sealL p) = 0 ∧ openL (sealL p) = p := by
  obtain ⟨h, l, e, hs⟩ := seal_two p
  unfold openE openL
  rw [e, openB_two, front_two, decide_eq_true hs]
  simp
  intro h0; omega
/-- One byte of a sealed row is another one: it is not opened; the same: it is. -/
theorem open_turned (p : List UInt8) (q : Nat) (x : UInt8) (hq : q < (sealL p).length) : openE ((sealL p).set q x) = if x = (sealL p)[q] then 0 else 8 := by
  obtain ⟨h, l, e, hs⟩ := seal_two p
  have key : openB ((sealL p).set q x) = decide (x = (sealL p)[q]) := by
    have hlen : q < p.length + 2 := by rw [e] at hq; simpa using hq
    simp only [e]
    by_cases h1 : q < p.length
    · rw [List.set_append_left _ _ h1, openB_two, hs]
      have := sum_set p q x h1
      rw [List.getElem_append_left h1]
      exact decide_eq_decide.2 ⟨fun he => this.1 he.symm, fun he => (this.2 he).symm⟩
    · rw [List.set_append_right _ _ (by omega)]
      have hx := x.toNat_lt
      have hh := h.toNat_lt
      have hl := l.toNat_lt
      rw [List.getElem_append_right (by omega)]
      by_cases h2 : q = p.length
      · subst h2
        simp only [Nat.sub_self, List.set_cons_zero, List.getElem_cons_zero]
        rw [openB_two]
        exact decide_eq_decide.2 ⟨fun he => UInt8.toNat_inj.1 (by omega), fun he => by rw [he]; exact hs⟩
      · obtain rfl : q = p.length + 1 := by omega
        simp only [show p.length + 1 - p.length = 1 by omega, List.set_cons_succ, List.set_cons_zero, List.getElem_cons_succ, List.getElem_cons_zero]
        rw [openB_two]
        exact decide_eq_decide.2 ⟨fun he => UInt8.toNat_inj.1 (by omega), fun he => by rw [he]; exact hs⟩
  unfold openE
  rw [key, if_neg (by rw [List.length_set, sealL_length]; omega)]
  by_cases hx : x = (sealL p)[q] <;> simp [hx]
theorem xor_self_iff (x y : UInt8) : x ^^^ y = x ↔ y = 0 := by
  constructor
  · intro h
    have : x ^^^ (x ^^^ y) = x ^^^ x := by rw [h]
    rwa [← UInt8.xor_assoc, UInt8.xor_self, UInt8.zero_xor] at this
  · rintro rfl; exact UInt8.xor_zero
theorem open_xored (p : List UInt8) (q : Nat) (y : UInt8) (hq : q < (sealL p).length) : openE ((sealL p).set q ((sealL p)[q] ^^^ y)) = if y = 0 then 0 else 8 := by
  rw [open_turned p q _ hq]
  by_cases hy : y = 0
  · rw [if_pos hy, if_pos ((xor_self_iff _ _).2 hy)]
  · rw [if_neg hy, if_neg (fun h => hy ((xor_self_iff _ _).1 h))]
theorem bits_xor8 (x y : UInt8) : bits .xor .u8 (x.toNat : Int) (y.toNat : Int) = ((x ^^^ y).toNat : Int) := by
  have hx := x.toNat_lt
  have hy := y.toNat_lt
  have e : ∀ a : Nat, a < 256 → (BitVec.ofInt 8 (a : Int)).toNat = a := fun a ha => by
    rw [BitVec.ofInt_natCast, BitVec.toNat_ofNat]; exact Nat.mod_eq_of_lt (by omega)
  show IntKind.u8.wrap ((BitVec.ofInt 8 (x.toNat : Int) ^^^ BitVec.ofInt 8 (y.toNat : Int)).toNat : Int) = _
  rw [BitVec.toNat_xor, e _ (by omega), e _ (by omega), UInt8.toNat_xor]
  have : x.toNat ^^^ y.toNat < 2 ^ 8 := Nat.xor_lt_two_pow (by omega) (by omega)
  rw [IntKind.wrap_u8]
  omega
/-- A row of one's own, its block. -/
theorem Lst.row {w : World} {B : Nat} {v : Value} {l : List UInt8} (h : Lst w B v l) (h0 : 0 < l.length) : ∃ g c cur, v = .slice (some ⟨g, 0, none⟩) l.length c ∧ B ≤ g ∧ Blk w g 5 cur ∧ l.length ≤ c ∧ c ≤ maxLen ∧ ∀ j, j < l.length → cur[j]? = some (.int .u8 (nth l j)) := by
  rcases h.2 with ⟨rfl, h1⟩ | ⟨g, cap, cur, rfl, hB, hh, hle, hm, hs, ht⟩
  · omega
  · refine ⟨g, cap, cur, rfl, hB, hh, hle, hm, fun j hj => ?_⟩
    have h1 := World.ownsRow.cellAt (g := g) (cap := cap) h j (by omega)
    rw [bvs_at l j hj, Blk.cell hh] at h1
    exact h1
theorem rd_of_row {w : World} {g : Nat} {cur : Array Value} {l : List UInt8} (h : Blk w g 5 cur) (hc : ∀ j, j < l.length → cur[j]? = some (.int .u8 (nth l j))) : Rd w (some ⟨g, 0, none⟩) l := fun _ =>
  ⟨g, 0, rfl, h.lt, fun j hj => by rw [Nat.zero_add, h.cell, hc j hj]⟩
theorem rd_turned {w : World} {g : Nat} {cur : Array Value} {l : List UInt8} (h : Blk w g 5 cur) (hc : ∀ j, j < l.length → cur[j]? = some (.int .u8 (nth l j))) (q : Nat) (x : UInt8) :
    Rd (w.setCell ⟨g, q, none⟩ (.int .u8 (x.toNat : Int))) (some ⟨g, 0, none⟩) (l.set q x) := by
  refine rd_of_row (h.set_ q _) fun j hj => ?_
  rw [List.length_set] at hj
  have hs : j < cur.size := by
    have := hc j hj
    exact (Array.getElem?_eq_some_iff.1 this).1
  by_cases e : q = j
  · subst e
    simp [hs, nth, hj]
  · rw [Array.getElem?_setIfInBounds_ne e, hc j hj]
    simp [nth, e]
end Go.Proofs.YtfbbgoahipejlabDoor.W
