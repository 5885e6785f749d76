/- Words for memory that holds bytes, and contracts of the smallest calls of package wire: few, Clone, isSize, most. Conditions: none but those that each theorem names. -/
import Derived.Test.YtfbbgoahipejlabDoorGen
import Derived.WalkKit
import Derived.ProofKit
import Derived.OpenShut
import Derived.Below
import Derived.Lib.Hide
import Derived.Laws.OwnMore
import Derived.Laws.Rows
import Derived.Deep.OwnRows
import Derived.Deep.Draws
import Derived.Lib.SliceRun
import Derived.Maps.AppendAt
import Derived.Deep.AppendLies
import Derived.Laws.IdiomStrings
import Derived.OwnWalk
namespace Go.Proofs.YtfbbgoahipejlabDoor.W
open Go.RowKit Go.Proofs.YtfbbgoahipejlabDoor.G

/-! ### Bytes in memory -/
def bv (x : UInt8) : Value := .int .u8 (x.toNat : Int)
def bvs (l : List UInt8) : List Value := l.map bv
def nth (l : List UInt8) (k : Nat) : Int := ((l.getD k 0).toNat : Int)
theorem nth_bd (l : List UInt8) (k : Nat) : 0 ≤ nth l k ∧ nth l k ≤ 255 := by
  unfold nth; have := (l.getD k 0).toNat_lt; omega
theorem bvs_length (l : List UInt8) : (bvs l).length = l.length := by simp [bvs]
theorem bvs_at (l : List UInt8) (k : Nat) (h : k < l.length) : (bvs l)[k]? = some (.int .u8 (nth l k)) := by
  simp [bvs, bv, nth, h]
theorem bvs_one (l : List UInt8) : ∀ u ∈ bvs l, u.oneCell' = true := by
  intro u hu; obtain ⟨x, _, rfl⟩ := List.mem_map.1 hu; rfl
theorem bvs_append (l r : List UInt8) : bvs (l ++ r) = bvs l ++ bvs r := by simp [bvs]

/-- A slice's address under which the bytes lie. -/
def Rd (w : World) (A : Option Addr) (l : List UInt8) : Prop := 0 < l.length → ∃ b o : Nat, A = some ⟨b, o, none⟩ ∧ b < w.heap.size ∧ ∀ j, j < l.length → w.cell? ⟨b, o + j, none⟩ = some (.int .u8 (nth l j))
theorem Rd.none_ {w : World} {A : Option Addr} : Rd w A [] := fun h => absurd h (by simp)
theorem Rd.drewN {w : World} {A : Option Addr} {l : List UInt8} (h : Rd w A l) (n : Nat) : Rd (w.drewN n) A l := h
theorem Rd.below {w w' : World} {A : Option Addr} {l : List UInt8} (h : Rd w A l) (hb : Below w.heap.size w w') : Rd w' A l := fun h0 => by
  obtain ⟨b, o, rfl, hlt, hc⟩ := h h0
  exact ⟨b, o, rfl, Nat.lt_of_lt_of_le hlt hb.size, fun j hj => (hb.cell (p := ⟨b, o + j, none⟩) hlt).trans (hc j hj)⟩
theorem Rd.alloc {w : World} {A : Option Addr} {l : List UInt8} (h : Rd w A l) (o : Obj) : Rd (w.alloc o) A l := h.below ((Below.refl _ _).alloc (Nat.le_refl _) _)
theorem Rd.far {w : World} {A : Option Addr} {l : List UInt8} (h : Rd w A l) {p : Addr} (hp : ∀ b o, A = some ⟨b, o, none⟩ → b ≠ p.block) (u : Value) : Rd (w.setCell p u) A l := fun h0 => by
  obtain ⟨b, o, rfl, hlt, hc⟩ := h h0
  exact ⟨b, o, rfl, by simpa [World.setCell] using hlt, fun j hj => (World.cell?_setCell_other w p ⟨b, o + j, none⟩ u (fun e => hp b o rfl (by rw [e]))).trans (hc j hj)⟩
theorem Rd.at_ {w : World} {A : Option Addr} {l : List UInt8} (h : Rd w A l) {k : Nat} (hk : k < l.length) : ∃ b o : Nat, A = some ⟨b, o, none⟩ ∧ b < w.heap.size ∧ w.cell? ⟨b, o + k, none⟩ = some (.int .u8 (nth l k)) := by
  obtain ⟨b, o, e, hlt, hc⟩ := h (by omega)
  exact ⟨b, o, e, hlt, hc k hk⟩
theorem Rd.take {w : World} {A : Option Addr} {l : List UInt8} (h : Rd w A l) (k : Nat) : Rd w A (l.take k) := fun h0 => by
  obtain ⟨b, o, e, hlt, hc⟩ := h (by simp at h0; omega)
  refine ⟨b, o, e, hlt, fun j hj => ?_⟩
  have hj' : j < k ∧ j < l.length := by simp at hj; omega
  rw [hc j hj'.2]
  simp [nth, hj'.1]
theorem nth_drop (l : List UInt8) (k j : Nat) : nth (l.drop k) j = nth l (k + j) := by simp [nth, List.getElem?_drop]
theorem Rd.drop {w : World} {A : Option Addr} {l : List UInt8} (h : Rd w A l) (k : Nat) {cap : Nat} (hc : l.length ≤ cap) : Rd w (if cap = k then A else A.map (·.add k)) (l.drop k) := fun h0 => by
  simp at h0
  obtain ⟨b, o, rfl, hlt, hcell⟩ := h (by omega)
  rw [if_neg (by omega)]
  refine ⟨b, o + k, ?_, hlt, fun j hj => ?_⟩
  · simp [Addr.add_lit]
  · rw [nth_drop, Nat.add_assoc]
    exact hcell (k + j) (by simp at hj; omega)
theorem Rd.news {w : World} {a : Addr} {l : List UInt8} (h : Rd w (some a) l) : ∀ j u, (bvs l)[j]? = some u → w.cell? (a.add j) = some u := by
  intro j u hj
  have hlt : j < l.length := by
    have := (List.getElem?_eq_some_iff.1 hj).1
    simpa [bvs] using this
  obtain ⟨b, o, e, _, hc⟩ := h.at_ hlt
  injection e with e
  subst e
  rw [Addr.add_lit, hc, ← hj, bvs_at l j hlt]
theorem Rd.nil_ {w : World} {l : List UInt8} (h : Rd w none l) : l = [] := by
  rcases Nat.eq_zero_or_pos l.length with h0 | h0
  · exact List.eq_nil_of_length_eq_zero h0
  · obtain ⟨_, _, e, _⟩ := h h0; cases e

/-- Bytes in memory of their own, from block B on. -/
def Lst (w : World) (B : Nat) (v : Value) (l : List UInt8) : Prop := w.ownsRow B 5 1 v l.length (bvs l)
theorem Lst.rd {w : World} {B : Nat} {v : Value} {l : List UInt8} (h : Lst w B v l) : ∃ A c, v = .slice A l.length c ∧ Rd w A l ∧ l.length ≤ c ∧ c ≤ maxLen ∧ (∀ b o, A = some ⟨b, o, none⟩ → B ≤ b ∧ ∃ cur, Blk w b 5 cur) := by
  rcases h.2 with ⟨rfl, h0⟩ | ⟨g, cap, cur, rfl, hB, hh, hle, hm, hs, ht⟩
  · exact ⟨none, 0, by rw [h0], fun h1 => by omega, by omega, by simp, fun _ _ e => by cases e⟩
  · refine ⟨some ⟨g, 0, none⟩, cap, rfl, fun _ => ⟨g, 0, rfl, ?_, fun j hj => ?_⟩, hle, hm, fun b o e => ?_⟩
    · exact Blk.lt (w := w) (t := 5) (cs := cur) hh
    · have := World.ownsRow.cellAt (g := g) (cap := cap) h j (by omega)
      rw [Nat.zero_add, this, bvs_at l j hj]
    · injection e with e; injection e with e; subst e; exact ⟨hB, cur, hh⟩
theorem Lst.below {w w' : World} {B : Nat} {v : Value} {l : List UInt8} (h : Lst w B v l) (hb : Below w.heap.size w w') : Lst w' B v l := by
  refine ⟨h.1, ?_⟩
  rcases h.2 with h0 | ⟨g, cap, cur, hv, hB, hh, r⟩
  · exact .inl h0
  · refine .inr ⟨g, cap, cur, hv, hB, ?_, r⟩
    rw [hb.block g (Blk.lt (w := w) (t := 5) (cs := cur) hh)]; exact hh
theorem Lst.less {w : World} {B B' : Nat} {v : Value} {l : List UInt8} (h : Lst w B v l) (hB : B' ≤ B) : Lst w B' v l := by
  refine ⟨h.1, ?_⟩
  rcases h.2 with h0 | ⟨g, cap, cur, hv, hB', r⟩
  · exact .inl h0
  · exact .inr ⟨g, cap, cur, hv, by omega, r⟩
theorem Lst.drewN {w : World} {B : Nat} {v : Value} {l : List UInt8} (h : Lst w B v l) (n : Nat) : Lst (w.drewN n) B v l := h
theorem Lst.nil_ (w : World) (B : Nat) : Lst w B (.slice none 0 0) [] := ⟨by simp [bvs], .inl ⟨rfl, rfl⟩⟩

/-- A new list of bytes is answered; of what was there nothing has turned. -/
def NewPost (w : World) (l : List UInt8) (e : Ending) (w' : World) : Prop := ∃ v, e = .returned v ∧ Lst w' w.heap.size v l ∧ Below w.heap.size w w'

theorem info5 : (Tryd.prog.info? 5).map (fun i => (i.zero, i.size, i.bytes)) = some (some (.int .u8 0), 1, 1) := by kernel_rfl

/-! ### Clone -/
theorem clone_any {w : World} {A : Option Addr} {c : Nat} {l : List UInt8} (hr : Rd w A l) (hl : l.length ≤ 4096) :
    Calls Tryd.prog 134 #[.slice A l.length c] w (NewPost w l) := by
  obtain ⟨i0, hi, hz0, hz1, hz2⟩ := info_parts info5
  have q := fun (w : World) (a : Option Addr) (n c n' c' : Nat) => Lib.run_eql_slice_nil (P := Tryd.prog) w 22 5 a n c n' c' Tryd.underlying22
  cases A with
  | none =>
    obtain rfl := hr.nil_
    go_enter Tryd.func134, Tryd.ntmps134
    go_wp2
    go_ret
    exact ⟨_, rfl, Lst.nil_ _ _, Below.refl _ _⟩
  | some a =>
    have HR := Lib.hid (hr.alloc (.cells #[] 5)); clear hr
    go_enter Tryd.func134, Tryd.ntmps134
    go_wp2_with (at_builtin; refine wpList_append_own _ rfl _ _ 22 rfl w.heap.size 5 i0 (.int .u8 0) 1 1 Tryd.underlying22 hi hz0 hz1 hz2 rfl (by decide) _ _ _ rfl (World.ownsRow_made w #[] 0 (Nat.le_refl _) (Nat.zero_le _) rfl) a l.length c (bvs l) rfl ?qc1 ?qc2 ?qc3 ?qc4 ?qc5 ?qc6 ?_)
    case qc1 => simp [bvs_length]
    case qc2 => exact HR.out.news
    case qc3 => exact bvs_one l
    case qc4 => unfold maxLen; omega
    case qc5 => omega
    case qc6 => simp
    intro v' w1 hown hgrow hnil
    clear hnil
    go_wp2
    go_ret
    refine ⟨v', rfl, by simpa [Lst] using hown, ?_⟩
    exact ((Below.refl _ w).alloc (Nat.le_refl _) _).grown hgrow (by simp) (by intro k hk; simp [Value.ownBlock] at hk; omega)

/-! ### isSize, most -/
def sz (n : Int) : Bool := decide (n = 1 ∨ n = 2 ∨ n = 4)
theorem sz_no {n : Int} (h : sz n = false) : n ≠ 1 ∧ n ≠ 2 ∧ n ≠ 4 := by have := of_decide_eq_false h; omega
theorem size_1 (w : World) : Calls Tryd.prog 105 #[.int .i64 1] w fun e w' => e = .returned (.bool true) ∧ w = w' := by
  go_enter Tryd.func105, Tryd.ntmps105
  go_wp2
  go_ret
  exact ⟨rfl, rfl⟩
theorem size_2 (w : World) : Calls Tryd.prog 105 #[.int .i64 2] w fun e w' => e = .returned (.bool true) ∧ w = w' := by
  go_enter Tryd.func105, Tryd.ntmps105
  go_wp2
  go_ret
  exact ⟨rfl, rfl⟩
theorem size_4 (w : World) : Calls Tryd.prog 105 #[.int .i64 4] w fun e w' => e = .returned (.bool true) ∧ w = w' := by
  go_enter Tryd.func105, Tryd.ntmps105
  go_wp2
  go_ret
  exact ⟨rfl, rfl⟩
theorem size_no (n : Int) (h : sz n = false) (w : World) : Calls Tryd.prog 105 #[.int .i64 n] w fun e w' => e = .returned (.bool false) ∧ w = w' := by
  obtain ⟨h1, h2, h4⟩ := sz_no h
  clear h
  have t1 : (n == 1) = false := by simpa using h1
  have t2 : (n == 2) = false := by simpa using h2
  have t4 : (n == 4) = false := by simpa using h4
  clear h1 h2 h4
  go_enter Tryd.func105, Tryd.ntmps105
  go_wp2
  go_ret
  exact ⟨rfl, rfl⟩
theorem most_1 (w : World) : Calls Tryd.prog 93 #[.int .i64 1] w fun e w' => e = .returned (.int .i64 256) ∧ w = w' := by
  go_enter Tryd.func93, Tryd.ntmps93
  go_wp2
  go_ret
  exact ⟨rfl, rfl⟩
theorem most_2 (w : World) : Calls Tryd.prog 93 #[.int .i64 2] w fun e w' => e = .returned (.int .i64 65536) ∧ w = w' := by
  go_enter Tryd.func93, Tryd.ntmps93
  go_wp2
  go_ret
  exact ⟨rfl, rfl⟩
theorem most_4 (w : World) : Calls Tryd.prog 93 #[.int .i64 4] w fun e w' => e = .returned (.int .i64 4294967296) ∧ w = w' := by
  go_enter Tryd.func93, Tryd.ntmps93
  go_wp2
  go_ret
  exact ⟨rfl, rfl⟩
theorem most_no (n : Int) (h : sz n = false) (w : World) : Calls Tryd.prog 93 #[.int .i64 n] w fun e w' => e = .returned (.int .i64 0) ∧ w = w' := by
  obtain ⟨h1, h2, h4⟩ := sz_no h
  clear h
  have t1 : (n == 1) = false := by simpa using h1
  have t2 : (n == 2) = false := by simpa using h2
  have t4 : (n == 4) = false := by simpa using h4
  clear h1 h2 h4
  go_enter Tryd.func93, Tryd.ntmps93
  go_wp2
  go_ret
  exact ⟨rfl, rfl⟩
end Go.Proofs.YtfbbgoahipejlabDoor.W
