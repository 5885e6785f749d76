/- What each call of package cell answers, and leaves in memory: contracts, each against plain functions on a list of words and a count. Conditions: the count is from 0 to 2^40; the library's variable errors.errorType holds what the program's text lays. -/
import Derived.Test.YtppmfmgmlicefabDoorCErr
import Derived.Test.YtppmfmgmlicefabDoorGen
import Derived.Test.YtppmfmgmlicefabDoorF0
namespace Go.Proofs.YtppmfmgmlicefabDoor.Cell
open Go.RowKit Go.Proofs.YtppmfmgmlicefabDoor.G

def ints (l : List Int) : Array Value := (l.map (Value.int .i64)).toArray
theorem ints_at (l : List Int) (k : Nat) (h : k < l.length) : (ints l)[k]? = some (.int .i64 (nth l k)) := by
  unfold ints nth; simp [h]
theorem ints_set (l : List Int) (k : Nat) (v : Int) : (ints l).setIfInBounds k (.int .i64 v) = ints (l.set k v) := by
  unfold ints; simp [List.map_set]

/-- A memory: its struct in block b, its words in block g. -/
structure MemAt (w : World) (b g : Nat) (l : List Int) (n : Int) : Prop where
  head : Blk w b 131 #[.slice (some ⟨g, 0, none⟩) l.length l.length, .int .i64 n]
  words : Blk w g 3 (ints l)
theorem MemAt.ne {w : World} {b g : Nat} {l : List Int} {n : Int} (h : MemAt w b g l n) : b ≠ g := h.head.ne_ h.words (by decide)

/-- Nothing but the blocks b and g has turned. -/
structure Keep (b g : Nat) (w w' : World) : Prop where
  os : w'.os = w.os
  tape : w'.tape = w.tape
  output : w'.output = w.output
  size : w.heap.size ≤ w'.heap.size
  block : ∀ k, k < w.heap.size → k ≠ b → k ≠ g → w'.heap[k]? = w.heap[k]?
theorem Keep.refl (b g : Nat) (w : World) : Keep b g w w := ⟨rfl, rfl, rfl, Nat.le_refl _, fun _ _ _ _ => rfl⟩
theorem Keep.trans {b g : Nat} {x y z : World} (h : Keep b g x y) (k : Keep b g y z) : Keep b g x z :=
  ⟨k.os.trans h.os, k.tape.trans h.tape, k.output.trans h.output, Nat.le_trans h.size k.size, fun i hi h1 h2 => (k.block i (Nat.lt_of_lt_of_le hi h.size) h1 h2).trans (h.block i hi h1 h2)⟩
theorem Keep.of_below {b g : Nat} {w w' : World} (h : Below w.heap.size w w') : Keep b g w w' := ⟨h.os, h.tape, h.output, h.size, fun k hk _ _ => h.block k hk⟩
theorem Keep.setCell_b {b g : Nat} {a w : World} (h : Keep b g a w) (i : Nat) (u : Value) : Keep b g a (w.setCell ⟨b, i, none⟩ u) :=
  h.trans ⟨rfl, rfl, rfl, by simp [World.setCell], fun k _ h1 _ => Below.heap_setCell _ _ _ _ h1⟩
theorem Keep.setCell_g {b g : Nat} {a w : World} (h : Keep b g a w) (i : Nat) (u : Value) : Keep b g a (w.setCell ⟨g, i, none⟩ u) :=
  h.trans ⟨rfl, rfl, rfl, by simp [World.setCell], fun k _ _ h2 => Below.heap_setCell _ _ _ _ h2⟩
theorem Blk.keep {w w' : World} {b g k : Nat} {t : TypeId} {cs : Array Value} (h : Blk w k t cs) (hk : Keep b g w w') (h1 : k ≠ b) (h2 : k ≠ g) : Blk w' k t cs := (hk.block k h.lt h1 h2).trans h
theorem Below.keep {B b g : Nat} {a w w' : World} (h : Below B a w) (hk : Keep b g w w') (hB : B ≤ w.heap.size) (h1 : B ≤ b) (h2 : B ≤ g) : Below B a w' :=
  h.trans ⟨hk.os, hk.tape, hk.output, hk.size, fun k hk' => hk.block k (by omega) (by omega) (by omega)⟩
theorem Et.keep {b g : Nat} {w w' : World} (h : Et w) (hk : Keep b g w w') (h1 : 0 < b) (h2 : 0 < g) : Et w' := by
  unfold Et at h ⊢
  rw [World.cell?_of_block (hk.block 0 (Et.pos h) (by omega) (by omega))]; exact h
theorem MemAt.below {w w' : World} {b g : Nat} {l : List Int} {n : Int} (h : MemAt w b g l n) {B : Nat} (hb : Below B w w') (h1 : b < B) (h2 : g < B) : MemAt w' b g l n := ⟨h.head.below hb h1, h.words.below hb h2⟩
theorem MemAt.below_ {w w' : World} {b g : Nat} {l : List Int} {n : Int} (h : MemAt w b g l n) (hb : Below w.heap.size w w') : MemAt w' b g l n := h.below hb h.head.lt h.words.lt

/-- 'code' of a wrapped return code: the code; of what was there nothing turns. -/
theorem code_any (n i : Int) (w : World) (hg : Et w) :
    Calls Tryd.prog 112 #[flt n i] w fun e w' => e = .returned (.int .i64 n) ∧ Below w.heap.size w w' := by
  have hg1 : Et (w.alloc (.cells #[.int .i64 0] 37)) := hg.alloc _
  have ht : (w.alloc (.cells #[.int .i64 0] 37)).cell? ⟨w.heap.size, 0, none⟩ = some (.int .i64 0) := by simp
  have hf : (w.alloc (.cells #[.int .i64 0] 37)).frozen? ⟨w.heap.size, 0, none⟩ = false := by simp
  have HG := Lib.hid hg1; clear hg1
  have HT := Lib.hid ht; clear ht
  have HF := Lib.hid hf; clear hf
  have HB : Below w.heap.size w (w.alloc (.cells #[.int .i64 0] 37)) := (Below.refl _ _).alloc (Nat.le_refl _) _
  go_enter Tryd.func112, Tryd.ntmps112
  go_wp2_with (go_at_call 118; refine (as_low n i _ _ _ HG.out HT.out HF.out).mono ?_; rintro e w' ⟨rfl, hc, hb⟩)
  go_ret
  exact ⟨rfl, HB.trans hb⟩

def inR (l : List Int) (i n : Int) : Bool := decide (0 ≤ i ∧ 0 ≤ n ∧ n ≤ l.length - i)
theorem inR_of {l : List Int} {i n : Int} (h : inR l i n = true) : 0 ≤ i ∧ 0 ≤ n ∧ n ≤ l.length - i := of_decide_eq_true h
theorem inR_not {l : List Int} {i n : Int} (h : inR l i n = false) : i < 0 ∨ n < 0 ∨ l.length - i < n := by
  have := of_decide_eq_false h; omega

theorem reach_nil (i n : Int) (w : World) : Calls Tryd.prog 111 #[.pointer none, .int .i64 i, .int .i64 n] w fun e w' => e = .returned (flt 7 i) ∧ w = w' := by
  go_enter Tryd.func111, Tryd.ntmps111
  go_wp2
  go_ret
  exact ⟨rfl, rfl⟩
theorem reach_ok {w : World} {b g : Nat} {l : List Int} {c : Int} (hm : MemAt w b g l c) (hl : l.length ≤ 4096) (i n : Int) (hn : n ≤ 9223372036854775807) (h : inR l i n = true) :
    Calls Tryd.prog 111 #[.pointer (some ⟨b, 0, none⟩), .int .i64 i, .int .i64 n] w fun e w' => e = .returned .nilIface ∧ w = w' := by
  obtain ⟨h1, h2, h3⟩ := inR_of h
  have hc := hm.head.cell 0
  simp only [List.getElem?_toArray, List.getElem?_cons_zero] at hc
  clear h
  go_enter Tryd.func111, Tryd.ntmps111
  go_wp2
  go_ret
  exact ⟨rfl, rfl⟩
theorem reach_no {w : World} {b g : Nat} {l : List Int} {c : Int} (hm : MemAt w b g l c) (hl : l.length ≤ 4096) (i n : Int) (hi : i ≤ 9223372036854775807) (h : inR l i n = false) :
    Calls Tryd.prog 111 #[.pointer (some ⟨b, 0, none⟩), .int .i64 i, .int .i64 n] w fun e w' => e = .returned (flt 7 i) ∧ w = w' := by
  have hc := hm.head.cell 0
  simp only [List.getElem?_toArray, List.getElem?_cons_zero] at hc
  by_cases h0 : i < 0
  · clear h
    go_enter Tryd.func111, Tryd.ntmps111
    go_wp2
    go_ret
    exact ⟨rfl, rfl⟩
  · by_cases h1 : n < 0
    · clear h
      go_enter Tryd.func111, Tryd.ntmps111
      go_wp2
      go_ret
      exact ⟨rfl, rfl⟩
    · have h2 : l.length - i < n := by have := inR_not h; omega
      clear h
      go_enter Tryd.func111, Tryd.ntmps111
      go_wp2
      go_ret
      exact ⟨rfl, rfl⟩
theorem takes_nil (i v : Int) (w : World) : Calls Tryd.prog 119 #[.pointer none, .int .i64 i, .int .i64 v] w fun e w' => e = .returned (flt 7 i) ∧ w = w' := by
  have HF : Hid (flt 7 i = .iface 145 (.agg #[.iface 37 (.int .i64 7), .int .i64 i])) := rfl
  go_enter Tryd.func119, Tryd.ntmps119
  go_wp2_with (go_at_call 111; refine (reach_nil i 1 _).mono ?_; rintro e w' ⟨rfl, rfl⟩; rw [HF.out])
  go_ret
  exact ⟨rfl, rfl⟩
theorem takes_range {w : World} {b g : Nat} {l : List Int} {c : Int} (hm : MemAt w b g l c) (hl : l.length ≤ 4096) (i v : Int) (hi : i ≤ 9223372036854775807) (h : inR l i 1 = false) :
    Calls Tryd.prog 119 #[.pointer (some ⟨b, 0, none⟩), .int .i64 i, .int .i64 v] w fun e w' => e = .returned (flt 7 i) ∧ w = w' := by
  have HH := Lib.hid h; clear h
  have HF : Hid (flt 7 i = .iface 145 (.agg #[.iface 37 (.int .i64 7), .int .i64 i])) := rfl
  go_enter Tryd.func119, Tryd.ntmps119
  go_wp2_with (go_at_call 111; refine (reach_no hm hl i 1 hi HH.out).mono ?_; rintro e w' ⟨rfl, rfl⟩; rw [HF.out])
  go_ret
  exact ⟨rfl, rfl⟩
theorem takes_param {w : World} {b g : Nat} {l : List Int} {c : Int} (hm : MemAt w b g l c) (hl : l.length ≤ 4096) (i v : Int) (h : inR l i 1 = true) (hv : okV v = false) :
    Calls Tryd.prog 119 #[.pointer (some ⟨b, 0, none⟩), .int .i64 i, .int .i64 v] w fun e w' => e = .returned (flt 3 i) ∧ w = w' := by
  have HH := Lib.hid h; clear h
  have hv' := of_decide_eq_false hv; clear hv
  by_cases h0 : v < 0
  · clear hv'
    go_enter Tryd.func119, Tryd.ntmps119
    go_wp2_with (go_at_call 111; refine (reach_ok hm hl i 1 (by omega) HH.out).mono ?_; rintro e w' ⟨rfl, rfl⟩)
    go_ret
    exact ⟨rfl, rfl⟩
  · have h1 : 2147483647 < v := by omega
    clear hv'
    go_enter Tryd.func119, Tryd.ntmps119
    go_wp2_with (go_at_call 111; refine (reach_ok hm hl i 1 (by omega) HH.out).mono ?_; rintro e w' ⟨rfl, rfl⟩)
    go_ret
    exact ⟨rfl, rfl⟩
theorem takes_ok {w : World} {b g : Nat} {l : List Int} {c : Int} (hm : MemAt w b g l c) (hl : l.length ≤ 4096) (i v : Int) (h : inR l i 1 = true) (hv : okV v = true) :
    Calls Tryd.prog 119 #[.pointer (some ⟨b, 0, none⟩), .int .i64 i, .int .i64 v] w fun e w' => e = .returned .nilIface ∧ w = w' := by
  have HH := Lib.hid h; clear h
  obtain ⟨h0, h1⟩ := of_decide_eq_true hv; clear hv
  go_enter Tryd.func119, Tryd.ntmps119
  go_wp2_with (go_at_call 111; refine (reach_ok hm hl i 1 (by omega) HH.out).mono ?_; rintro e w' ⟨rfl, rfl⟩)
  go_ret
  exact ⟨rfl, rfl⟩

theorem read_ok {w : World} {b g : Nat} {l : List Int} {c : Int} (hm : MemAt w b g l c) (hl : l.length ≤ 4096) (c0 : 0 ≤ c) (c1 : c ≤ 1099511627776) (k : Nat) (hk : k < l.length) :
    Calls Tryd.prog 114 #[.pointer (some ⟨b, 0, none⟩), .int .i64 k] w fun e w' => e = .returned (.tuple #[.int .i64 (nth l k), .int .i64 0]) ∧ MemAt w' b g l (c + 1) ∧ Keep b g w w' := by
  have hr : inR l k 1 = true := decide_eq_true (by omega)
  have HH := Lib.hid hr; clear hr
  have hc0 := hm.head.cell 0
  have hc1 := hm.head.cell 1
  have hf1 := hm.head.frozen 1
  simp only [List.getElem?_toArray, List.getElem?_cons_zero, List.getElem?_cons_succ] at hc0 hc1
  have hw := (hm.words.cell k).trans (ints_at l k hk)
  have hne := hm.ne
  have hfin : MemAt (w.setCell ⟨b, 1, none⟩ (.int .i64 (c + 1))) b g l (c + 1) := ⟨by simpa using hm.head.set_ 1 (.int .i64 (c + 1)), hm.words.far (fun e => hne e.symm) _⟩
  have HFIN := Lib.hid hfin; clear hfin
  go_enter Tryd.func114, Tryd.ntmps114
  go_wp2_with (go_at_call 111; refine (reach_ok hm hl k 1 (by omega) HH.out).mono ?_; rintro e w' ⟨rfl, rfl⟩)
  go_ret2
  exact ⟨rfl, HFIN.out, (Keep.refl b g w).setCell_b 1 _⟩
theorem read_no {w : World} {b g : Nat} {l : List Int} {c : Int} (hm : MemAt w b g l c) (hg : Et w) (hl : l.length ≤ 4096) (i : Int) (hi : i ≤ 9223372036854775807) (h : inR l i 1 = false) :
    Calls Tryd.prog 114 #[.pointer (some ⟨b, 0, none⟩), .int .i64 i] w fun e w' => e = .returned (.tuple #[.int .i64 0, .int .i64 7]) ∧ MemAt w' b g l c ∧ Keep b g w w' := by
  have HH := Lib.hid h; clear h
  have HF : Hid (flt 7 i = .iface 145 (.agg #[.iface 37 (.int .i64 7), .int .i64 i])) := rfl
  go_enter Tryd.func114, Tryd.ntmps114
  go_wp2_with (first | (go_at_call 111; refine (reach_no hm hl i 1 hi HH.out).mono ?_; rintro e w' ⟨rfl, rfl⟩; rw [HF.out]) | (go_at_call 112; refine (code_any 7 i _ hg).mono ?_; rintro e w' ⟨rfl, hb⟩))
  go_ret2
  exact ⟨rfl, hm.below_ hb, Keep.of_below hb⟩
theorem read_nil (i : Int) (w : World) (hg : Et w) :
    Calls Tryd.prog 114 #[.pointer none, .int .i64 i] w fun e w' => e = .returned (.tuple #[.int .i64 0, .int .i64 7]) ∧ Below w.heap.size w w' := by
  have HF : Hid (flt 7 i = .iface 145 (.agg #[.iface 37 (.int .i64 7), .int .i64 i])) := rfl
  go_enter Tryd.func114, Tryd.ntmps114
  go_wp2_with (first | (go_at_call 111; refine (reach_nil i 1 _).mono ?_; rintro e w' ⟨rfl, rfl⟩; rw [HF.out]) | (go_at_call 112; refine (code_any 7 i _ hg).mono ?_; rintro e w' ⟨rfl, hb⟩))
  go_ret2
  exact ⟨rfl, hb⟩

theorem swap_ok {w : World} {b g : Nat} {l : List Int} {c : Int} (hm : MemAt w b g l c) (hl : l.length ≤ 4096) (c0 : 0 ≤ c) (c1 : c ≤ 1099511627776) (k : Nat) (hk : k < l.length) (v : Int) (hv : okV v = true) :
    Calls Tryd.prog 113 #[.pointer (some ⟨b, 0, none⟩), .int .i64 k, .int .i64 v] w fun e w' => e = .returned (.tuple #[.int .i64 (nth l k), .int .i64 0]) ∧ MemAt w' b g (l.set k v) (c + 1) ∧ Keep b g w w' := by
  have hr : inR l k 1 = true := decide_eq_true (by omega)
  have HH := Lib.hid hr; clear hr
  have HV := Lib.hid hv; clear hv
  have hc0 := hm.head.cell 0
  have hc1 := hm.head.cell 1
  have hf1 := hm.head.frozen 1
  simp only [List.getElem?_toArray, List.getElem?_cons_zero, List.getElem?_cons_succ] at hc0 hc1
  have hw := (hm.words.cell k).trans (ints_at l k hk)
  have hfw := hm.words.frozen k
  have hne := hm.ne
  have hfin : MemAt ((w.setCell ⟨b, 1, none⟩ (.int .i64 (c + 1))).setCell ⟨g, k, none⟩ (.int .i64 v)) b g (l.set k v) (c + 1) := by
    have h1 : Blk (w.setCell ⟨b, 1, none⟩ (.int .i64 (c + 1))) b 131 #[.slice (some ⟨g, 0, none⟩) l.length l.length, .int .i64 (c + 1)] := by simpa using hm.head.set_ 1 (.int .i64 (c + 1))
    have h2 := (hm.words.far (p := ⟨b, 1, none⟩) (fun e => hne e.symm) (.int .i64 (c + 1))).set_ k (.int .i64 v)
    rw [ints_set] at h2
    exact ⟨by simpa using h1.far (p := ⟨g, k, none⟩) hne (.int .i64 v), h2⟩
  have HFIN := Lib.hid hfin; clear hfin
  go_enter Tryd.func113, Tryd.ntmps113
  go_wp2_with (go_at_call 119; refine (takes_ok hm hl k v HH.out HV.out).mono ?_; rintro e w' ⟨rfl, rfl⟩)
  go_ret2
  exact ⟨rfl, HFIN.out, ((Keep.refl b g w).setCell_b 1 _).setCell_g k _⟩
theorem swap_range {w : World} {b g : Nat} {l : List Int} {c : Int} (hm : MemAt w b g l c) (hg : Et w) (hl : l.length ≤ 4096) (i v : Int) (hi : i ≤ 9223372036854775807) (h : inR l i 1 = false) :
    Calls Tryd.prog 113 #[.pointer (some ⟨b, 0, none⟩), .int .i64 i, .int .i64 v] w fun e w' => e = .returned (.tuple #[.int .i64 0, .int .i64 7]) ∧ MemAt w' b g l c ∧ Keep b g w w' := by
  have HH := Lib.hid h; clear h
  have HF : Hid (flt 7 i = .iface 145 (.agg #[.iface 37 (.int .i64 7), .int .i64 i])) := rfl
  go_enter Tryd.func113, Tryd.ntmps113
  go_wp2_with (first | (go_at_call 119; refine (takes_range hm hl i v hi HH.out).mono ?_; rintro e w' ⟨rfl, rfl⟩; rw [HF.out]) | (go_at_call 112; refine (code_any 7 i _ hg).mono ?_; rintro e w' ⟨rfl, hb⟩))
  go_ret2
  exact ⟨rfl, hm.below_ hb, Keep.of_below hb⟩
theorem swap_param {w : World} {b g : Nat} {l : List Int} {c : Int} (hm : MemAt w b g l c) (hg : Et w) (hl : l.length ≤ 4096) (i v : Int) (h : inR l i 1 = true) (hv : okV v = false) :
    Calls Tryd.prog 113 #[.pointer (some ⟨b, 0, none⟩), .int .i64 i, .int .i64 v] w fun e w' => e = .returned (.tuple #[.int .i64 0, .int .i64 3]) ∧ MemAt w' b g l c ∧ Keep b g w w' := by
  have HH := Lib.hid h; clear h
  have HV := Lib.hid hv; clear hv
  have HF : Hid (flt 3 i = .iface 145 (.agg #[.iface 37 (.int .i64 3), .int .i64 i])) := rfl
  go_enter Tryd.func113, Tryd.ntmps113
  go_wp2_with (first | (go_at_call 119; refine (takes_param hm hl i v HH.out HV.out).mono ?_; rintro e w' ⟨rfl, rfl⟩; rw [HF.out]) | (go_at_call 112; refine (code_any 3 i _ hg).mono ?_; rintro e w' ⟨rfl, hb⟩))
  go_ret2
  exact ⟨rfl, hm.below_ hb, Keep.of_below hb⟩
theorem swap_nil (i v : Int) (w : World) (hg : Et w) :
    Calls Tryd.prog 113 #[.pointer none, .int .i64 i, .int .i64 v] w fun e w' => e = .returned (.tuple #[.int .i64 0, .int .i64 7]) ∧ Below w.heap.size w w' := by
  have HF : Hid (flt 7 i = .iface 145 (.agg #[.iface 37 (.int .i64 7), .int .i64 i])) := rfl
  go_enter Tryd.func113, Tryd.ntmps113
  go_wp2_with (first | (go_at_call 119; refine (takes_nil i v _).mono ?_; rintro e w' ⟨rfl, rfl⟩; rw [HF.out]) | (go_at_call 112; refine (code_any 7 i _ hg).mono ?_; rintro e w' ⟨rfl, hb⟩))
  go_ret2
  exact ⟨rfl, hb⟩

def whyC (l : List Int) (i v : Int) : Int := if inR l i 1 then (if okV v then 0 else 3) else 7
def rdV (l : List Int) (i : Int) : Int := if inR l i 1 then nth l i.toNat else 0
def rdN (l : List Int) (i c : Int) : Int := if inR l i 1 then c + 1 else c
def swV (l : List Int) (i v : Int) : Int := if inR l i 1 && okV v then nth l i.toNat else 0
def swL (l : List Int) (i v : Int) : List Int := if inR l i 1 && okV v then l.set i.toNat v else l
def swN (l : List Int) (i v c : Int) : Int := if inR l i 1 && okV v then c + 1 else c
theorem swL_length (l : List Int) (i v : Int) : (swL l i v).length = l.length := by unfold swL; split <;> simp
theorem swN_bd (l : List Int) (i v c : Int) : c ≤ swN l i v c ∧ swN l i v c ≤ c + 1 := by unfold swN; split <;> omega
theorem rdN_bd (l : List Int) (i c : Int) : c ≤ rdN l i c ∧ rdN l i c ≤ c + 1 := by unfold rdN; split <;> omega

theorem read_any {w : World} {b g : Nat} {l : List Int} {c : Int} (hm : MemAt w b g l c) (hg : Et w) (hl : l.length ≤ 4096) (c0 : 0 ≤ c) (c1 : c ≤ 1099511627776) (i : Int) (hi : i ≤ 9223372036854775807) :
    Calls Tryd.prog 114 #[.pointer (some ⟨b, 0, none⟩), .int .i64 i] w fun e w' => e = .returned (.tuple #[.int .i64 (rdV l i), .int .i64 (whyC l i 0)]) ∧ MemAt w' b g l (rdN l i c) ∧ Keep b g w w' := by
  by_cases h : inR l i 1 = true
  · obtain ⟨h1, h2, h3⟩ := inR_of h
    obtain ⟨k, rfl⟩ := Int.eq_ofNat_of_zero_le h1
    have := read_ok hm hl c0 c1 k (by omega)
    simp only [rdV, rdN, whyC, h, if_true, show okV 0 = true from rfl, Int.toNat_natCast]
    exact this
  · have h' : inR l i 1 = false := by simpa using h
    have := read_no hm hg hl i hi h'
    simp only [rdV, rdN, whyC, h', if_false, Bool.false_eq_true]
    exact this
theorem swap_any {w : World} {b g : Nat} {l : List Int} {c : Int} (hm : MemAt w b g l c) (hg : Et w) (hl : l.length ≤ 4096) (c0 : 0 ≤ c) (c1 : c ≤ 1099511627776) (i v : Int) (hi : i ≤ 9223372036854775807) :
    Calls Tryd.prog 113 #[.pointer (some ⟨b, 0, none⟩), .int .i64 i, .int .i64 v] w fun e w' => e = .returned (.tuple #[.int .i64 (swV l i v), .int .i64 (whyC l i v)]) ∧ MemAt w' b g (swL l i v) (swN l i v c) ∧ Keep b g w w' := by
  by_cases h : inR l i 1 = true
  · by_cases hv : okV v = true
    · obtain ⟨h1, h2, h3⟩ := inR_of h
      obtain ⟨k, rfl⟩ := Int.eq_ofNat_of_zero_le h1
      have := swap_ok hm hl c0 c1 k (by omega) v hv
      simp only [swV, swN, swL, whyC, h, hv, if_true, Bool.and_self, Int.toNat_natCast]
      exact this
    · have hv' : okV v = false := by simpa using hv
      have := swap_param hm hg hl i v h hv'
      simp only [swV, swN, swL, whyC, h, hv', if_true, if_false, Bool.and_false, Bool.false_eq_true]
      exact this
  · have h' : inR l i 1 = false := by simpa using h
    have := swap_range hm hg hl i v hi h'
    simp only [swV, swN, swL, whyC, h', if_false, Bool.false_and, Bool.false_eq_true]
    exact this
theorem write_any {w : World} {b g : Nat} {l : List Int} {c : Int} (hm : MemAt w b g l c) (hg : Et w) (hl : l.length ≤ 4096) (c0 : 0 ≤ c) (c1 : c ≤ 1099511627776) (i v : Int) (hi : i ≤ 9223372036854775807) :
    Calls Tryd.prog 90 #[.pointer (some ⟨b, 0, none⟩), .int .i64 i, .int .i64 v] w fun e w' => e = .returned (.int .i64 (whyC l i v)) ∧ MemAt w' b g (swL l i v) (swN l i v c) ∧ Keep b g w w' := by
  go_enter Tryd.func90, Tryd.ntmps90
  go_wp2_with (go_at_call 113; refine (swap_any hm hg hl c0 c1 i v hi).mono ?_; rintro e w' ⟨rfl, hm', hk⟩)
  go_ret
  exact ⟨rfl, hm', hk⟩
theorem write_nil (i v : Int) (w : World) (hg : Et w) :
    Calls Tryd.prog 90 #[.pointer none, .int .i64 i, .int .i64 v] w fun e w' => e = .returned (.int .i64 7) ∧ Below w.heap.size w w' := by
  go_enter Tryd.func90, Tryd.ntmps90
  go_wp2_with (go_at_call 113; refine (swap_nil i v _ hg).mono ?_; rintro e w' ⟨rfl, hb⟩)
  go_ret
  exact ⟨rfl, hb⟩
end Go.Proofs.YtppmfmgmlicefabDoor.Cell
