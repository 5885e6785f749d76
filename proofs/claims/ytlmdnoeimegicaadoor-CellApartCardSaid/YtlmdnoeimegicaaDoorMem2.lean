/- More calls of package cell: Reset, All, New; and the first check of every statement ('lives'), with Why at one error. -/
import Derived.Test.YtlmdnoeimegicaaDoorMem
import Derived.BigFrame
import Derived.RegionTactic
import Derived.Deep.RegionWith
import Derived.OwnWalk
namespace Go.Proofs.YtlmdnoeimegicaaDoor.Cell
open Go.RowKit

/-! ### Reset -/
def zr : List Int → Nat → Nat → List Int
  | l, _, 0 => l
  | l, i, n + 1 => zr (l.set i 0) (i + 1) n
theorem zr_length : ∀ (n i : Nat) (l : List Int), (zr l i n).length = l.length
  | 0, _, _ => rfl
  | n + 1, i, l => by rw [zr, zr_length n]; simp
theorem zr_succ : ∀ (n i : Nat) (l : List Int), zr l i (n + 1) = (zr l i n).set (i + n) 0
  | 0, _, _ => rfl
  | n + 1, i, l => by
    rw [zr, zr_succ n (i + 1) (l.set i 0), zr]
    congr 1; omega
theorem zr_nth : ∀ (n i : Nat) (l : List Int) (j : Nat), j < l.length → nth (zr l i n) j = if i ≤ j ∧ j < i + n then 0 else nth l j
  | 0, i, l, j, h => by rw [zr, if_neg (by omega)]
  | n + 1, i, l, j, h => by
    rw [zr, zr_nth n (i + 1) (l.set i 0) j (by simpa using h)]
    have e : nth (l.set i 0) j = if i = j then 0 else nth l j := by
      unfold nth; simp only [List.getD_eq_getElem?_getD, List.getElem?_set]
      by_cases hij : i = j
      · subst hij; simp [h]
      · simp [hij]
    rw [e]
    by_cases h1 : i + 1 ≤ j ∧ j < i + 1 + n
    · rw [if_pos h1, if_pos (by omega)]
    · rw [if_neg h1]
      by_cases h2 : i = j
      · rw [if_pos h2, if_pos (by omega)]
      · rw [if_neg h2, if_neg (by omega)]
theorem setCells_blk (g : Nat) : ∀ (n i : Nat) (l : List Int) (w : World), Blk w g 3 (ints l) → Blk (w.setCells g i (List.replicate n (.int .i64 0))) g 3 (ints (zr l i n))
  | 0, _, _, _, h => h
  | n + 1, i, l, w, h => by
    rw [List.replicate_succ, World.setCells, zr]
    refine setCells_blk g n (i + 1) (l.set i 0) _ ?_
    have := h.set_ i (.int .i64 0)
    rwa [ints_set] at this
theorem setCells_keep (b g : Nat) (a : World) : ∀ (vs : List Value) (i : Nat) (w : World), Keep b g a w → Keep b g a (w.setCells g i vs)
  | [], _, _, h => h
  | v :: r, i, _, h => setCells_keep b g a r (i + 1) _ (h.setCell_g i v)
theorem setCells_far (g k : Nat) (t : TypeId) (cs : Array Value) (hne : k ≠ g) : ∀ (vs : List Value) (i : Nat) (w : World), Blk w k t cs → Blk (w.setCells g i vs) k t cs
  | [], _, _, h => h
  | v :: r, i, _, h => setCells_far g k t cs hne r (i + 1) _ (h.far (p := ⟨g, i, none⟩) hne v)

theorem zero3 (w : World) : (zeroValue 3).run Tryd.prog w = .ok (.int .i64 0) w := by kernel_rfl

theorem reset_ok {w : World} {b g : Nat} {l : List Int} {c : Int} (hm : MemAt w b g l c) (hl : l.length ≤ 4096) (i n : Nat) (h : i + n ≤ l.length) (hn : 0 < n) :
    Calls Tryd.prog 23 #[.pointer (some ⟨b, 0, none⟩), .int .i64 i, .int .i64 n] w fun e w' => e = .returned (.int .i64 0) ∧ MemAt w' b g (zr l i n) c ∧ Keep b g w w' := by
  have hr : inR l i n = true := decide_eq_true (by omega)
  have HH := Lib.hid hr; clear hr
  have hc0 := hm.head.cell 0
  simp only [List.getElem?_toArray, List.getElem?_cons_zero] at hc0
  have hcl := fun ty => Lib.run_clear_slice (P := Tryd.prog) w 26 3 ty (.int .i64 0) Tryd.underlying26 zero3 rfl rfl g i n (l.length - i) hn (fun j hj => by rw [hm.words.cell, ints_at l (i + j) (by omega)]; rfl) (fun j hj => hm.words.frozen _)
  have hfin : MemAt (w.setCells g i (List.replicate n (.int .i64 0))) b g (zr l i n) c := ⟨by rw [zr_length]; exact setCells_far g b _ _ hm.ne _ _ _ hm.head, setCells_blk g n i l w hm.words⟩
  have HFIN := Lib.hid hfin; clear hfin
  have HK : Hid (Keep b g w (w.setCells g i (List.replicate n (.int .i64 0)))) := setCells_keep b g w _ _ _ (Keep.refl _ _ _)
  generalize w.setCells g i (List.replicate n (.int .i64 0)) = w1 at *
  go_enter Tryd.func23, Tryd.ntmps23
  go_wp2_with (go_at_call 31; refine (reach_ok hm hl i n (by omega) HH.out).mono ?_; rintro e w' ⟨rfl, rfl⟩)
  go_ret
  exact ⟨rfl, HFIN.out, HK.out⟩
theorem clear_none (A : Option Addr) (c : Nat) (ty : TypeId) (w : World) : (Builtin.clear_ #[26] ty #[.slice A 0 c]).run Tryd.prog w = .ok (.tuple #[]) w := by
  cases A <;> simp [Builtin.clear_, run_underlying Tryd.underlying26]
theorem reset_zero {w : World} {b g : Nat} {l : List Int} {c : Int} (hm : MemAt w b g l c) (hl : l.length ≤ 4096) (i : Nat) (h : i ≤ l.length) :
    Calls Tryd.prog 23 #[.pointer (some ⟨b, 0, none⟩), .int .i64 i, .int .i64 0] w fun e w' => e = .returned (.int .i64 0) ∧ MemAt w' b g l c ∧ Keep b g w w' := by
  have hr : inR l i 0 = true := decide_eq_true (by omega)
  have HH := Lib.hid hr; clear hr
  have hc0 := hm.head.cell 0
  simp only [List.getElem?_toArray, List.getElem?_cons_zero] at hc0
  have hcl := clear_none
  by_cases hi : l.length = i
  · subst hi
    go_enter Tryd.func23, Tryd.ntmps23
    go_wp2_with (go_at_call 31; refine (reach_ok hm hl l.length 0 (by omega) HH.out).mono ?_; rintro e w' ⟨rfl, rfl⟩)
    go_ret
    exact ⟨rfl, hm, Keep.refl _ _ _⟩
  · have hlt : i < l.length := by omega
    go_enter Tryd.func23, Tryd.ntmps23
    go_wp2_with (go_at_call 31; refine (reach_ok hm hl i 0 (by omega) HH.out).mono ?_; rintro e w' ⟨rfl, rfl⟩)
    go_ret
    exact ⟨rfl, hm, Keep.refl _ _ _⟩
theorem reset_no {w : World} {b g : Nat} {l : List Int} {c : Int} (hm : MemAt w b g l c) (hg : Et w) (hl : l.length ≤ 4096) (i n : Int) (hi : i ≤ 9223372036854775807) (h : inR l i n = false) :
    Calls Tryd.prog 23 #[.pointer (some ⟨b, 0, none⟩), .int .i64 i, .int .i64 n] w fun e w' => e = .returned (.int .i64 7) ∧ MemAt w' b g l c ∧ Keep b g w w' := by
  have HH := Lib.hid h; clear h
  have HF : Hid (flt 7 i = .iface 64 (.agg #[.iface 34 (.int .i64 7), .int .i64 i])) := rfl
  go_enter Tryd.func23, Tryd.ntmps23
  go_wp2_with (first | (go_at_call 31; refine (reach_no hm hl i n hi HH.out).mono ?_; rintro e w' ⟨rfl, rfl⟩; rw [HF.out]) | (go_at_call 32; refine (code_any 7 i _ hg).mono ?_; rintro e w' ⟨rfl, hb⟩))
  go_ret
  exact ⟨rfl, hm.below_ hb, Keep.of_below hb⟩
theorem reset_nil (i n : Int) (w : World) (hg : Et w) :
    Calls Tryd.prog 23 #[.pointer none, .int .i64 i, .int .i64 n] w fun e w' => e = .returned (.int .i64 7) ∧ Below w.heap.size w w' := by
  have HF : Hid (flt 7 i = .iface 64 (.agg #[.iface 34 (.int .i64 7), .int .i64 i])) := rfl
  go_enter Tryd.func23, Tryd.ntmps23
  go_wp2_with (first | (go_at_call 31; refine (reach_nil i n _).mono ?_; rintro e w' ⟨rfl, rfl⟩; rw [HF.out]) | (go_at_call 32; refine (code_any 7 i _ hg).mono ?_; rintro e w' ⟨rfl, hb⟩))
  go_ret
  exact ⟨rfl, hb⟩
def rsE (l : List Int) (i n : Int) : Int := if inR l i n then 0 else 7
def rsL (l : List Int) (i n : Int) : List Int := if inR l i n then zr l i.toNat n.toNat else l
theorem rsL_length (l : List Int) (i n : Int) : (rsL l i n).length = l.length := by unfold rsL; split <;> simp [zr_length]
theorem reset_any {w : World} {b g : Nat} {l : List Int} {c : Int} (hm : MemAt w b g l c) (hg : Et w) (hl : l.length ≤ 4096) (i n : Int) (hi : i ≤ 9223372036854775807) :
    Calls Tryd.prog 23 #[.pointer (some ⟨b, 0, none⟩), .int .i64 i, .int .i64 n] w fun e w' => e = .returned (.int .i64 (rsE l i n)) ∧ MemAt w' b g (rsL l i n) c ∧ Keep b g w w' := by
  by_cases h : inR l i n = true
  · obtain ⟨h1, h2, h3⟩ := inR_of h
    simp only [rsE, rsL, h, if_true]
    obtain ⟨k, rfl⟩ := Int.eq_ofNat_of_zero_le h1
    obtain ⟨m, rfl⟩ := Int.eq_ofNat_of_zero_le h2
    simp only [Int.toNat_natCast]
    rcases Nat.eq_zero_or_pos m with rfl | hm0
    · exact reset_zero hm hl k (by omega)
    · exact reset_ok hm hl k m (by omega) hm0
  · have h' : inR l i n = false := by simpa using h
    simp only [rsE, rsL, h', if_false, Bool.false_eq_true]
    exact reset_no hm hg hl i n hi h'

/-! ### New -/
theorem info3 : (Tryd.prog.info? 3).map (fun i => (i.zero, i.size, i.bytes)) = some (some (.int .i64 0), 1, 8) := by kernel_rfl
def clampN (n : Int) : Nat := (min (max n 0) 4096).toNat
def zs (k : Nat) : List Int := List.replicate k 0
theorem zs_length (k : Nat) : (zs k).length = k := by simp [zs]
theorem zs_nth (k j : Nat) : nth (zs k) j = 0 := by
  unfold nth zs
  simp only [List.getD_eq_getElem?_getD, List.getElem?_replicate]
  split <;> rfl
theorem made_ints (k : Nat) : madeCells #[Value.int .i64 0] k = ints (zs k) := by
  apply Array.toList_inj.1
  rw [toList_madeCells_one]; simp [ints, zs]
theorem make_run (k : Nat) (hk : k ≤ 4096) (n : Int) (hn : n = k) (w : World) : (Instr.makeSlice 26 (.int .i64 n) (.int .i64 n)).run Tryd.prog w = .ok (.slice (some ⟨w.heap.size, 0, none⟩) k k) (w.alloc (.cells (ints (zs k)) 3)) := by
  have h := run_make_row' (P := Tryd.prog) 26 3 (.int .i64 0) 8 Tryd.underlying26 info3 rfl .i64 .i64 k (by omega) (by omega) w
  rw [made_ints] at h
  rw [hn]; exact h
theorem mem_new (w : World) (k : Nat) : MemAt ((w.alloc (.cells (ints (zs k)) 3)).alloc (.cells #[.slice (some ⟨w.heap.size, 0, none⟩) k k, .int .i64 0] 56)) (w.heap.size + 1) w.heap.size (zs k) 0 := by
  refine ⟨?_, (Blk.new w 3 (ints (zs k))).alloc _⟩
  have := Blk.new (w.alloc (.cells (ints (zs k)) 3)) 56 #[.slice (some ⟨w.heap.size, 0, none⟩) k k, .int .i64 0]
  rw [zs_length]; simpa using this
theorem new_any (n : Int) (w : World) :
    Calls Tryd.prog 12 #[.int .i64 n] w fun e w' => e = .returned (.pointer (some ⟨w.heap.size + 1, 0, none⟩)) ∧ MemAt w' (w.heap.size + 1) w.heap.size (zs (clampN n)) 0 ∧ Below w.heap.size w w' := by
  have key : ∀ k : Nat, MemAt ((w.alloc (.cells (ints (zs k)) 3)).alloc (.cells #[.slice (some ⟨w.heap.size, 0, none⟩) k k, .int .i64 0] 56)) (w.heap.size + 1) w.heap.size (zs k) 0 ∧ Below w.heap.size w ((w.alloc (.cells (ints (zs k)) 3)).alloc (.cells #[.slice (some ⟨w.heap.size, 0, none⟩) k k, .int .i64 0] 56)) := fun k => ⟨mem_new w k, ((Below.refl _ _).alloc (Nat.le_refl _) _).alloc (by simp) _⟩
  have KEY := Lib.hid key; clear key
  by_cases h0 : n < 0
  · have hr := make_run 0 (by omega) 0 rfl
    have HC : Hid (clampN n = 0) := by show clampN n = 0; unfold clampN; omega
    go_enter Tryd.func12, Tryd.ntmps12
    go_wp2
    go_ret
    rw [HC.out]
    exact ⟨rfl, KEY.out 0⟩
  · by_cases h1 : 4096 < n
    · have hr := make_run 4096 (by omega) 4096 rfl
      have HC : Hid (clampN n = 4096) := by show clampN n = 4096; unfold clampN; omega
      go_enter Tryd.func12, Tryd.ntmps12
      go_wp2
      go_ret
      rw [HC.out]
      exact ⟨rfl, KEY.out 4096⟩
    · obtain ⟨k, rfl⟩ := Int.eq_ofNat_of_zero_le (show 0 ≤ n by omega)
      have hr := make_run k (by omega) k rfl
      have HC : Hid (clampN (k : Int) = k) := by show clampN (k : Int) = k; unfold clampN; omega
      go_enter Tryd.func12, Tryd.ntmps12
      go_wp2
      go_ret
      rw [HC.out]
      exact ⟨rfl, KEY.out k⟩

/-! ### All -/
/-- A list of ints in memory of its own, from block B on. -/
def Lst (w : World) (B : Nat) (v : Value) (l : List Int) : Prop := w.ownsRow B 3 1 v l.length (l.map (Value.int .i64))
theorem ints_news {w : World} {g : Nat} {l : List Int} (hb : Blk w g 3 (ints l)) : ∀ j u, (l.map (Value.int .i64))[j]? = some u → w.cell? ((⟨g, 0, none⟩ : Addr).add j) = some u := by
  intro j u hj
  rw [Addr.add_lit, Nat.zero_add, hb.cell]
  unfold ints; simpa using hj
theorem ints_one (l : List Int) : ∀ u ∈ l.map (Value.int .i64), u.oneCell' = true := by
  intro u hu; obtain ⟨x, _, rfl⟩ := List.mem_map.1 hu; rfl
theorem clone_any {w : World} {g : Nat} {l : List Int} (hb : Blk w g 3 (ints l)) (hl : l.length ≤ 4096) :
    Calls Tryd.prog 34 #[.slice (some ⟨g, 0, none⟩) l.length l.length] w fun e w' => ∃ v, e = .returned v ∧ Lst w' w.heap.size v l ∧ Below w.heap.size w w' := by
  obtain ⟨i0, hi, hz0, hz1, hz2⟩ := info_parts info3
  have q := fun (w : World) (a : Option Addr) (n c n' c' : Nat) => Lib.run_eql_slice_nil (P := Tryd.prog) w 26 3 a n c n' c' Tryd.underlying26
  have HB := Lib.hid hb; clear hb
  go_enter Tryd.func34, Tryd.ntmps34
  go_wp2_with (at_builtin; refine wpList_append_own _ rfl _ _ 26 rfl w.heap.size 3 i0 (.int .i64 0) 1 8 Tryd.underlying26 hi hz0 hz1 hz2 rfl (by decide) _ _ _ rfl (World.ownsRow_made w #[] 0 (Nat.le_refl _) (Nat.zero_le _) rfl) ⟨g, 0, none⟩ l.length l.length (l.map (Value.int .i64)) rfl ?qc1 ?qc2 ?qc3 ?qc4 ?qc5 ?qc6 ?_)
  case qc1 => simp
  case qc2 => exact ints_news (HB.out.alloc _)
  case qc3 => exact ints_one l
  case qc4 => unfold maxLen; omega
  case qc5 => omega
  case qc6 => simp
  intro v' w1 hown hgrow hnil
  clear hnil
  go_wp2
  go_ret
  refine ⟨v', rfl, by simpa [Lst] using hown, ?_⟩
  exact ((Below.refl _ w).alloc (Nat.le_refl _) _).grown hgrow (by simp) (by intro k hk; simp [Value.ownBlock] at hk; omega)
/-- What All answers: the words, in new memory. -/
def AllPost (w : World) (l : List Int) (e : Ending) (w' : World) : Prop := ∃ v, e = .returned v ∧ Lst w' w.heap.size v l ∧ Below w.heap.size w w'
theorem all_any {w : World} {b g : Nat} {l : List Int} {c : Int} (hm : MemAt w b g l c) (hl : l.length ≤ 4096) :
    Calls Tryd.prog 27 #[.pointer (some ⟨b, 0, none⟩)] w (AllPost w l) := by
  have hc0 := hm.head.cell 0
  simp only [List.getElem?_toArray, List.getElem?_cons_zero] at hc0
  go_enter Tryd.func27, Tryd.ntmps27
  go_wp2_with (go_at_call 34; refine (clone_any hm.words hl).mono ?_; rintro e w' ⟨v, rfl, hv, hb⟩)
  go_ret
  exact ⟨v, rfl, hv, hb⟩
theorem all_nil (w : World) : Calls Tryd.prog 27 #[.pointer none] w fun e w' => e = .returned (.slice none 0 0) ∧ w = w' := by
  go_enter Tryd.func27, Tryd.ntmps27
  go_wp2
  go_ret
  exact ⟨rfl, rfl⟩

/-! ### Why at 'range', cell 5 -/
noncomputable def errNames : Array Value := #[.string ⟨#[110, 111, 32, 101, 114, 114, 111, 114]⟩, .string ⟨#[110, 111, 32, 97, 99, 116, 105, 111, 110]⟩, .string ⟨#[110, 111, 116, 32, 97, 118, 97, 105, 108, 97, 98, 108, 101]⟩, .string ⟨#[105, 110, 118, 97, 108, 105, 100, 32, 112, 97, 114, 97, 109]⟩, .string ⟨#[105, 110, 118, 97, 108, 105, 100, 32, 99, 111, 110, 102, 105, 103]⟩, .string ⟨#[105, 110, 118, 97, 108, 105, 100, 32, 109, 111, 100, 101]⟩, .string ⟨#[116, 105, 109, 101, 100, 32, 111, 117, 116]⟩, .string ⟨#[114, 97, 110, 103, 101]⟩, .string ⟨#[102, 111, 114, 109]⟩, .string ⟨#[115, 104, 111, 114, 116]⟩, .string ⟨#[102, 117, 108, 108]⟩, .string ⟨#[101, 109, 112, 116, 121]⟩]
theorem errno7 (w : World) : Calls Tryd.prog 64 #[.int .i64 7] w fun e w' => e = .returned (.string ⟨#[114, 97, 110, 103, 101]⟩) ∧ w' = w.alloc (.cells errNames 116) := by
  go_enter Tryd.func64, Tryd.ntmps64
  go_wp2
  go_ret
  exact ⟨rfl, rfl⟩
theorem small5 (w : World) : Calls Tryd.prog 70 #[.int .i64 5] w fun e w' => e = .returned (.string ⟨#[53]⟩) ∧ w = w' := by
  go_enter Tryd.func70, Tryd.ntmps70
  go_wp2
  go_ret
  exact ⟨rfl, rfl⟩
theorem format5 (w : World) : Calls Tryd.prog 69 #[.int .i64 5, .int .i64 10] w fun e w' => e = .returned (.string ⟨#[53]⟩) ∧ w = w' := by
  go_enter Tryd.func69, Tryd.ntmps69
  go_wp2_with (go_at_call 70; refine (small5 _).mono ?_; rintro e w' ⟨rfl, rfl⟩)
  go_ret
  exact ⟨rfl, rfl⟩
theorem itoa5' (w : World) : Calls Tryd.prog 68 #[.int .i64 5] w fun e w' => e = .returned (.string ⟨#[53]⟩) ∧ w = w' := by
  go_enter Tryd.func68, Tryd.ntmps68
  go_wp2_with (go_at_call 69; refine (format5 _).mono ?_; rintro e w' ⟨rfl, rfl⟩)
  go_ret
  exact ⟨rfl, rfl⟩
theorem itoa5 (w : World) : Calls Tryd.prog 67 #[.int .i64 5] w fun e w' => e = .returned (.string ⟨#[53]⟩) ∧ w = w' := by
  go_enter Tryd.func67, Tryd.ntmps67
  go_wp2_with (go_at_call 68; refine (itoa5' _).mono ?_; rintro e w' ⟨rfl, rfl⟩)
  go_ret
  exact ⟨rfl, rfl⟩
theorem error75 (w : World) : Calls Tryd.prog 65 #[.agg #[.iface 34 (.int .i64 7), .int .i64 5]] w fun e w' => e = .returned (.string ⟨#[114, 97, 110, 103, 101, 32, 97, 116, 32, 53]⟩) ∧ Below w.heap.size w w' := by
  have mE := mError34
  go_enter Tryd.func65, Tryd.ntmps65
  go_wp2
  go_region_with (first | (go_at_call 64; refine (errno7 _).mono ?_; rintro e w' ⟨rfl, rfl⟩) | (go_at_call 67; refine (itoa5 _).mono ?_; rintro e w' ⟨rfl, rfl⟩))
  all_goals
    go_wp2
    go_ret
    exact ⟨rfl, (((Below.refl _ _).alloc (Nat.le_refl _) _).alloc (by simp) _).drew⟩
theorem why75 (w : World) : Calls Tryd.prog 28 #[.int .i64 7, .int .i64 5] w fun e w' => e = .returned (.string ⟨#[114, 97, 110, 103, 101, 32, 97, 116, 32, 53]⟩) ∧ Below w.heap.size w w' := by
  have HI := fun w => is_any 7 5 rfl w
  have HH := Lib.hid HI; clear HI
  have mE := mError64
  have HB : Hid (Below w.heap.size w (w.alloc (.cells #[.iface 34 (.int .i64 7), .int .i64 5] 64))) := (Below.refl _ _).alloc (Nat.le_refl _) _
  go_enter Tryd.func28, Tryd.ntmps28
  go_wp2_with (first | (go_at_call 35; refine (HH.out _).mono ?_; rintro e w' ⟨rfl, rfl⟩) | (go_at_call 65; refine (error75 _).mono ?_; rintro e w' ⟨rfl, hb⟩))
  go_ret
  exact ⟨rfl, HB.out.trans (hb.mono (by simp))⟩

/-! ### lives -/
theorem lives_any (w : World) (hg : Et w) : Calls Tryd.prog 11 #[] w fun e w' => e = .returned (.bool true) ∧ Below w.heap.size w w' := by
  go_enter Tryd.func11, Tryd.ntmps11
  go_wp2_with fail
  refine (new_any 3 _).mono ?_
  rintro e w1 ⟨rfl, hm1, hb1⟩
  have g1 := hg.below hb1 hg.pos
  have p0 := hg.pos
  have e3 : clampN 3 = 3 := rfl
  rw [e3] at hm1
  go_wp2_with fail
  refine (write_any hm1 g1 (by decide) (by decide) (by decide) 2 7 (by decide)).mono ?_
  rintro e w2 ⟨rfl, hm2, hk2⟩
  have g2 := g1.keep hk2 (by omega) p0
  rw [show whyC (zs 3) 2 7 = 0 from rfl, show swL (zs 3) 2 7 = [0, 0, 7] from rfl, show swN (zs 3) 2 7 0 = 1 from rfl] at *
  go_wp2_with fail
  refine (swap_any hm2 g2 (by decide) (by decide) (by decide) 2 9 (by decide)).mono ?_
  rintro e w3 ⟨rfl, hm3, hk3⟩
  have g3 := g2.keep hk3 (by omega) p0
  rw [show whyC [0, 0, 7] 2 9 = 0 from rfl, show swL [0, 0, 7] 2 9 = [0, 0, 9] from rfl, show swN [0, 0, 7] 2 9 1 = 2 from rfl, show swV [0, 0, 7] 2 9 = 7 from rfl] at *
  go_wp2_with fail
  refine (read_any hm3 g3 (by decide) (by decide) (by decide) 2 (by decide)).mono ?_
  rintro e w4 ⟨rfl, hm4, hk4⟩
  rw [show whyC [0, 0, 9] 2 0 = 0 from rfl, show rdN [0, 0, 9] 2 2 = 3 from rfl, show rdV [0, 0, 9] 2 = 9 from rfl] at *
  go_wp2_with fail
  refine (count_any hm4).mono ?_
  rintro e w5 ⟨rfl, rfl⟩
  go_wp2_with fail
  refine (why75 _).mono ?_
  rintro e w5 ⟨rfl, hb5⟩
  go_wp2
  go_ret
  have s1 := hm1.head.lt
  have k := (hk2.trans hk3).trans hk4
  exact ⟨rfl, (Below.keep hb1 k (by omega) (by omega) (Nat.le_refl _)).trans (hb5.mono (by have := k.size; omega))⟩
end Go.Proofs.YtlmdnoeimegicaaDoor.Cell
