/- More calls of package cell: Len, Count, Reset; and the first check of every statement of stage 2 ('lives'), with Why at one error. -/
import Derived.Test.YthkpopphefolmaaDoorCNew
import Derived.Test.YthkpopphefolmaaDoorCErr2
namespace Go.Proofs.YthkpopphefolmaaDoor.Cell
open Go.RowKit Go.Proofs.YthkpopphefolmaaDoor.G

theorem len_any {w : World} {b g : Nat} {l : List Int} {c : Int} (hm : MemAt w b g l c) :
    Calls Tryd.prog 30 #[.pointer (some ⟨b, 0, none⟩)] w fun e w' => e = .returned (.int .i64 l.length) ∧ w = w' := by
  have hc := hm.head.cell 0
  simp only [List.getElem?_toArray, List.getElem?_cons_zero] at hc
  go_enter Tryd.func30, Tryd.ntmps30
  go_wp2
  go_ret
  exact ⟨rfl, rfl⟩
theorem count_any {w : World} {b g : Nat} {l : List Int} {c : Int} (hm : MemAt w b g l c) :
    Calls Tryd.prog 31 #[.pointer (some ⟨b, 0, none⟩)] w fun e w' => e = .returned (.int .i64 c) ∧ w = w' := by
  have hc := hm.head.cell 1
  simp only [List.getElem?_toArray, List.getElem?_cons_zero, List.getElem?_cons_succ] at hc
  go_enter Tryd.func31, Tryd.ntmps31
  go_wp2
  go_ret
  exact ⟨rfl, rfl⟩
theorem len_nil (w : World) : Calls Tryd.prog 30 #[.pointer none] w fun e w' => e = .returned (.int .i64 0) ∧ w = w' := by
  go_enter Tryd.func30, Tryd.ntmps30
  go_wp2
  go_ret
  exact ⟨rfl, rfl⟩
theorem count_nil (w : World) : Calls Tryd.prog 31 #[.pointer none] w fun e w' => e = .returned (.int .i64 0) ∧ w = w' := by
  go_enter Tryd.func31, Tryd.ntmps31
  go_wp2
  go_ret
  exact ⟨rfl, rfl⟩

def zr : List Int → Nat → Nat → List Int
  | l, _, 0 => l
  | l, i, n + 1 => zr (l.set i 0) (i + 1) n
theorem zr_length : ∀ (n i : Nat) (l : List Int), (zr l i n).length = l.length
  | 0, _, _ => rfl
  | n + 1, i, l => by rw [zr, zr_length n]; simp
theorem zr_succ : ∀ (n i : Nat) (l : List Int), zr l i (n + 1) = (zr l i n).set (i + n) 0
  | 0, _, _ => rfl
  | n + 1, i, l => by
    rw [zr, zr_succ n (i + 1) (l.set i 0), zr]
    congr 1; omega
theorem zr_nth : ∀ (n i : Nat) (l : List Int) (j : Nat), j < l.length → nth (zr l i n) j = if i ≤ j ∧ j < i + n then 0 else nth l j
  | 0, i, l, j, h => by rw [zr, if_neg (by omega)]
  | n + 1, i, l, j, h => by
    rw [zr, zr_nth n (i + 1) (l.set i 0) j (by simpa using h)]
    have e : nth (l.set i 0) j = if i = j then 0 else nth l j := by
      unfold nth; simp only [List.getD_eq_getElem?_getD, List.getElem?_set]
      by_cases hij : i = j
      · subst hij; simp [h]
      · simp [hij]
    rw [e]
    by_cases h1 : i + 1 ≤ j ∧ j < i + 1 + n
    · rw [if_pos h1, if_pos (by omega)]
    · rw [if_neg h1]
      by_cases h2 : i = j
      · rw [if_pos h2, if_pos (by omega)]
      · rw [if_neg h2, if_neg (by omega)]
theorem setCells_blk (g : Nat) : ∀ (n i : Nat) (l : List Int) (w : World), Blk w g 3 (ints l) → Blk (w.setCells g i (List.replicate n (.int .i64 0))) g 3 (ints (zr l i n))
  | 0, _, _, _, h => h
  | n + 1, i, l, w, h => by
    rw [List.replicate_succ, World.setCells, zr]
    refine setCells_blk g n (i + 1) (l.set i 0) _ ?_
    have := h.set_ i (.int .i64 0)
    rwa [ints_set] at this
theorem setCells_keep (b g : Nat) (a : World) : ∀ (vs : List Value) (i : Nat) (w : World), Keep b g a w → Keep b g a (w.setCells g i vs)
  | [], _, _, h => h
  | v :: r, i, _, h => setCells_keep b g a r (i + 1) _ (h.setCell_g i v)
theorem setCells_far (g k : Nat) (t : TypeId) (cs : Array Value) (hne : k ≠ g) : ∀ (vs : List Value) (i : Nat) (w : World), Blk w k t cs → Blk (w.setCells g i vs) k t cs
  | [], _, _, h => h
  | v :: r, i, _, h => setCells_far g k t cs hne r (i + 1) _ (h.far (p := ⟨g, i, none⟩) hne v)

theorem reset_ok {w : World} {b g : Nat} {l : List Int} {c : Int} (hm : MemAt w b g l c) (hl : l.length ≤ 4096) (i n : Nat) (h : i + n ≤ l.length) (hn : 0 < n) :
    Calls Tryd.prog 29 #[.pointer (some ⟨b, 0, none⟩), .int .i64 i, .int .i64 n] w fun e w' => e = .returned (.int .i64 0) ∧ MemAt w' b g (zr l i n) c ∧ Keep b g w w' := by
  have hr : inR l i n = true := decide_eq_true (by omega)
  have HH := Lib.hid hr; clear hr
  have hc0 := hm.head.cell 0
  simp only [List.getElem?_toArray, List.getElem?_cons_zero] at hc0
  have hcl := fun ty => Lib.run_clear_slice (P := Tryd.prog) w 26 3 ty (.int .i64 0) Tryd.underlying26 zero3 rfl rfl g i n (l.length - i) hn (fun j hj => by rw [hm.words.cell, ints_at l (i + j) (by omega)]; rfl) (fun j hj => hm.words.frozen _)
  have hfin : MemAt (w.setCells g i (List.replicate n (.int .i64 0))) b g (zr l i n) c := ⟨by rw [zr_length]; exact setCells_far g b _ _ hm.ne _ _ _ hm.head, setCells_blk g n i l w hm.words⟩
  have HFIN := Lib.hid hfin; clear hfin
  have HK : Hid (Keep b g w (w.setCells g i (List.replicate n (.int .i64 0)))) := setCells_keep b g w _ _ _ (Keep.refl _ _ _)
  generalize w.setCells g i (List.replicate n (.int .i64 0)) = w1 at *
  go_enter Tryd.func29, Tryd.ntmps29
  go_wp2_with (go_at_call 71; refine (reach_ok hm hl i n (by omega) HH.out).mono ?_; rintro e w' ⟨rfl, rfl⟩)
  go_ret
  exact ⟨rfl, HFIN.out, HK.out⟩
theorem clear_none (A : Option Addr) (c : Nat) (ty : TypeId) (w : World) : (Builtin.clear_ #[26] ty #[.slice A 0 c]).run Tryd.prog w = .ok (.tuple #[]) w := by
  cases A <;> simp [Builtin.clear_, run_underlying Tryd.underlying26]
theorem reset_zero {w : World} {b g : Nat} {l : List Int} {c : Int} (hm : MemAt w b g l c) (hl : l.length ≤ 4096) (i : Nat) (h : i ≤ l.length) :
    Calls Tryd.prog 29 #[.pointer (some ⟨b, 0, none⟩), .int .i64 i, .int .i64 0] w fun e w' => e = .returned (.int .i64 0) ∧ MemAt w' b g l c ∧ Keep b g w w' := by
  have hr : inR l i 0 = true := decide_eq_true (by omega)
  have HH := Lib.hid hr; clear hr
  have hc0 := hm.head.cell 0
  simp only [List.getElem?_toArray, List.getElem?_cons_zero] at hc0
  have hcl := clear_none
  by_cases hi : l.length = i
  · subst hi
    go_enter Tryd.func29, Tryd.ntmps29
    go_wp2_with (go_at_call 71; refine (reach_ok hm hl l.length 0 (by omega) HH.out).mono ?_; rintro e w' ⟨rfl, rfl⟩)
    go_ret
    exact ⟨rfl, hm, Keep.refl _ _ _⟩
  · have hlt : i < l.length := by omega
    go_enter Tryd.func29, Tryd.ntmps29
    go_wp2_with (go_at_call 71; refine (reach_ok hm hl i 0 (by omega) HH.out).mono ?_; rintro e w' ⟨rfl, rfl⟩)
    go_ret
    exact ⟨rfl, hm, Keep.refl _ _ _⟩
theorem reset_no {w : World} {b g : Nat} {l : List Int} {c : Int} (hm : MemAt w b g l c) (hg : Et w) (hl : l.length ≤ 4096) (i n : Int) (hi : i ≤ 9223372036854775807) (h : inR l i n = false) :
    Calls Tryd.prog 29 #[.pointer (some ⟨b, 0, none⟩), .int .i64 i, .int .i64 n] w fun e w' => e = .returned (.int .i64 7) ∧ MemAt w' b g l c ∧ Keep b g w w' := by
  have HH := Lib.hid h; clear h
  have HF : Hid (flt 7 i = .iface 163 (.agg #[.iface 34 (.int .i64 7), .int .i64 i])) := rfl
  go_enter Tryd.func29, Tryd.ntmps29
  go_wp2_with (first | (go_at_call 71; refine (reach_no hm hl i n hi HH.out).mono ?_; rintro e w' ⟨rfl, rfl⟩; rw [HF.out]) | (go_at_call 72; refine (code_any 7 i _ hg).mono ?_; rintro e w' ⟨rfl, hb⟩))
  go_ret
  exact ⟨rfl, hm.below_ hb, Keep.of_below hb⟩
theorem reset_nil (i n : Int) (w : World) (hg : Et w) :
    Calls Tryd.prog 29 #[.pointer none, .int .i64 i, .int .i64 n] w fun e w' => e = .returned (.int .i64 7) ∧ Below w.heap.size w w' := by
  have HF : Hid (flt 7 i = .iface 163 (.agg #[.iface 34 (.int .i64 7), .int .i64 i])) := rfl
  go_enter Tryd.func29, Tryd.ntmps29
  go_wp2_with (first | (go_at_call 71; refine (reach_nil i n _).mono ?_; rintro e w' ⟨rfl, rfl⟩; rw [HF.out]) | (go_at_call 72; refine (code_any 7 i _ hg).mono ?_; rintro e w' ⟨rfl, hb⟩))
  go_ret
  exact ⟨rfl, hb⟩
def rsE (l : List Int) (i n : Int) : Int := if inR l i n then 0 else 7
def rsL (l : List Int) (i n : Int) : List Int := if inR l i n then zr l i.toNat n.toNat else l
theorem rsL_length (l : List Int) (i n : Int) : (rsL l i n).length = l.length := by unfold rsL; split <;> simp [zr_length]
theorem reset_any {w : World} {b g : Nat} {l : List Int} {c : Int} (hm : MemAt w b g l c) (hg : Et w) (hl : l.length ≤ 4096) (i n : Int) (hi : i ≤ 9223372036854775807) :
    Calls Tryd.prog 29 #[.pointer (some ⟨b, 0, none⟩), .int .i64 i, .int .i64 n] w fun e w' => e = .returned (.int .i64 (rsE l i n)) ∧ MemAt w' b g (rsL l i n) c ∧ Keep b g w w' := by
  by_cases h : inR l i n = true
  · obtain ⟨h1, h2, h3⟩ := inR_of h
    simp only [rsE, rsL, h, if_true]
    obtain ⟨k, rfl⟩ := Int.eq_ofNat_of_zero_le h1
    obtain ⟨m, rfl⟩ := Int.eq_ofNat_of_zero_le h2
    simp only [Int.toNat_natCast]
    rcases Nat.eq_zero_or_pos m with rfl | hm0
    · exact reset_zero hm hl k (by omega)
    · exact reset_ok hm hl k m (by omega) hm0
  · have h' : inR l i n = false := by simpa using h
    simp only [rsE, rsL, h', if_false, Bool.false_eq_true]
    exact reset_no hm hg hl i n hi h'

noncomputable def errNames : Array Value := #[.string ⟨#[110, 111, 32, 101, 114, 114, 111, 114]⟩, .string ⟨#[110, 111, 32, 97, 99, 116, 105, 111, 110]⟩, .string ⟨#[110, 111, 116, 32, 97, 118, 97, 105, 108, 97, 98, 108, 101]⟩, .string ⟨#[105, 110, 118, 97, 108, 105, 100, 32, 112, 97, 114, 97, 109]⟩, .string ⟨#[105, 110, 118, 97, 108, 105, 100, 32, 99, 111, 110, 102, 105, 103]⟩, .string ⟨#[105, 110, 118, 97, 108, 105, 100, 32, 109, 111, 100, 101]⟩, .string ⟨#[116, 105, 109, 101, 100, 32, 111, 117, 116]⟩, .string ⟨#[114, 97, 110, 103, 101]⟩, .string ⟨#[102, 111, 114, 109]⟩, .string ⟨#[115, 104, 111, 114, 116]⟩, .string ⟨#[102, 117, 108, 108]⟩, .string ⟨#[101, 109, 112, 116, 121]⟩]
theorem errno7 (w : World) : Calls Tryd.prog 175 #[.int .i64 7] w fun e w' => e = .returned (.string ⟨#[114, 97, 110, 103, 101]⟩) ∧ w' = w.alloc (.cells errNames 246) := by
  go_enter Tryd.func175, Tryd.ntmps175
  go_wp2
  go_ret
  exact ⟨rfl, rfl⟩
theorem small5 (w : World) : Calls Tryd.prog 181 #[.int .i64 5] w fun e w' => e = .returned (.string ⟨#[53]⟩) ∧ w = w' := by
  go_enter Tryd.func181, Tryd.ntmps181
  go_wp2
  go_ret
  exact ⟨rfl, rfl⟩
theorem format5 (w : World) : Calls Tryd.prog 180 #[.int .i64 5, .int .i64 10] w fun e w' => e = .returned (.string ⟨#[53]⟩) ∧ w = w' := by
  go_enter Tryd.func180, Tryd.ntmps180
  go_wp2_with (go_at_call 181; refine (small5 _).mono ?_; rintro e w' ⟨rfl, rfl⟩)
  go_ret
  exact ⟨rfl, rfl⟩
theorem itoa5' (w : World) : Calls Tryd.prog 179 #[.int .i64 5] w fun e w' => e = .returned (.string ⟨#[53]⟩) ∧ w = w' := by
  go_enter Tryd.func179, Tryd.ntmps179
  go_wp2_with (go_at_call 180; refine (format5 _).mono ?_; rintro e w' ⟨rfl, rfl⟩)
  go_ret
  exact ⟨rfl, rfl⟩
theorem itoa5 (w : World) : Calls Tryd.prog 178 #[.int .i64 5] w fun e w' => e = .returned (.string ⟨#[53]⟩) ∧ w = w' := by
  go_enter Tryd.func178, Tryd.ntmps178
  go_wp2_with (go_at_call 179; refine (itoa5' _).mono ?_; rintro e w' ⟨rfl, rfl⟩)
  go_ret
  exact ⟨rfl, rfl⟩
theorem error75 (w : World) : Calls Tryd.prog 176 #[.agg #[.iface 34 (.int .i64 7), .int .i64 5]] w fun e w' => e = .returned (.string ⟨#[114, 97, 110, 103, 101, 32, 97, 116, 32, 53]⟩) ∧ Below w.heap.size w w' := by
  have mE := mError34
  go_enter Tryd.func176, Tryd.ntmps176
  go_wp2
  go_region_with (first | (go_at_call 175; refine (errno7 _).mono ?_; rintro e w' ⟨rfl, rfl⟩) | (go_at_call 178; refine (itoa5 _).mono ?_; rintro e w' ⟨rfl, rfl⟩))
  all_goals
    go_wp2
    go_ret
    exact ⟨rfl, (((Below.refl _ _).alloc (Nat.le_refl _) _).alloc (by simp) _).drew⟩
theorem why75 (w : World) : Calls Tryd.prog 69 #[.int .i64 7, .int .i64 5] w fun e w' => e = .returned (.string ⟨#[114, 97, 110, 103, 101, 32, 97, 116, 32, 53]⟩) ∧ Below w.heap.size w w' := by
  have HI := fun w => is_any 7 5 rfl w
  have HH := Lib.hid HI; clear HI
  have mE := mError64
  have HB : Hid (Below w.heap.size w (w.alloc (.cells #[.iface 34 (.int .i64 7), .int .i64 5] 163))) := (Below.refl _ _).alloc (Nat.le_refl _) _
  go_enter Tryd.func69, Tryd.ntmps69
  go_wp2_with (first | (go_at_call 106; refine (HH.out _).mono ?_; rintro e w' ⟨rfl, rfl⟩) | (go_at_call 176; refine (error75 _).mono ?_; rintro e w' ⟨rfl, hb⟩))
  go_ret
  exact ⟨rfl, HB.out.trans (hb.mono (by simp))⟩

theorem lives_any (w : World) (hg : Et w) : Calls Tryd.prog 17 #[] w fun e w' => e = .returned (.bool true) ∧ Below w.heap.size w w' := by
  go_enter Tryd.func17, Tryd.ntmps17
  go_wp2_with fail
  refine (new_any 3 _).mono ?_
  rintro e w1 ⟨rfl, hm1, hb1⟩
  have g1 := hg.below hb1 hg.pos
  have p0 := hg.pos
  have e3 : clampN 3 = 3 := rfl
  rw [e3] at hm1
  go_wp2_with fail
  refine (write_any hm1 g1 (by decide) (by decide) (by decide) 2 7 (by decide)).mono ?_
  rintro e w2 ⟨rfl, hm2, hk2⟩
  have g2 := g1.keep hk2 (by omega) p0
  rw [show whyC (zs 3) 2 7 = 0 from rfl, show swL (zs 3) 2 7 = [0, 0, 7] from rfl, show swN (zs 3) 2 7 0 = 1 from rfl] at *
  go_wp2_with fail
  refine (swap_any hm2 g2 (by decide) (by decide) (by decide) 2 9 (by decide)).mono ?_
  rintro e w3 ⟨rfl, hm3, hk3⟩
  have g3 := g2.keep hk3 (by omega) p0
  rw [show whyC [0, 0, 7] 2 9 = 0 from rfl, show swL [0, 0, 7] 2 9 = [0, 0, 9] from rfl, show swN [0, 0, 7] 2 9 1 = 2 from rfl, show swV [0, 0, 7] 2 9 = 7 from rfl] at *
  go_wp2_with fail
  refine (read_any hm3 g3 (by decide) (by decide) (by decide) 2 (by decide)).mono ?_
  rintro e w4 ⟨rfl, hm4, hk4⟩
  rw [show whyC [0, 0, 9] 2 0 = 0 from rfl, show rdN [0, 0, 9] 2 2 = 3 from rfl, show rdV [0, 0, 9] 2 = 9 from rfl] at *
  go_wp2_with fail
  refine (count_any hm4).mono ?_
  rintro e w5 ⟨rfl, rfl⟩
  go_wp2_with fail
  refine (why75 _).mono ?_
  rintro e w5 ⟨rfl, hb5⟩
  go_wp2
  go_ret
  have s1 := hm1.head.lt
  have k := (hk2.trans hk3).trans hk4
  exact ⟨rfl, (Below.keep hb1 k (by omega) (by omega) (Nat.le_refl _)).trans (hb5.mono (by have := k.size; omega))⟩
end Go.Proofs.YthkpopphefolmaaDoor.Cell
