/- The document's own answers for package cell: Swap, Write. -/
import Derived.Test.YthkpopphefolmaaDoorCRef
namespace Go.Proofs.YthkpopphefolmaaDoor.Cell
open Go.RowKit Go.Proofs.YthkpopphefolmaaDoor.G

theorem rswap_no {w : World} {A : Option Addr} {n ca : Nat} {l : List Int} (hn : n = l.length) (c i v code : Int) (h : whyC l i v = code) (h0 : (code != 0) = true) :
    Calls Tryd.prog 26 #[.agg #[.slice A n ca, .int .i64 c], .int .i64 i, .int .i64 v] w fun e w' => e = .returned (.tuple #[.agg #[.slice A n ca, .int .i64 c], .int .i64 0, .int .i64 code]) ∧ Below w.heap.size w w' := by
  have HE := Lib.hid h
  have HN := Lib.hid hn
  clear h hn
  go_enter Tryd.func26, Tryd.ntmps26
  go_wp2_with fail
  refine (rwhy_any HN.out c i v).mono ?_
  rintro e w1 ⟨rfl, rfl⟩
  rw [HE.out]
  go_wp2
  refine bodyPost_ret (v := .tuple #[.agg #[.slice A n ca, .int .i64 c], .int .i64 0, .int .i64 code]) (by simp [results, Tryd.results26, go_sem]) rfl ⟨rfl, ?_⟩
  exact (((Below.refl _ _).alloc (Nat.le_refl _) _).alloc (by simp) _).alloc (by simp; omega) _

theorem Lst.mono {w : World} {B B' : Nat} {v : Value} {l : List Int} (h : Lst w B v l) (hB : B' ≤ B) : Lst w B' v l := by
  refine ⟨h.1, ?_⟩
  rcases h.2 with h0 | ⟨g, cap, cur, hv, hg, r⟩
  · exact .inl h0
  · exact .inr ⟨g, cap, cur, hv, by omega, r⟩
/-- What the document's Swap leaves where it is let: a new list, with the one word put. -/
def SwapPost (w : World) (l : List Int) (c : Int) (e : Ending) (w' : World) (was : Int) : Prop :=
  ∃ v', e = .returned (.tuple #[.agg #[v', .int .i64 c], .int .i64 was, .int .i64 0]) ∧ Lst w' w.heap.size v' l ∧ Below w.heap.size w w'
set_option maxHeartbeats 1000000 in
theorem rswap_ok {w : World} {A : Option Addr} {n ca : Nat} {l : List Int} (hn : n = l.length) (hl : n ≤ 4096) (hA : RdA w A l) (c : Int) (c0 : 0 ≤ c) (c1 : c ≤ 1099511627776) (k : Nat) (hk : k < n) (v : Int) (hv : okV v = true) :
    Calls Tryd.prog 26 #[.agg #[.slice A n ca, .int .i64 c], .int .i64 k, .int .i64 v] w fun e w' => SwapPost w (l.set k v) (c + 1) e w' (nth l k) := by
  have HE : Hid (whyC l k v = 0) := by
    have h : inR l k 1 = true := decide_eq_true (by omega)
    show whyC l k v = 0; simp [whyC, h, hv]
  obtain ⟨ab, ao, rfl, hc⟩ := hA (by omega)
  have hlt : ab < w.heap.size := World.block_lt_of_cell? w _ (hc k (by omega))
  obtain ⟨i0, hi, hz0, hz1, hz2⟩ := info_parts info3
  have HC := Lib.hid hc
  have HN := Lib.hid hn
  clear hn hc hA hv
  go_enter Tryd.func26, Tryd.ntmps26
  go_wp2_with fail
  refine (rwhy_any HN.out c k v).mono ?_
  rintro e w1 ⟨rfl, rfl⟩
  rw [HE.out]
  have hX : ∀ o1 o2 o3 : Obj, ∀ j u, (l.map (Value.int .i64))[j]? = some u → (((w.alloc o1).alloc o2).alloc o3).cell? ((⟨ab, ao, none⟩ : Addr).add j) = some u := by
    intro o1 o2 o3 j u hj
    have hjl : j < l.length := by
      have := (List.getElem?_eq_some_iff.1 hj).1
      simpa using this
    rw [Addr.add_lit, World.cell?_alloc_lt _ _ _ (by simp; omega), World.cell?_alloc_lt _ _ _ (by simp; omega), World.cell?_alloc_lt _ _ _ hlt, HC.out j hjl]
    rw [← hj]; simp [nth, hjl]
  have HX := Lib.hid hX; clear hX
  go_wp2_with (at_builtin; refine wpList_append_own _ rfl _ _ 26 rfl (w.heap.size + 3) 3 i0 (.int .i64 0) 1 8 Tryd.underlying26 hi hz0 hz1 hz2 rfl (by decide) _ _ _ rfl (World.ownsRow_nil _ _ _ _) ⟨ab, ao, none⟩ n ca (l.map (Value.int .i64)) rfl ?qc1 ?qc2 ?qc3 ?qc4 ?qc5 ?qc6 ?_)
  case qc1 => have := HN.out; simp; omega
  case qc2 => exact HX.out _ _ _
  case qc3 => exact ints_one l
  case qc4 => unfold maxLen; omega
  case qc5 => omega
  case qc6 => simp
  intro v' w2 hown hgrow hnil
  clear hnil
  have z3 : ∀ o1 o2 o3 : Obj, (((w.alloc o1).alloc o2).alloc o3).heap.size = w.heap.size + 3 := fun o1 o2 o3 => by simp
  have b1 : Blk w2 w.heap.size 28 #[.slice (some ⟨ab, ao, none⟩) n ca, .int .i64 c] := by
    have h := ((Blk.new w 28 #[.slice (some ⟨ab, ao, none⟩) n ca, .int .i64 c]).alloc (.cells #[.slice none 0 0, .int .i64 0] 28)).alloc (.cells #[.slice (some ⟨ab, ao, none⟩) n ca, .int .i64 c] 28)
    exact (hgrow.block _ h.lt (by simp [Value.ownBlock])).trans h
  have b2 : Blk w2 (w.heap.size + 1) 28 #[.slice none 0 0, .int .i64 0] := by
    have e : (w.alloc (.cells #[.slice (some ⟨ab, ao, none⟩) n ca, .int .i64 c] 28)).heap.size = w.heap.size + 1 := by simp
    have h := (Blk.new (w.alloc (.cells #[.slice (some ⟨ab, ao, none⟩) n ca, .int .i64 c] 28)) 28 #[.slice none 0 0, .int .i64 0]).alloc (.cells #[.slice (some ⟨ab, ao, none⟩) n ca, .int .i64 c] 28)
    rw [e] at h
    exact (hgrow.block _ h.lt (by simp [Value.ownBlock])).trans h
  have hbw : Below w.heap.size w w2 := by
    have h := (((Below.refl w.heap.size w).alloc (Nat.le_refl _) (.cells #[.slice (some ⟨ab, ao, none⟩) n ca, .int .i64 c] 28)).alloc (by simp) (.cells #[.slice none 0 0, .int .i64 0] 28)).alloc (by simp; omega) (.cells #[.slice (some ⟨ab, ao, none⟩) n ca, .int .i64 c] 28)
    exact h.grown hgrow (by rw [z3]; omega) (by intro k' hk'; simp [Value.ownBlock] at hk')
  obtain ⟨g', cap, rfl, hBg, hglt⟩ : ∃ g' cap, v' = .slice (some ⟨g', 0, none⟩) n cap ∧ w.heap.size + 3 ≤ g' ∧ g' < w2.heap.size := by
    rcases hown.2 with ⟨_, h0⟩ | ⟨g', cap, cur, e, hB, hh, _⟩
    · omega
    · exact ⟨g', cap, e, hB, Blk.lt (t := 3) (cs := cur) hh⟩
  have d1 : w2.cell? ⟨g', k, none⟩ = some (.int .i64 (nth l k)) := by
    rw [hown.cellAt k (by omega)]; simp [nth, show k < l.length by have := HN.out; omega]
  have d2 := hown.frozenAt k
  have d3 : w2.cell? ⟨w.heap.size, 1, none⟩ = some (.int .i64 c) := b1.cell 1
  have d4 : w2.cell? ⟨w.heap.size + 1, 0, none⟩ = some (.slice none 0 0) := b2.cell 0
  have d5 : w2.cell? ⟨w.heap.size + 1, 1, none⟩ = some (.int .i64 0) := b2.cell 1
  have d6 := b2.frozen 0
  have d7 := b2.frozen 1
  have n1 : g' ≠ w.heap.size := by omega
  have n2 : g' ≠ w.heap.size + 1 := by omega
  have hfin : Lst (((w2.setCell ⟨g', k, none⟩ (.int .i64 v)).setCell ⟨w.heap.size + 1, 0, none⟩ (.slice (some ⟨g', 0, none⟩) n cap)).setCell ⟨w.heap.size + 1, 1, none⟩ (.int .i64 (c + 1))) w.heap.size (.slice (some ⟨g', 0, none⟩) n cap) (l.set k v) := by
    have h := (hown.stored k (.int .i64 v)).1
    rw [← List.map_set] at h
    have h' := ownsRow_setCell_below (ownsRow_setCell_below h (a := ⟨w.heap.size + 1, 0, none⟩) (by show w.heap.size + 1 < _; omega) (.slice (some ⟨g', 0, none⟩) n cap)) (a := ⟨w.heap.size + 1, 1, none⟩) (by show w.heap.size + 1 < _; omega) (.int .i64 (c + 1))
    refine Lst.mono (B := w.heap.size + 3) ?_ (by omega)
    unfold Lst
    rw [List.length_set, ← HN.out]
    exact h'
  have hbf := ((hbw.setCell (p := ⟨g', k, none⟩) (by show w.heap.size ≤ g'; omega) (.int .i64 v)).setCell (p := ⟨w.heap.size + 1, 0, none⟩) (by show w.heap.size ≤ w.heap.size + 1; omega) (.slice (some ⟨g', 0, none⟩) n cap)).setCell (p := ⟨w.heap.size + 1, 1, none⟩) (by show w.heap.size ≤ w.heap.size + 1; omega) (.int .i64 (c + 1))
  have HF := Lib.hid hfin; clear hfin
  have HB := Lib.hid hbf; clear hbf
  clear hown hgrow b1 b2 hbw z3
  go_wp2
  refine bodyPost_ret (v := .tuple #[.agg #[.slice (some ⟨g', 0, none⟩) n cap, .int .i64 (c + 1)], .int .i64 (nth l k), .int .i64 0]) (by simp [results, Tryd.results26, go_sem, d4, d5]) rfl ?_
  exact ⟨_, rfl, HF.out, HB.out⟩

/-- What the document's calls answer with a list: the list, the count, a word, a code. -/
def RPost (w : World) (B : Nat) (l : List Int) (c was code : Int) (e : Ending) (w' : World) : Prop :=
  ∃ v', e = .returned (.tuple #[.agg #[v', .int .i64 c], .int .i64 was, .int .i64 code]) ∧ Lst w' B v' l ∧ Below w.heap.size w w'
theorem rread_any {w : World} {B : Nat} {v : Value} {l : List Int} (hv : Lst w B v l) (hl : l.length ≤ 4096) (c : Int) (c0 : 0 ≤ c) (c1 : c ≤ 1099511627776) (i : Int) :
    Calls Tryd.prog 22 #[.agg #[v, .int .i64 c], .int .i64 i] w (RPost w B l (rdN l i c) (rdV l i) (whyC l i 0)) := by
  obtain ⟨A, ca, rfl, hA, _⟩ := lst_rd hv
  by_cases h : inR l i 1 = true
  · obtain ⟨h1, h2, h3⟩ := inR_of h
    obtain ⟨k, rfl⟩ := Int.eq_ofNat_of_zero_le h1
    simp only [rdV, rdN, whyC, h, if_true, show okV 0 = true from rfl, Int.toNat_natCast]
    exact (rread_ok rfl hl hA c c0 c1 k (by omega)).mono fun e w' ⟨he, hb⟩ => ⟨_, he, hv.below hb, hb⟩
  · have h' : inR l i 1 = false := by simpa using h
    simp only [rdV, rdN, whyC, h', if_false, Bool.false_eq_true]
    exact (rread_no rfl c i h').mono fun e w' ⟨he, hb⟩ => ⟨_, he, hv.below hb, hb⟩
theorem rswap_any {w : World} {B : Nat} {v : Value} {l : List Int} (hv : Lst w B v l) (hB : B ≤ w.heap.size) (hl : l.length ≤ 4096) (c : Int) (c0 : 0 ≤ c) (c1 : c ≤ 1099511627776) (i x : Int) :
    Calls Tryd.prog 26 #[.agg #[v, .int .i64 c], .int .i64 i, .int .i64 x] w (RPost w B (swL l i x) (swN l i x c) (swV l i x) (whyC l i x)) := by
  obtain ⟨A, ca, rfl, hA, _⟩ := lst_rd hv
  by_cases h : inR l i 1 = true
  · by_cases hx : okV x = true
    · obtain ⟨h1, h2, h3⟩ := inR_of h
      obtain ⟨k, rfl⟩ := Int.eq_ofNat_of_zero_le h1
      simp only [swV, swN, swL, whyC, h, hx, if_true, Bool.and_self, Int.toNat_natCast]
      exact (rswap_ok rfl hl hA c c0 c1 k (by omega) x hx).mono fun e w' ⟨v', he, hv', hb⟩ => ⟨v', he, hv'.mono hB, hb⟩
    · have hx' : okV x = false := by simpa using hx
      have hw : whyC l i x = 3 := by simp [whyC, h, hx']
      rw [hw]
      simp only [swV, swN, swL, h, hx', Bool.and_false, if_false, Bool.false_eq_true]
      exact (rswap_no rfl c i x 3 hw rfl).mono fun e w' ⟨he, hb⟩ => ⟨_, he, hv.below hb, hb⟩
  · have h' : inR l i 1 = false := by simpa using h
    have hw : whyC l i x = 7 := by simp [whyC, h']
    rw [hw]
    simp only [swV, swN, swL, h', if_false, Bool.false_and, Bool.false_eq_true]
    exact (rswap_no rfl c i x 7 hw rfl).mono fun e w' ⟨he, hb⟩ => ⟨_, he, hv.below hb, hb⟩
end Go.Proofs.YthkpopphefolmaaDoor.Cell
