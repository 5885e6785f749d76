/- A wheel: Keys, First: contracts. -/
import Derived.Test.YtoomdjkojddpdaaH6
import Derived.Shelf.SlSortCmp.NoneTotal
namespace Go.Proofs.Ytoomdjkojddpdaa.H14
open Go.RowKit Go.Proofs.Ytoomdjkojddpdaa.G Go.Proofs.Ytoomdjkojddpdaa.Sat Go.Sort Go.Maps Go.Shelf Go.Lib
set_option maxRecDepth 100000
variable {w w' : World} {b : Nat} {mb : Option Nat} {l : List En} {s : Nat}

theorem sort_none (v : Value) (w : World) : Calls Try.prog 40 #[.slice none 0 0, v] w fun e w' => e = .returned (.tuple #[]) ∧ w = w' :=
  (AnyF.slices_SortFunc_none (P := Try.prog) (ρ := lSort_ren) { lSort with } none 0 v w).mono fun _ _ ⟨he, hw⟩ => ⟨he, hw.symm⟩
/-- All keys, in their row, in memory of the call's own. -/
def KPost (w : World) (l : List En) (e : Ending) (w' : World) : Prop :=
  ∃ v : Value, e = .returned v ∧ Own w' w.heap.size 3 1 v l.length (iv (keys l)) ∧ Below w.heap.size w w'
theorem sortedF_any (h : Wh w b mb l s) (hl : l.length ≤ 1000000) {X : Nat} {tx : TypeId} (hX : Blk w X tx #[.pointer (some ⟨b, 0, none⟩)]) {Y : Nat} {ty : TypeId} (hY : Blk w Y ty #[.map mb]) :
    Calls Try.prog 33 #[.func (.func 41) #[] #[.pointer (some ⟨Y, 0, none⟩)], .func (.func 35) #[] #[.pointer (some ⟨X, 0, none⟩)]] w (KPost w l) := by
  have HC := Lib.hid (collect_any h hl hY)
  have HH := Lib.hid h
  have HX := Lib.hid hX
  clear h hX hY
  go_enter Try.func33, Try.ntmps33
  go_wp2_with fail
  refine HC.out.mono ?_
  rintro e w1 ⟨v, ss, rfl, hp, hrow, hnil, hb⟩
  have HB := Lib.hid hb
  have hlen : ss.length = l.length := by rw [hp.length_eq, len_keys]
  rcases id hrow.2 with ⟨rfl, h0⟩ | ⟨g, cap, cur, rfl, hbase, hgb, _⟩
  · have e0 : ss = [] := List.eq_nil_of_length_eq_zero h0
    have e1 : keys l = [] := by rw [e0] at hp; exact hp.symm.eq_nil
    have HR : Hid (Own w1 w.heap.size 3 1 (.slice none 0 0) l.length (iv (keys l))) := by
      show Own _ _ _ _ _ _ _
      rw [← hlen, h0, e1]
      exact Own.nil_ _ _ _ _
    clear hp hrow hnil hb hlen h0 e0 e1 hl
    go_wp2_with (go_at_call 40; refine (sort_none _ _).mono ?_; rintro e w' ⟨rfl, rfl⟩)
    go_ret
    exact ⟨_, rfl, HR.out, HB.out⟩
  · have HS := Lib.hid (sort_any (HH.out.below hb) hl (HX.out.bel hb) hp hrow (fun hF => absurd (HH.out.Fsz hF) (by omega)) (by have := HX.out.lt; omega))
    have hwl : w.heap.size ≤ g := hbase
    have HL := Lib.hid hlen
    clear hp hrow hnil hgb hbase
    clear hlen
    go_wp2_with fail
    refine HS.out.mono ?_
    rintro e w2 ⟨rfl, hr2, hg2⟩
    have HR : Hid (Own w2 w.heap.size 3 1 (.slice (some ⟨g, 0, none⟩) ss.length cap) l.length (iv (keys l))) := by rw [← HL.out]; exact hr2
    have HB2 : Hid (Below w.heap.size w w2) := HB.out.grown hg2 HB.out.size (fun k e => by injection e with e; omega)
    clear hr2 hg2
    go_wp2_with fail
    go_ret
    exact ⟨_, rfl, HR.out, HB2.out⟩
theorem mkeys_any (mb : Option Nat) (w : World) : Calls Try.prog 34 #[.map mb] w fun e w' => ∃ t, e = .returned (.func (.func 41) #[] #[.pointer (some ⟨w.heap.size, 0, none⟩)]) ∧ w' = w.alloc (.cells #[.map mb] t) :=
  (calls_of_in (AnyZI.keys_in (P := Try.prog) (ρ := lKeys_ren) lKeys Fence.wide 6 trivial rfl mb w)).mono fun _ _ ⟨he, hw⟩ => ⟨_, he, hw⟩
theorem collect_nil {Y : Nat} {t : TypeId} (hY : Blk w Y t #[.map none]) : Calls Try.prog 39 #[.func (.func 41) #[] #[.pointer (some ⟨Y, 0, none⟩)]] w fun e w' => e = .returned (.slice none 0 0) ∧ Below w.heap.size w w' := by
  have hc : w.cell? ⟨Y, 0, none⟩ = some (.map none) := by rw [hY.cell]; rfl
  have hseq := AnyZI.keys_gives_nil (P := Try.prog) (ρ := lKeys_ren) { lKeys with } Fence.wide 6 trivial rfl Y w hY.lt hc
  exact (calls_of_in (AnyZI.collect_in (P := Try.prog) (ρ := lCollect_ren) lCollect Fence.wide 8 trivial trivial rfl (by decide) 41 #[.pointer (some ⟨Y, 0, none⟩)] trivial eIter _ 0 (by decide) (by decide) w hseq)).mono
    fun e w' ⟨v, ss, he, hS, _, hnil, hb⟩ => ⟨by rw [he, hnil.2 hS], hb⟩
theorem sortedF_nil {x y : Value} (HC : Calls Try.prog 39 #[x] w fun e w' => e = .returned (.slice none 0 0) ∧ Below w.heap.size w w') :
    Calls Try.prog 33 #[x, y] w fun e w' => e = .returned (.slice none 0 0) ∧ Below w.heap.size w w' := by
  have HC := Lib.hid HC
  go_enter Try.func33, Try.ntmps33
  go_wp2_with fail
  refine HC.out.mono ?_
  rintro e w1 ⟨rfl, hb⟩
  have HB := Lib.hid hb
  clear hb
  go_wp2_with (go_at_call 40; refine (sort_none _ _).mono ?_; rintro e w' ⟨rfl, rfl⟩)
  go_ret
  exact ⟨rfl, HB.out⟩
theorem keys_any (h : Wh w b mb l s) (hl : l.length ≤ 1000000) : Calls Try.prog 23 #[.pointer (some ⟨b, 0, none⟩)] w (KPost w l) := by
  have HH := Lib.hid h
  clear h
  go_enter Try.func23, Try.ntmps23
  go_upto_region 1 with fail
  have X1 := Blk.new w 24 #[.pointer (some ⟨b, 0, none⟩)]
  have HW1 := Lib.hid (HH.out.below (b01 w (.cells #[.pointer (some ⟨b, 0, none⟩)] 24)))
  have HB1 := Lib.hid (b01 w (.cells #[.pointer (some ⟨b, 0, none⟩)] 24))
  generalize hg : w.heap.size = g at X1 ⊢
  generalize w.alloc (.cells #[.pointer (some ⟨b, 0, none⟩)] 24) = W1 at *
  have HX := Lib.hid X1
  have k0 := X1.cell 0
  simp only [List.getElem?_toArray, List.getElem?_cons_zero] at k0
  clear X1
  go_wp2_with (first
    | (go_at_call 32; refine (there_any HW1.out).mono ?_; rintro e w' ⟨rfl, rfl⟩)
    | (go_at_call 34; refine (mkeys_any mb _).mono ?_; rintro e w' ⟨t, rfl, rfl⟩)
    | fail)
  have HS := Lib.hid (sortedF_any (HW1.out.below (b01 W1 (.cells #[.map mb] t))) hl (HX.out.alloc (.cells #[.map mb] t)) (Blk.new W1 t #[.map mb]))
  have HB2 := Lib.hid (ba1 HB1.out (.cells #[.map mb] t))
  refine HS.out.mono ?_
  rintro e w3 ⟨v, rfl, hO, hb⟩
  have HO := Lib.hid (hO.less (B' := w.heap.size) HB2.out.size)
  have HB3 := Lib.hid (bt HB2.out hb)
  clear hO hb
  go_wp2_with fail
  go_ret
  exact ⟨v, rfl, HO.out, HB3.out⟩
end Go.Proofs.Ytoomdjkojddpdaa.H14
