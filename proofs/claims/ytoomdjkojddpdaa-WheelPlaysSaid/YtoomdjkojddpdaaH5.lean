/- A wheel: Set: a contract. -/
import Derived.Test.YtoomdjkojddpdaaH4
namespace Go.Proofs.Ytoomdjkojddpdaa.H14
open Go.RowKit Go.Proofs.Ytoomdjkojddpdaa.G Go.Proofs.Ytoomdjkojddpdaa.Sat Go.Sort
set_option maxRecDepth 100000
variable {w w' : World} {b : Nat} {mb : Option Nat} {l : List En} {s : Nat}

theorem set_nil {k : Int} (u : Int) (w : World) : Calls Try.prog 13 #[.pointer none, .int .i64 k, .int .i64 u] w fun e w' => e = .returned (.bool false) ∧ w = w' := by
  go_enter Try.func13, Try.ntmps13
  go_wp2
  go_ret
  exact ⟨rfl, rfl⟩
theorem isNilM (B : Nat) (V : World) : (binOp .eql 55 (.map (some B)) (.map none)).run Try.prog V = .ok (.bool false) V := by kernel_rfl
theorem isNilN (V : World) : (binOp .eql 55 (.map none) (.map none)).run Try.prog V = .ok (.bool true) V := by kernel_rfl
/-- Behind a Set: the map is as it was, or new. -/
def SPost (v : Value) (b : Nat) (mb : Option Nat) (l : List En) (s : Nat) (w : World) (e : Ending) (w' : World) : Prop := e = .returned v ∧ ∃ B, Wh w' b (some B) l s ∧ Only (FW b mb) w w' ∧ (mb = some B ∨ w.heap.size ≤ B)
theorem Wh.stored {w2 : World} {B : Nat} (hl : Wok l s) {k u : Int} (hk : Ir k) (hu : 0 ≤ u ∧ u ≤ 4611686018427387904) (hb : Blk w2 b 57 #[.map (some B), .int .i64 s]) (hm : Mp w2 B (s + 1) (set l s k u)) (hn : B ≠ b) :
    Wh (w2.setCell ⟨b, 1, none⟩ (.int .i64 ((s : Int) + 1))) b (some B) (set l s k u) (s + 1) := by
  refine ⟨?_, ?_, fun e => by (cases e), fun B' e => ?_⟩
  · have := hb.set_ 1 (.int .i64 ((s : Int) + 1))
    rw [show ((s + 1 : Nat) : Int) = (s : Int) + 1 from by omega]
    exact this
  · have := hl.set (k := k) (u := u) (Int.natCast_nonneg s) hk hu
    rw [show ((s + 1 : Nat) : Int) = (s : Int) + 1 from by omega]
    exact this
  · injection e with e; subst e
    exact hm.keep (Below.heap_setCell _ _ _ _ hn)
set_option maxHeartbeats 4000000 in
/-- Of a wheel that has a map. -/
theorem set_some {B : Nat} (h : Wh w b (some B) l s) {k : Int} (hk : Ir k) (u : Int) (hs : s < 1000000) : Calls Try.prog 13 #[.pointer (some ⟨b, 0, none⟩), .int .i64 k, .int .i64 u] w (SPost (.bool (has l k)) b (some B) (set l s k (cut u)) (s + 1) w) := by
  have HH := Lib.hid h
  have H1 := Lib.hid (has_any h hk)
  have HC := Lib.hid (fun V => cut_any u V)
  have HB := Lib.hid (cut_bd u)
  have HN := Lib.hid (h.ne rfl)
  have HO0 : Hid (Only (FW b (some B)) w w) := Only.refl _ _
  have HF : Hid (FW b (some B) B ∨ w.heap.size ≤ B) := .inl (.inr rfl)
  have HE : Hid (some B = some B ∨ w.heap.size ≤ B) := .inl rfl
  generalize has l k = y at *
  generalize cut u = cu at *
  have p0 := h.blk.cell 0
  have p1 := h.blk.cell 1
  simp only [List.getElem?_toArray, List.getElem?_cons_zero, List.getElem?_cons_succ] at p0 p1
  have n1 := fun V => isNilM B V
  clear h
  go_enter Try.func13, Try.ntmps13
  go_wp2_with fail
  refine H1.out.mono ?_
  rintro e w1 ⟨rfl, hg⟩
  have HW1 := Lib.hid (HH.out.below hg.below)
  have HO1 := Lib.hid (HO0.out.bel hg.below)
  clear hg H1 p0 p1
  go_upto_region 6 with fail
  have HW2 : Hid (Wh w1.drew b (some B) l s) := HW1.out.below (Below.refl _ _).drew
  obtain ⟨w2, hrun, hm, hgr⟩ := (HW2.out.mp B rfl).store HW2.out.ok (Int.natCast_nonneg s) hk HB.out (by unfold maxLen; omega)
  have b2 : Blk w2 b 57 #[.map (some B), .int .i64 s] := (hgr.block b HW2.out.lt (fun e => HN.out (by injection e with e; exact e.symm))).trans HW2.out.blk
  have HQ0 : Hid (w1.drew.cell? ⟨b, 0, none⟩ = some (.map (some B)) ∧ w1.drew.cell? ⟨b, 1, none⟩ = some (.int .i64 s)) := ⟨by rw [HW2.out.blk.cell]; rfl, by rw [HW2.out.blk.cell]; rfl⟩
  have HQ1 : Hid (w2.cell? ⟨b, 0, none⟩ = some (.map (some B)) ∧ w2.cell? ⟨b, 1, none⟩ = some (.int .i64 s)) := ⟨by rw [b2.cell]; rfl, by rw [b2.cell]; rfl⟩
  have HX : Hid (Wh (w2.setCell ⟨b, 1, none⟩ (.int .i64 ((s : Int) + 1))) b (some B) (set l s k cu) (s + 1)) := Wh.stored HW2.out.ok hk HB.out b2 hm HN.out
  have HO2 := Lib.hid (((HO1.out.drewN 1).grown (w := w1.drewN 1) hgr (fun k e => by
    injection e with e; subst e; exact HF.out)).set_ (.inl (.inl rfl)) 1 (.int .i64 ((s : Int) + 1)))
  have p1 : w2.cell? ⟨b, 1, none⟩ = some (.int .i64 s) := HQ1.out.2
  have pf := b2.frozen
  clear hm b2 hgr
  unfold wV at hrun
  go_region_held3 (fun V => V.cell? ⟨b, 0, none⟩ = some (.map (some B)) ∧ V.cell? ⟨b, 1, none⟩ = some (.int .i64 s)) (first | (with_reducible exact HQ0.out) | (with_reducible exact HQ1.out) | fail)
    (first
     | (go_at_call 27; (with_reducible refine (HC.out _).mono ?_); rintro e w6 ⟨rfl, rfl⟩)
     | fail)
  go_wp2_with fail
  go_ret
  exact ⟨rfl, B, HX.out, HO2.out, .inl rfl⟩
set_option maxHeartbeats 4000000 in
/-- Of a wheel that has none yet. -/
theorem set_none (h : Wh w b none l s) {k : Int} (hk : Ir k) (u : Int) (hs : s < 1000000) : Calls Try.prog 13 #[.pointer (some ⟨b, 0, none⟩), .int .i64 k, .int .i64 u] w (SPost (.bool (has l k)) b none (set l s k (cut u)) (s + 1) w) := by
  have h1 : Wh ((w.alloc (.map #[] 0)).setCell ⟨b, 0, none⟩ (.map (some w.heap.size))) b (some w.heap.size) l s := by
    have e := h.no rfl
    subst e
    have hlt := h.lt
    refine ⟨(h.blk.alloc _).set_ 0 _, h.ok, fun e => by (cases e), fun B e => ?_⟩
    injection e with e; subst e
    exact ((Mp.made w).mono (Nat.zero_le s)).keep (Below.heap_setCell _ _ _ _ (by show w.heap.size ≠ b; omega))
  have h2 : Only (FW b none) w ((w.alloc (.map #[] 0)).setCell ⟨b, 0, none⟩ (.map (some w.heap.size))) := ((Only.refl _ w).alloc _).set_ (.inl (.inl rfl)) 0 _
  have hX : (w.alloc (.map #[] 0)).setCell ⟨b, 0, none⟩ (.map (some w.heap.size)) = (w.setCell ⟨b, 0, none⟩ (.map (some w.heap.size))).alloc (.map #[] 0) := World.setCell_alloc_past _ _ _ _ h.lt
  rw [hX] at h1 h2
  clear hX
  have HH := Lib.hid h1
  have H1 := Lib.hid (has_any h1 hk)
  have HC := Lib.hid (fun V => cut_any u V)
  have HB := Lib.hid (cut_bd u)
  have HN := Lib.hid (h1.ne rfl)
  have HO0 := Lib.hid h2
  have HF : Hid (FW b none w.heap.size ∨ w.heap.size ≤ w.heap.size) := .inr (Nat.le_refl _)
  have HE : Hid ((none : Option Nat) = some w.heap.size ∨ w.heap.size ≤ w.heap.size) := .inr (Nat.le_refl _)
  generalize has l k = y at *
  generalize cut u = cu at *
  have p0 := h.blk.cell 0
  have p1 := h.blk.cell 1
  have pf0 := h.blk.frozen
  simp only [List.getElem?_toArray, List.getElem?_cons_zero, List.getElem?_cons_succ] at p0 p1
  have n1 := fun V => isNilN V
  have hmm := @run_makeMap Try.prog
  have hbs := h.lt
  clear h h1 h2
  go_enter Try.func13, Try.ntmps13
  go_upto_region 5 with fail
  clear p0 p1 pf0 hbs
  generalize (w.setCell ⟨b, 0, none⟩ (.map (some w.heap.size))).alloc (.map #[] 0) = W at *
  generalize hB : w.heap.size = B at *
  go_wp2_with fail
  refine H1.out.mono ?_
  rintro e w1 ⟨rfl, hg⟩
  have HW1 := Lib.hid (HH.out.below hg.below)
  have HO1 := Lib.hid (HO0.out.bel hg.below)
  clear hg H1
  go_upto_region 6 with fail
  have HW2 : Hid (Wh w1.drew b (some B) l s) := HW1.out.below (Below.refl _ _).drew
  obtain ⟨w2, hrun, hm, hgr⟩ := (HW2.out.mp B rfl).store HW2.out.ok (Int.natCast_nonneg s) hk HB.out (by unfold maxLen; omega)
  have b2 : Blk w2 b 57 #[.map (some B), .int .i64 s] := (hgr.block b HW2.out.lt (fun e => HN.out (by injection e with e; exact e.symm))).trans HW2.out.blk
  have HQ0 : Hid (w1.drew.cell? ⟨b, 0, none⟩ = some (.map (some B)) ∧ w1.drew.cell? ⟨b, 1, none⟩ = some (.int .i64 s)) := ⟨by rw [HW2.out.blk.cell]; rfl, by rw [HW2.out.blk.cell]; rfl⟩
  have HQ1 : Hid (w2.cell? ⟨b, 0, none⟩ = some (.map (some B)) ∧ w2.cell? ⟨b, 1, none⟩ = some (.int .i64 s)) := ⟨by rw [b2.cell]; rfl, by rw [b2.cell]; rfl⟩
  have HX : Hid (Wh (w2.setCell ⟨b, 1, none⟩ (.int .i64 ((s : Int) + 1))) b (some B) (set l s k cu) (s + 1)) := Wh.stored HW2.out.ok hk HB.out b2 hm HN.out
  have HO2 := Lib.hid (((HO1.out.drewN 1).grown (w := w1.drewN 1) hgr (fun k e => by
    injection e with e; subst e; rw [hB]; exact HF.out)).set_ (.inl (.inl rfl)) 1 (.int .i64 ((s : Int) + 1)))
  have p1 : w2.cell? ⟨b, 1, none⟩ = some (.int .i64 s) := HQ1.out.2
  have pf := b2.frozen
  clear hm b2 hgr
  unfold wV at hrun
  go_region_held3 (fun V => V.cell? ⟨b, 0, none⟩ = some (.map (some B)) ∧ V.cell? ⟨b, 1, none⟩ = some (.int .i64 s)) (first | (with_reducible exact HQ0.out) | (with_reducible exact HQ1.out) | fail)
    (first
     | (go_at_call 27; (with_reducible refine (HC.out _).mono ?_); rintro e w6 ⟨rfl, rfl⟩)
     | fail)
  go_wp2_with fail
  go_ret
  exact ⟨rfl, B, HX.out, HO2.out, by rw [hB]; exact HE.out⟩
theorem set_any (h : Wh w b mb l s) {k : Int} (hk : Ir k) (u : Int) (hs : s < 1000000) : Calls Try.prog 13 #[.pointer (some ⟨b, 0, none⟩), .int .i64 k, .int .i64 u] w (SPost (.bool (has l k)) b mb (set l s k (cut u)) (s + 1) w) := by
  cases mb with
  | none => exact set_none h hk u hs
  | some B => exact set_some h hk u hs
end Go.Proofs.Ytoomdjkojddpdaa.H14
