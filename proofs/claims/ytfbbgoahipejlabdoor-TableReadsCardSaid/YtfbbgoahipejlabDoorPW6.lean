/- package table, what is written: all of a config's numbers. -/
import Derived.Test.YtfbbgoahipejlabDoorPW5
namespace Go.Proofs.YtfbbgoahipejlabDoor.T
open Go.RowKit Go.Proofs.YtfbbgoahipejlabDoor.G Go.Proofs.YtfbbgoahipejlabDoor.C04

def cfgB (c : Cfg) : List UInt8 := ob [c.P, c.F] ++ (W.num 1 c.ws.length ++ (winsB c.ws ++ (W.num 1 c.cs.length ++ (chnsB c.cs ++ (W.num 1 c.ac.length ++ actsB c.ac)))))
structure CfgOk (c : Cfg) : Prop where
  pf : ∀ z ∈ [c.P, c.F], W.inN 1 z = true
  w : ∀ x ∈ c.ws, (∀ z ∈ [ow x.o, x.s, x.l], W.inN 1 z = true) ∧ x.o ≠ 255
  k : ∀ x ∈ c.cs, ChnOk x
  a : ∀ x ∈ c.ac, W.inN 1 x = true
  nw : c.ws.length ≤ 8
  nk : c.cs.length ≤ 6
  na : c.ac.length ≤ 4
structure RW (B gc g : Nat) (l : List UInt8) (c : Cfg) (A1 A2 A3 : Option Addr) (c1 c2 c3 : Nat) (V : World) : Prop where
  ws : WS gc l V
  bx : Blk V g 30 #[.int .i64 c.P, .int .i64 c.F, .slice A1 c.ws.length c1, .slice A2 c.cs.length c2, .slice A3 c.ac.length c3]
  o1 : Own V B 89 3 (.slice A1 c.ws.length c1) c.ws.length (wvs c.ws)
  o2 : Own V B 118 11 (.slice A2 c.cs.length c2) c.cs.length (cvs c.cs)
  o3 : Own V B 3 1 (.slice A3 c.ac.length c3) c.ac.length (ivs c.ac)
theorem gset_same {w w2 : World} {gc g i : Nat} {t : TypeId} {cs : Array Value} {u : Value} (hB : Blk w2 g t cs) (hi : cs[i]? = some u) (hg : w.grownBy w2 (some gc)) : w.grownBy (w2.setCell ⟨g, i, none⟩ u) (some gc) := by
  refine ⟨hg.os, hg.tape, hg.output, by simpa [World.setCell] using hg.size, fun k hlt hn => ?_⟩
  by_cases e : k = g
  · subst e
    have B3 := hB.set_ i u
    have hcs : cs.setIfInBounds i u = cs := by
      apply Array.ext_getElem?
      intro j
      rw [Array.getElem?_setIfInBounds]
      by_cases hj : i = j
      · subst hj; rw [if_pos rfl, hi, if_pos (Array.getElem?_eq_some_iff.1 hi).1]
      · rw [if_neg hj]
    rw [hcs] at B3
    exact (B3.trans hB.symm).trans (hg.block k hlt hn)
  · rw [Below.heap_setCell w2 _ _ k (fun h => e h)]
    exact hg.block k hlt hn
section
variable {B gc g : Nat} {l l' : List UInt8} {c : Cfg} {A1 A2 A3 : Option Addr} {c1 c2 c3 : Nat} {V V' : World}
theorem RW.gblk0 (h : RW B gc g l c A1 A2 A3 c1 c2 c3 V) : ∃ u, Blk V gc 22 #[u] := by
  obtain ⟨A, c, h1, _⟩ := h.ws; exact ⟨_, h1⟩
theorem RW.ne (h : RW B gc g l c A1 A2 A3 c1 c2 c3 V) : g ≠ gc := by
  obtain ⟨u, hu⟩ := h.gblk0; exact h.bx.ne_ hu (by decide)
theorem RW.grow (h : RW B gc g l c A1 A2 A3 c1 c2 c3 V) (hw : WS gc l' V') (hg : V.grownBy V' (some gc)) : RW B gc g l' c A1 A2 A3 c1 c2 c3 V' := by
  obtain ⟨u, hu⟩ := h.gblk0
  refine ⟨hw, gblk hg h.bx h.ne, h.o1.grown hg (fun k hk => ?_), h.o2.grown hg (fun k hk => ?_), h.o3.grown hg (fun k hk => ?_)⟩
  · have := own_off h.o1 hu (by decide) k hk; simpa using this
  · have := own_off h.o2 hu (by decide) k hk; simpa using this
  · have := own_off h.o3 hu (by decide) k hk; simpa using this
theorem RW.same (h : RW B gc g l c A1 A2 A3 c1 c2 c3 V) (i : Nat) (u : Value) (hi : (#[.int .i64 c.P, .int .i64 c.F, .slice A1 c.ws.length c1, .slice A2 c.cs.length c2, .slice A3 c.ac.length c3] : Array Value)[i]? = some u) : RW B gc g l c A1 A2 A3 c1 c2 c3 (V.setCell ⟨g, i, none⟩ u) := by
  refine ⟨h.ws.far h.bx (by decide) (by decide) i u, ?_, own_st h.o1 (own_off h.o1 h.bx (by decide)) i u, own_st h.o2 (own_off h.o2 h.bx (by decide)) i u, own_st h.o3 (own_off h.o3 h.bx (by decide)) i u⟩
  have B3 := h.bx.set_ i u
  have hcs : (#[.int .i64 c.P, .int .i64 c.F, .slice A1 c.ws.length c1, .slice A2 c.cs.length c2, .slice A3 c.ac.length c3] : Array Value).setIfInBounds i u = #[.int .i64 c.P, .int .i64 c.F, .slice A1 c.ws.length c1, .slice A2 c.cs.length c2, .slice A3 c.ac.length c3] := by
    apply Array.ext_getElem?
    intro j
    rw [Array.getElem?_setIfInBounds]
    by_cases hj : i = j
    · subst hj; rw [if_pos rfl, hi, if_pos (Array.getElem?_eq_some_iff.1 hi).1]
    · rw [if_neg hj]
  rw [hcs] at B3; exact B3
end
set_option maxHeartbeats 2000000 in
set_option maxRecDepth 100000 in
theorem row_wr {w : World} {B gc g : Nat} {l : List UInt8} {c : Cfg} {A1 A2 A3 : Option Addr} {c1 c2 c3 : Nat} (h : RW B gc g l c A1 A2 A3 c1 c2 c3 w) (hok : CfgOk c) (hl : l.length ≤ 100) :
    Calls Tryd.prog 59 #[.pointer (some ⟨g, 0, none⟩), .func (.func 90) #[] #[.pointer (some ⟨gc, 0, none⟩)]] w fun e w' => e = .returned (.tuple #[]) ∧ RW B gc g (l ++ cfgB c) c A1 A2 A3 c1 c2 c3 w' ∧ w.grownBy w' (some gc) := by
  have H := Lib.hid h
  have HOK := Lib.hid hok
  have hne := h.ne
  have hlt := h.bx.lt
  have hnw := hok.nw
  have hnk := hok.nk
  have hna := hok.na
  have M1 : Hid (∀ c0 : Nat, Calls Tryd.prog 97 #[.func (.func 90) #[] #[.pointer (some ⟨gc, 0, none⟩)], .slice (some ⟨w.heap.size, 0, none⟩) 2 c0] ((w.alloc (.cells #[.pointer (some ⟨g, 0, none⟩), .pointer (some ⟨g, 1, none⟩)] 100)).drew) (DonePost gc (l ++ ob [c.P, c.F]) w)) := fun c0 => ones2 0 1 c.P c.F h.ws h.bx h.ne ⟨rfl, rfl, trivial⟩ hok.pf (by omega)
  clear h hok
  have n1 : Hid ((l ++ ob [c.P, c.F]).length ≤ 102) := by show (l ++ ob [c.P, c.F]).length ≤ 102; rw [List.length_append, ob_len]; simp; omega
  have n2 : Hid ((l ++ ob [c.P, c.F] ++ W.num 1 c.ws.length ++ winsB c.ws).length ≤ 130) := by show (l ++ ob [c.P, c.F] ++ W.num 1 c.ws.length ++ winsB c.ws).length ≤ 130; simp [W.num, ob_len, winsB_len]; omega
  have n3 : Hid ((l ++ ob [c.P, c.F] ++ W.num 1 c.ws.length ++ winsB c.ws ++ W.num 1 c.cs.length ++ chnsB c.cs).length ≤ 300) := by show (l ++ ob [c.P, c.F] ++ W.num 1 c.ws.length ++ winsB c.ws ++ W.num 1 c.cs.length ++ chnsB c.cs).length ≤ 300; simp [W.num, ob_len, winsB_len, chnsB_len]; omega
  go_enter Tryd.func59, Tryd.ntmps59
  go_wp2_with fail
  go_region_held3 (fun _ => True) (trivial) ((go_at_call 97; (with_reducible refine (M1.out _).mono ?_); rintro e w1 ⟨rfl, hw1, hg1⟩))
  have R1 := H.out.grow hw1 hg1
  have G1 := Lib.hid hg1
  clear hg1 hw1 M1 hlt
  have k1 := R1.bx.cell
  have f1 := R1.bx.frozen
  have z1 := R1.bx.lt
  go_upto_region 2 with (go_at_call 98; (with_reducible refine (listw_wr c.ws R1.ws R1.o1 HOK.out.w (by omega) (Nat.le_trans n1.out (by omega))).mono ?_); rintro e w2 ⟨rfl, hw2, hg2⟩; have R2 := R1.grow hw2 hg2; have G2 := Lib.hid (gtrans G1.out hg2); clear k1 f1 z1 hg2 hw2; have k1 := R2.bx.cell; have f1 := R2.bx.frozen; have z1 := R2.bx.lt)
  have G3 := Lib.hid (gset_same (i := 2) (u := .slice A1 c.ws.length c1) R2.bx rfl G2.out)
  have R3 := R2.same 2 (.slice A1 c.ws.length c1) rfl
  generalize w2.setCell ⟨g, 2, none⟩ (.slice A1 c.ws.length c1) = V3 at *
  clear k1 f1 z1 R2
  have k1 := R3.bx.cell
  have f1 := R3.bx.frozen
  have z1 := R3.bx.lt
  go_upto_region 3 with (go_at_call 100; (with_reducible refine (listc_wr c.cs R3.ws R3.o2 HOK.out.k (by omega) (Nat.le_trans n2.out (by omega))).mono ?_); rintro e w4 ⟨rfl, hw4, hg4⟩; have R4 := R3.grow hw4 hg4; have G4 := Lib.hid (gtrans G3.out hg4); clear k1 f1 z1 hg4 hw4; have k1 := R4.bx.cell; have f1 := R4.bx.frozen; have z1 := R4.bx.lt)
  have G5 := Lib.hid (gset_same (i := 3) (u := .slice A2 c.cs.length c2) R4.bx rfl G4.out)
  have R5 := R4.same 3 (.slice A2 c.cs.length c2) rfl
  generalize w4.setCell ⟨g, 3, none⟩ (.slice A2 c.cs.length c2) = V5 at *
  clear k1 f1 z1 R4
  have k1 := R5.bx.cell
  have f1 := R5.bx.frozen
  have z1 := R5.bx.lt
  go_wp2_with (go_at_call 102; (with_reducible refine (listi_wr c.ac R5.ws R5.o3 HOK.out.a (by omega) (Nat.le_trans n3.out (by omega))).mono ?_); rintro e w6 ⟨rfl, hw6, hg6⟩; have R6 := R5.grow hw6 hg6; have G6 := Lib.hid (gtrans G5.out hg6); clear k1 f1 z1 hg6 hw6; have k1 := R6.bx.cell; have f1 := R6.bx.frozen; have z1 := R6.bx.lt)
  have G7 := gset_same (i := 4) (u := .slice A3 c.ac.length c3) R6.bx rfl G6.out
  have R7 := R6.same 4 (.slice A3 c.ac.length c3) rfl
  refine bodyPost_end (v := .tuple #[]) (by simp [results, Tryd.results59, go_sem]) rfl ⟨rfl, ?_, G7⟩
  have e : l ++ cfgB c = l ++ ob [c.P, c.F] ++ W.num 1 c.ws.length ++ winsB c.ws ++ W.num 1 c.cs.length ++ chnsB c.cs ++ W.num 1 c.ac.length ++ actsB c.ac := by
    simp only [cfgB, List.append_assoc]
  rw [e]; exact R7
end Go.Proofs.YtfbbgoahipejlabDoor.T
