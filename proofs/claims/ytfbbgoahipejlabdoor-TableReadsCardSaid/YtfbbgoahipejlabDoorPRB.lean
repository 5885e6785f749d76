/- Texts laid together: PR3, PR4. -/
import Derived.Test.YtfbbgoahipejlabDoorPRA
import Derived.Deep.DeepCutAuto
import Derived.Deep.CutRange
import Derived.Deep.CutBlock
import Derived.Deep.RegionHeld3
/- package table, what is read: a window, a channel, an Action. -/
namespace Go.Proofs.YtfbbgoahipejlabDoor.T
open Go.RowKit Go.Proofs.YtfbbgoahipejlabDoor.G Go.Proofs.YtfbbgoahipejlabDoor.C04

theorem set_twice (w : World) (b i : Nat) (u v : Value) : (w.setCell ⟨b, i, none⟩ u).setCell ⟨b, i, none⟩ v = w.setCell ⟨b, i, none⟩ v := by
  unfold World.setCell
  simp only
  congr 1
  apply Array.ext_getElem?
  intro g
  simp only [Array.getElem?_modify]
  by_cases h : b = g
  · subst h
    simp only [if_true]
    cases w.heap[b]? with
    | none => rfl
    | some o => cases o <;> simp
  · simp only [if_neg h]
theorem set_comm (w : World) (b i j : Nat) (hij : i ≠ j) (u v : Value) : (w.setCell ⟨b, i, none⟩ u).setCell ⟨b, j, none⟩ v = (w.setCell ⟨b, j, none⟩ v).setCell ⟨b, i, none⟩ u := by
  unfold World.setCell
  simp only
  congr 1
  apply Array.ext_getElem?
  intro g
  simp only [Array.getElem?_modify]
  by_cases h : b = g
  · subst h
    simp only [if_true]
    cases w.heap[b]? with
    | none => rfl
    | some o => cases o <;> simp [Array.setIfInBounds_comm _ _ hij]
  · simp only [if_neg h]
def uo (y : Int) : Int := if y = 255 then -1 else y
def rWin (l : List UInt8) (e : Int) : Win := ⟨uo (W.nxV l e 1), W.nxV (rl [1] l e) (re [1] l e) 1, W.nxV (rl [1, 1] l e) (re [1, 1] l e) 1⟩
theorem o1_3 : o1 3 = [1, 1, 1] := rfl
set_option maxHeartbeats 1000000 in
set_option maxRecDepth 100000 in
theorem window_rd {w : World} {gp br b o : Nat} {cs : Array Value} {l : List UInt8} {e : Int} (h : RS gp br l e w) (hB : Blk w b 89 cs) (h0 : cs[o]? = some (.int .i64 0)) (hsz : o + 2 < cs.size) :
    Calls Tryd.prog 99 #[.func (.func 60) #[] #[.pointer (some ⟨gp, 0, none⟩)], .pointer (some ⟨b, o, none⟩)] w fun r w' => r = .returned (.tuple #[]) ∧ RS gp br (rl [1, 1, 1] l e) (re [1, 1, 1] l e) w' ∧ (sm w b [o, o + 1, o + 2] [(rWin l e).o, (rWin l e).s, (rWin l e).l]).grownBy w' (some br) := by
  have hbr : b ≠ br := by
    obtain ⟨cs', h'⟩ := RS.br _ _ _ _ _ h
    exact (h'.ne_ hB (by decide)).symm
  have HB := Lib.hid hB
  have HO : Hid (∀ c : Nat, Calls Tryd.prog 97 #[.func (.func 60) #[] #[.pointer (some ⟨gp, 0, none⟩)], .slice (some ⟨w.heap.size, 0, none⟩) 3 c] ((w.alloc (.cells #[.pointer (some ⟨b, o, none⟩), .pointer (some ⟨b, o + 1, none⟩), .pointer (some ⟨b, o + 2, none⟩)] 100)).drew) (RPost gp br b l e [o, o + 1, o + 2] (o1 3) w)) := fun c => ones_rn [o, o + 1, o + 2] rfl h hB (fun i hi => by simp only [List.mem_cons, List.not_mem_nil, or_false] at hi; omega) (by decide) (by decide) (by decide) (by simp)
  have d0 := (hB.cell o).trans h0
  have hlt := hB.lt
  obtain ⟨y0, hy0⟩ : ∃ y, W.nxV l e 1 = y := ⟨_, rfl⟩
  obtain ⟨y1, hy1⟩ : ∃ y, W.nxV (rl [1] l e) (re [1] l e) 1 = y := ⟨_, rfl⟩
  obtain ⟨y2, hy2⟩ : ∃ y, W.nxV (rl [1, 1] l e) (re [1, 1] l e) 1 = y := ⟨_, rfl⟩
  have HV : Hid (rv (o1 3) l e = [y0, y1, y2]) := by
    show rv (o1 3) l e = [y0, y1, y2]
    rw [← hy0, ← hy1, ← hy2]; rfl
  have HW : Hid (rWin l e = ⟨uo y0, y1, y2⟩) := by
    show rWin l e = ⟨uo y0, y1, y2⟩
    rw [rWin, hy0, hy1, hy2]
  clear hy0 hy1 hy2 h
  have hso : o < cs.size := by omega
  have q0 : (sc cs [o, o + 1, o + 2] [y0, y1, y2])[o]? = some (.int .i64 y0) := by
    simp only [sc]
    rw [Array.getElem?_setIfInBounds, if_neg (by omega), Array.getElem?_setIfInBounds, if_neg (by omega), Array.getElem?_setIfInBounds, if_pos rfl, if_pos hso]
  have HQ := Lib.hid q0
  clear q0 hB h0
  go_enter Tryd.func99, Tryd.ntmps99
  go_upto_region 2 with fail
  go_region_held3 (fun _ => True) (trivial) ((go_at_call 97; (with_reducible refine (HO.out _).mono ?_); rintro r w2 ⟨rfl, hw2, hg2⟩))
  rw [HV.out] at hg2
  have B2 := gblk hg2 (Blk.sm [o, o + 1, o + 2] [y0, y1, y2] HB.out) hbr
  have t0 := (B2.cell o).trans HQ.out
  have tf := B2.frozen o
  have tl := B2.lt
  have G2 := Lib.hid hg2
  have W2 := Lib.hid hw2
  clear hg2 hw2
  by_cases hy : y0 = 255
  · subst hy
    go_wp2_with fail
    refine bodyPost_end (v := .tuple #[]) (by simp [results, Tryd.results99, go_sem]) rfl ⟨rfl, ?_, ?_⟩
    · obtain ⟨r1, r2, r3⟩ := W2.out
      exact ⟨r1.far (p := ⟨b, o, none⟩) (r1.ne_ B2 (by decide)) _, r2.farT B2 (by decide) (by decide) _ _, r3⟩
    · rw [HW.out]
      have g1 := gset (i := o) (u := .int .i64 (-1)) (Blk.sm [o, o + 1, o + 2] [255, y1, y2] HB.out) hbr G2.out
      have e1 : (sm w b [o, o + 1, o + 2] [255, y1, y2]).setCell ⟨b, o, none⟩ (.int .i64 (-1)) = sm w b [o, o + 1, o + 2] [uo 255, y1, y2] := by
        simp only [sm]
        rw [set_comm _ b (o + 2) o (by omega), set_comm _ b (o + 1) o (by omega), set_twice]
        rfl
      rw [e1] at g1
      exact g1
  · have hy2 : (y0 == 255) = false := by simpa using hy
    have HY := Lib.hid hy
    clear hy
    go_wp2_with fail
    refine bodyPost_end (v := .tuple #[]) (by simp [results, Tryd.results99, go_sem]) rfl ⟨rfl, W2.out, ?_⟩
    rw [HW.out, uo, if_neg HY.out]
    exact G2.out
theorem action_rd {w : World} {gp br b o : Nat} {t : TypeId} {cs : Array Value} {l : List UInt8} {e : Int} (h : RS gp br l e w) (hB : Blk w b t cs) (hi : o < cs.size) (t1 : 161 ≠ t) (t2 : 5 ≠ t) (t3 : 95 ≠ t) :
    Calls Tryd.prog 103 #[.func (.func 60) #[] #[.pointer (some ⟨gp, 0, none⟩)], .pointer (some ⟨b, o, none⟩)] w fun r w' => r = .returned (.tuple #[]) ∧ RS gp br (rl [1] l e) (re [1] l e) w' ∧ (w.setCell ⟨b, o, none⟩ (.int .i64 (W.nxV l e 1))).grownBy w' (some br) := by
  have HS := Lib.hid h
  have HB := Lib.hid hB
  have HT := Lib.hid (And.intro t1 (And.intro t2 t3))
  clear h hB t1 t2 t3
  go_enter Tryd.func103, Tryd.ntmps103
  go_wp2_with (go_at_call 60; (with_reducible refine (clos_rd 1 HS.out HB.out hi HT.out.1 HT.out.2.1 HT.out.2.2).mono ?_); rintro r w1 ⟨rfl, hw1, hg1⟩)
  exact bodyPost_end (v := .tuple #[]) (by simp [results, Tryd.results103, go_sem]) rfl ⟨rfl, hw1, hg1⟩
end Go.Proofs.YtfbbgoahipejlabDoor.T
/- package table, what is read: a channel. -/
namespace Go.Proofs.YtfbbgoahipejlabDoor.T
open Go.RowKit Go.Proofs.YtfbbgoahipejlabDoor.G Go.Proofs.YtfbbgoahipejlabDoor.C04

def cw : List Int := [1, 1, 1, 1, 4, 1, 1, 1, 4, 1, 1]
def coff (o : Nat) : List Nat := [o, o + 1, o + 2, o + 3, o + 4, o + 5, o + 6, o + 7, o + 8, o + 9, o + 10]
theorem gstep {X V V' : World} {b br : Nat} {t : TypeId} {cs : Array Value} (hn : b ≠ br) (hX : Blk X b t cs) (hg : X.grownBy V (some br)) (is : List Nat) (ys : List Int) (h : (sm V b is ys).grownBy V' (some br)) : (sm X b is ys).grownBy V' (some br) :=
  World.grownBy.trans (sm_grow hn is ys hX hg) h
theorem sm_app {b : Nat} (js : List Nat) (zs : List Int) : ∀ (is : List Nat) (ys : List Int) (V : World), is.length = ys.length → sm V b (is ++ js) (ys ++ zs) = sm (sm V b is ys) b js zs
  | i' :: is, y' :: ys, V, h => by simp only [List.cons_append, T.sm]; exact sm_app js zs is ys _ (by simpa using h)
  | [], [], _, _ => rfl
  | [], _ :: _, _, h => by simp at h
  | _ :: _, [], _, h => by simp at h
theorem rv_app (ms : List Int) : ∀ (ns : List Int) (l : List UInt8) (e : Int), rv (ns ++ ms) l e = rv ns l e ++ rv ms (rl ns l e) (re ns l e)
  | [], _, _ => rfl
  | m :: ns, l, e => by simp only [List.cons_append, rv, rl, re]; rw [rv_app ms ns]
theorem chn_eq (l : List UInt8) (e : Int) (w : World) (b o : Nat) {l1 l2 l3 l4 : List UInt8} {e1 e2 e3 e4 y2 y4 : Int} {y1 y3 : List Int} (a1 : rv (o1 4) l e = y1) (a2 : rl (o1 4) l e = l1) (a3 : re (o1 4) l e = e1) (b1 : W.nxV l1 e1 4 = y2) (b2 : W.nxL l1 e1 4 = l2) (b3 : W.nxE l1 e1 4 = e2)
    (c1 : rv (o1 3) l2 e2 = y3) (c2 : rl (o1 3) l2 e2 = l3) (c3 : re (o1 3) l2 e2 = e3) (d1 : W.nxV l3 e3 4 = y4) (d2 : W.nxL l3 e3 4 = l4) (d3 : W.nxE l3 e3 4 = e4) :
    sm w b (coff o) (rv cw l e) = sm (sm (sm (sm (sm w b [o, o + 1, o + 2, o + 3] y1) b [o + 4] [y2]) b [o + 5, o + 6, o + 7] y3) b [o + 8] [y4]) b [o + 9, o + 10] (rv (o1 2) l4 e4) := by
  have q1 : [o, o + 1, o + 2, o + 3].length = y1.length := by rw [← a1, rv_len]; rfl
  have q3 : [o + 5, o + 6, o + 7].length = y3.length := by rw [← c1, rv_len]; rfl
  have q2 : [o + 4].length = [y2].length := rfl
  have q4 : [o + 8].length = [y4].length := rfl
  rw [← sm_app _ _ _ _ _ q4, ← sm_app _ _ _ _ _ q3, ← sm_app _ _ _ _ _ q2, ← sm_app _ _ _ _ _ q1]
  have hc : cw = o1 4 ++ ([4] ++ (o1 3 ++ ([4] ++ o1 2))) := rfl
  have v2 : rv [4] l1 e1 = [y2] := by rw [← b1]; rfl
  have v4 : rv [4] l3 e3 = [y4] := by rw [← d1]; rfl
  have m2 : rl [4] l1 e1 = l2 := b2
  have k2 : re [4] l1 e1 = e2 := b3
  have m4 : rl [4] l3 e3 = l4 := d2
  have k4 : re [4] l3 e3 = e4 := d3
  rw [hc, rv_app, a1, a2, a3, rv_app, v2, m2, k2, rv_app, c1, c2, c3, rv_app, v4, m4, k4]
  rfl
set_option maxHeartbeats 2000000 in
set_option maxRecDepth 100000 in
theorem channel_rd {w : World} {gp br b o : Nat} {cs : Array Value} {l : List UInt8} {e : Int} (h : RS gp br l e w) (hB : Blk w b 118 cs) (hsz : o + 10 < cs.size) :
    Calls Tryd.prog 101 #[.func (.func 60) #[] #[.pointer (some ⟨gp, 0, none⟩)], .pointer (some ⟨b, o, none⟩)] w fun r w' => r = .returned (.tuple #[]) ∧ RS gp br (rl cw l e) (re cw l e) w' ∧ (sm w b (coff o) (rv cw l e)).grownBy w' (some br) := by
  have hbr : b ≠ br := by
    obtain ⟨cs', h'⟩ := RS.br _ _ _ _ _ h
    exact (h'.ne_ hB (by decide)).symm
  have HB := Lib.hid hB
  have M1 : Hid (∀ c : Nat, Calls Tryd.prog 97 #[.func (.func 60) #[] #[.pointer (some ⟨gp, 0, none⟩)], .slice (some ⟨w.heap.size, 0, none⟩) 4 c] ((w.alloc (.cells #[.pointer (some ⟨b, o, none⟩), .pointer (some ⟨b, o + 1, none⟩), .pointer (some ⟨b, o + 2, none⟩), .pointer (some ⟨b, o + 3, none⟩)] 100)).drew) (RPost gp br b l e [o, o + 1, o + 2, o + 3] (o1 4) w)) := fun c => ones_rn [o, o + 1, o + 2, o + 3] rfl h hB (fun i hi => by simp only [List.mem_cons, List.not_mem_nil, or_false] at hi; omega) (by decide) (by decide) (by decide) (by simp)
  have hlt := hB.lt
  clear h hB
  obtain ⟨y1, hy1⟩ : ∃ y, rv (o1 4) l e = y := ⟨_, rfl⟩
  obtain ⟨l1, hl1⟩ : ∃ y, rl (o1 4) l e = y := ⟨_, rfl⟩
  obtain ⟨e1, he1⟩ : ∃ y, re (o1 4) l e = y := ⟨_, rfl⟩
  have HY1 := Lib.hid (And.intro hy1 (And.intro hl1 he1))
  clear hy1 hl1 he1
  go_enter Tryd.func101, Tryd.ntmps101
  go_wp2_with fail
  go_region_held3 (fun _ => True) (trivial) ((go_at_call 97; (with_reducible refine (M1.out _).mono ?_); rintro r w1 ⟨rfl, hw1, hg1⟩))
  rw [HY1.out.1] at hg1
  rw [HY1.out.2.1, HY1.out.2.2] at hw1
  have X1 := Blk.sm [o, o + 1, o + 2, o + 3] y1 HB.out
  have s1 : (sc cs [o, o + 1, o + 2, o + 3] y1).size = cs.size := sc_size _ _ _
  generalize sc cs [o, o + 1, o + 2, o + 3] y1 = cs1 at *
  obtain ⟨Z1, hZ1⟩ : ∃ Z, sm w b [o, o + 1, o + 2, o + 3] y1 = Z := ⟨_, rfl⟩
  rw [hZ1] at hg1 X1
  have HZ1 := Lib.hid hZ1
  have B1 := gblk hg1 X1 hbr
  have z1 := B1.lt
  have G1 := Lib.hid hg1
  have i1 : o + 4 < cs1.size := by omega
  clear hg1 M1 hZ1
  go_upto_region 2 with (go_at_call 60; (with_reducible refine (clos_rd 4 hw1 B1 i1 (by decide) (by decide) (by decide)).mono ?_); rintro r w2 ⟨rfl, hw2, hg2⟩)
  obtain ⟨y2, hy2⟩ : ∃ y, W.nxV l1 e1 4 = y := ⟨_, rfl⟩
  obtain ⟨l2, hl2⟩ : ∃ y, W.nxL l1 e1 4 = y := ⟨_, rfl⟩
  obtain ⟨e2, he2⟩ : ∃ y, W.nxE l1 e1 4 = y := ⟨_, rfl⟩
  rw [hy2] at hg2
  rw [hl2, he2] at hw2
  have HY2 := Lib.hid (And.intro hy2 (And.intro hl2 he2))
  have hg2 : (sm Z1 b [o + 4] [y2]).grownBy w2 (some br) := gstep hbr X1 G1.out [o + 4] [y2] hg2
  have X2 := Blk.sm [o + 4] [y2] X1
  have s2 : (sc cs1 [o + 4] [y2]).size = cs1.size := sc_size _ _ _
  generalize sc cs1 [o + 4] [y2] = cs2 at *
  obtain ⟨Z2, hZ2⟩ : ∃ Z, sm Z1 b [o + 4] [y2] = Z := ⟨_, rfl⟩
  rw [hZ2] at hg2 X2
  have HZ2 := Lib.hid hZ2
  have B2 := gblk hg2 X2 hbr
  have z2 := B2.lt
  have G2 := Lib.hid hg2
  have M2 : Hid (∀ c : Nat, Calls Tryd.prog 97 #[.func (.func 60) #[] #[.pointer (some ⟨gp, 0, none⟩)], .slice (some ⟨w2.heap.size, 0, none⟩) 3 c] ((w2.alloc (.cells #[.pointer (some ⟨b, o + 5, none⟩), .pointer (some ⟨b, o + 6, none⟩), .pointer (some ⟨b, o + 7, none⟩)] 100)).drew) (RPost gp br b l2 e2 [o + 5, o + 6, o + 7] (o1 3) w2)) := fun c => ones_rn [o + 5, o + 6, o + 7] rfl hw2 B2 (fun i hi => by simp only [List.mem_cons, List.not_mem_nil, or_false] at hi; omega) (by decide) (by decide) (by decide) (by simp)
  clear hg2 hw1 hw2 hy2 hl2 he2 hZ2 X1 B1 B2 z1 i1 G1
  obtain ⟨y3, hy3⟩ : ∃ y, rv (o1 3) l2 e2 = y := ⟨_, rfl⟩
  obtain ⟨l3, hl3⟩ : ∃ y, rl (o1 3) l2 e2 = y := ⟨_, rfl⟩
  obtain ⟨e3, he3⟩ : ∃ y, re (o1 3) l2 e2 = y := ⟨_, rfl⟩
  have HY3 := Lib.hid (And.intro hy3 (And.intro hl3 he3))
  clear hy3 hl3 he3
  go_region_held3 (fun _ => True) (trivial) ((go_at_call 97; (with_reducible refine (M2.out _).mono ?_); rintro r w3 ⟨rfl, hw3, hg3⟩))
  rw [HY3.out.1] at hg3
  rw [HY3.out.2.1, HY3.out.2.2] at hw3
  have hg3 : (sm Z2 b [o + 5, o + 6, o + 7] y3).grownBy w3 (some br) := gstep hbr X2 G2.out _ _ hg3
  have X3 := Blk.sm [o + 5, o + 6, o + 7] y3 X2
  have s3 : (sc cs2 [o + 5, o + 6, o + 7] y3).size = cs2.size := sc_size _ _ _
  generalize sc cs2 [o + 5, o + 6, o + 7] y3 = cs3 at *
  obtain ⟨Z3, hZ3⟩ : ∃ Z, sm Z2 b [o + 5, o + 6, o + 7] y3 = Z := ⟨_, rfl⟩
  rw [hZ3] at hg3 X3
  have HZ3 := Lib.hid hZ3
  have B3 := gblk hg3 X3 hbr
  have z3 := B3.lt
  have G3 := Lib.hid hg3
  have i3 : o + 8 < cs3.size := by omega
  clear hg3 M2 hZ3 X2 G2 z2
  go_upto_region 4 with (go_at_call 60; (with_reducible refine (clos_rd 4 hw3 B3 i3 (by decide) (by decide) (by decide)).mono ?_); rintro r w4 ⟨rfl, hw4, hg4⟩)
  obtain ⟨y4, hy4⟩ : ∃ y, W.nxV l3 e3 4 = y := ⟨_, rfl⟩
  obtain ⟨l4, hl4⟩ : ∃ y, W.nxL l3 e3 4 = y := ⟨_, rfl⟩
  obtain ⟨e4, he4⟩ : ∃ y, W.nxE l3 e3 4 = y := ⟨_, rfl⟩
  rw [hy4] at hg4
  rw [hl4, he4] at hw4
  have HY4 := Lib.hid (And.intro hy4 (And.intro hl4 he4))
  have hg4 : (sm Z3 b [o + 8] [y4]).grownBy w4 (some br) := gstep hbr X3 G3.out [o + 8] [y4] hg4
  have X4 := Blk.sm [o + 8] [y4] X3
  have s4 : (sc cs3 [o + 8] [y4]).size = cs3.size := sc_size _ _ _
  generalize sc cs3 [o + 8] [y4] = cs4 at *
  obtain ⟨Z4, hZ4⟩ : ∃ Z, sm Z3 b [o + 8] [y4] = Z := ⟨_, rfl⟩
  rw [hZ4] at hg4 X4
  have HZ4 := Lib.hid hZ4
  have B4 := gblk hg4 X4 hbr
  have z4 := B4.lt
  have G4 := Lib.hid hg4
  have M3 : Hid (∀ c : Nat, Calls Tryd.prog 97 #[.func (.func 60) #[] #[.pointer (some ⟨gp, 0, none⟩)], .slice (some ⟨w4.heap.size, 0, none⟩) 2 c] ((w4.alloc (.cells #[.pointer (some ⟨b, o + 9, none⟩), .pointer (some ⟨b, o + 10, none⟩)] 100)).drew) (RPost gp br b l4 e4 [o + 9, o + 10] (o1 2) w4)) := fun c => ones_rn [o + 9, o + 10] rfl hw4 B4 (fun i hi => by simp only [List.mem_cons, List.not_mem_nil, or_false] at hi; omega) (by decide) (by decide) (by decide) (by simp)
  clear hg4 hw3 hw4 hy4 hl4 he4 hZ4 X3 B3 B4 z3 i3 G3
  go_region_held3 (fun _ => True) (trivial) ((go_at_call 97; (with_reducible refine (M3.out _).mono ?_); rintro r w5 ⟨rfl, hw5, hg5⟩))
  have hg5 := gstep hbr X4 G4.out _ _ hg5
  have G5 := Lib.hid hg5
  have W5 := Lib.hid hw5
  clear hg5 hw5 M3
  go_wp2_with fail
  obtain ⟨a1, a2, a3⟩ := HY1.out
  obtain ⟨b1, b2, b3⟩ := HY2.out
  obtain ⟨c1, c2, c3⟩ := HY3.out
  obtain ⟨d1, d2, d3⟩ := HY4.out
  refine bodyPost_end (v := .tuple #[]) (by simp [results, Tryd.results101, go_sem]) rfl ⟨rfl, ?_, ?_⟩
  · have hw := W5.out
    subst d2 d3 c2 c3 b2 b3 a2 a3
    exact hw
  · have hg := G5.out
    rw [← HZ4.out, ← HZ3.out, ← HZ2.out, ← HZ1.out] at hg
    rw [chn_eq l e w b o a1 a2 a3 b1 b2 b3 c1 c2 c3 d1 d2 d3]
    exact hg
end Go.Proofs.YtfbbgoahipejlabDoor.T
