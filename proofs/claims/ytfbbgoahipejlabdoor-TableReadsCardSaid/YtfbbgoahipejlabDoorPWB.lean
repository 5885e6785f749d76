/- Texts laid together: PW3, PW4. -/
import Derived.Test.YtfbbgoahipejlabDoorPWA
import Derived.Deep.DeepCutAuto
import Derived.Deep.CutRange
import Derived.Deep.CutBlock
import Derived.Deep.RegionHeld3
/- package table, what is written: a window, a channel, an Action. -/
namespace Go.Proofs.YtfbbgoahipejlabDoor.T
open Go.RowKit Go.Proofs.YtfbbgoahipejlabDoor.G Go.Proofs.YtfbbgoahipejlabDoor.C04

theorem gset_back {w w2 : World} {gc b o : Nat} {t : TypeId} {cs : Array Value} {v u : Value} (hB : Blk w b t cs) (ho : cs[o]? = some v) (hg : (w.setCell ⟨b, o, none⟩ u).grownBy w2 (some gc)) (hne : b ≠ gc) : w.grownBy (w2.setCell ⟨b, o, none⟩ v) (some gc) := by
  refine ⟨hg.os, hg.tape, hg.output, by simpa [World.setCell] using hg.size, fun g hlt hn => ?_⟩
  by_cases e : g = b
  · subst e
    have B1 := hB.set_ o u
    have B2 : Blk w2 g t (cs.setIfInBounds o u) := gblk hg B1 hne
    have B3 := B2.set_ o v
    have hcs : (cs.setIfInBounds o u).setIfInBounds o v = cs := by
      apply Array.ext_getElem?
      intro i
      rw [Array.getElem?_setIfInBounds]
      by_cases hi : o = i
      · subst hi
        rw [if_pos rfl, ho, if_pos (by simpa using (Array.getElem?_eq_some_iff.1 ho).1)]
      · rw [if_neg hi, Array.getElem?_setIfInBounds, if_neg hi]
    rw [hcs] at B3
    exact B3.trans hB.symm
  · have hg1 : g < (w.setCell ⟨b, o, none⟩ u).heap.size := by simpa [World.setCell] using hlt
    rw [Below.heap_setCell w2 _ _ g (fun h => e h), hg.block g hg1 hn, Below.heap_setCell w _ _ g (fun h => e h)]
def ow (o : Int) : Int := if o = -1 then 255 else o
set_option maxHeartbeats 1000000 in
set_option maxRecDepth 100000 in
theorem window_any {w : World} {gc b o : Nat} {cs : Array Value} {l : List UInt8} (x : Win) (h : WS gc l w) (hb : Blk w b 89 cs) (c0 : cs[o]? = some (.int .i64 x.o)) (c1 : cs[o + 1]? = some (.int .i64 x.s)) (c2 : cs[o + 2]? = some (.int .i64 x.l))
    (hn : ∀ z ∈ [ow x.o, x.s, x.l], W.inN 1 z = true) (h255 : x.o ≠ 255) (hl : l.length ≤ 2000) :
    Calls Tryd.prog 99 #[.func (.func 90) #[] #[.pointer (some ⟨gc, 0, none⟩)], .pointer (some ⟨b, o, none⟩)] w (DonePost gc (l ++ ob [ow x.o, x.s, x.l]) w) := by
  have hbg : b ≠ gc := by
    obtain ⟨A, c, h1, _⟩ := h
    exact hb.ne_ h1 (by decide)
  have hgl : gc < w.heap.size := by
    obtain ⟨A, c, h1, _⟩ := h
    exact h1.lt
  have HB := Lib.hid hb
  have HS := Lib.hid h
  have HN := Lib.hid hn
  have HC0 := Lib.hid c0
  have d0 := (hb.cell o).trans c0
  have d1 := (hb.cell (o + 1)).trans c1
  have d2 := (hb.cell (o + 2)).trans c2
  have df := hb.frozen o
  have hlt := hb.lt
  have HC1 := Lib.hid c1
  have HC2 := Lib.hid c2
  clear h hb hn c0 c1 c2
  obtain ⟨xo, xs, xl⟩ := x
  simp only at *
  by_cases hm : xo = -1
  · subst hm
    have S1 := HS.out.far HB.out (by decide) (by decide) o (.int .i64 255)
    have B1 := HB.out.set_ o (.int .i64 255)
    have e0 : (cs.setIfInBounds o (.int .i64 255))[o]? = some (.int .i64 255) := by
      rw [Array.getElem?_setIfInBounds, if_pos rfl, if_pos (by simpa using (Array.getElem?_eq_some_iff.1 HC0.out).1)]
    have e1 : (cs.setIfInBounds o (.int .i64 255))[o + 1]? = some (.int .i64 xs) := by
      rw [Array.getElem?_setIfInBounds, if_neg (by omega)]; exact HC1.out
    have e2 : (cs.setIfInBounds o (.int .i64 255))[o + 2]? = some (.int .i64 xl) := by
      rw [Array.getElem?_setIfInBounds, if_neg (by omega)]; exact HC2.out
    have G1 : Hid (∀ w2 : World, (w.setCell ⟨b, o, none⟩ (.int .i64 255)).grownBy w2 (some gc) → w.grownBy (w2.setCell ⟨b, o, none⟩ (.int .i64 (-1))) (some gc)) := fun w2 h => gset_back HB.out HC0.out h hbg
    go_enter Tryd.func99, Tryd.ntmps99
    go_upto_region 2 with fail
    clear d0 d1 d2 df hlt
    have hsz : (w.setCell ⟨b, o, none⟩ (.int .i64 255)).heap.size = w.heap.size := by simp [World.setCell]
    rw [← hsz] at hgl
    clear hsz
    generalize w.setCell ⟨b, o, none⟩ (.int .i64 255) = W1 at *
    have HS1 := Lib.hid S1
    have HB1 := Lib.hid B1
    have HE := Lib.hid (And.intro e0 (And.intro e1 e2))
    have d0 := (B1.cell o).trans e0
    have d1 := (B1.cell (o + 1)).trans e1
    have d2 := (B1.cell (o + 2)).trans e2
    have hlt := B1.lt
    clear S1 B1 e0 e1 e2
    have HO : Hid (∀ c : Nat, Calls Tryd.prog 97 #[.func (.func 90) #[] #[.pointer (some ⟨gc, 0, none⟩)], .slice (some ⟨W1.heap.size, 0, none⟩) 3 c] ((W1.alloc (.cells #[.pointer (some ⟨b, o, none⟩), .pointer (some ⟨b, o + 1, none⟩), .pointer (some ⟨b, o + 2, none⟩)] 100)).drew) (DonePost gc (l ++ ob [255, xs, xl]) W1)) := fun c => ones3 o (o + 1) (o + 2) 255 xs xl HS1.out HB1.out hbg ⟨HE.out.1, HE.out.2.1, HE.out.2.2, trivial⟩ HN.out (by omega)
    go_region_held3 (fun _ => True) (trivial) ((go_at_call 97; (with_reducible refine (HO.out _).mono ?_); rintro e w2 ⟨rfl, hw2, hg2⟩; have B2 := gblk hg2 HB1.out hbg; have t0 := (B2.cell o).trans HE.out.1; have tf := B2.frozen o; have tl := B2.lt))
    go_wp2_with fail
    refine bodyPost_end (v := .tuple #[]) (by simp [results, Tryd.results99, go_sem]) rfl ⟨rfl, ?_, G1.out _ hg2⟩
    exact hw2.far B2 (by decide) (by decide) _ _
  · have hm1 : (xo == -1) = false := by simpa using hm
    have hm2 : (xo == 255) = false := by simpa using h255
    have HOW : ow xo = xo := by rw [ow, if_neg hm]
    rw [HOW] at HN ⊢
    have HO : Hid (∀ c : Nat, Calls Tryd.prog 97 #[.func (.func 90) #[] #[.pointer (some ⟨gc, 0, none⟩)], .slice (some ⟨w.heap.size, 0, none⟩) 3 c] ((w.alloc (.cells #[.pointer (some ⟨b, o, none⟩), .pointer (some ⟨b, o + 1, none⟩), .pointer (some ⟨b, o + 2, none⟩)] 100)).drew) (DonePost gc (l ++ ob [xo, xs, xl]) w)) := fun c => ones3 o (o + 1) (o + 2) xo xs xl HS.out HB.out hbg ⟨HC0.out, HC1.out, HC2.out, trivial⟩ HN.out (by omega)
    clear hm h255 HOW
    go_enter Tryd.func99, Tryd.ntmps99
    go_upto_region 2 with fail
    go_region_held3 (fun _ => True) (trivial) ((go_at_call 97; (with_reducible refine (HO.out _).mono ?_); rintro e w2 ⟨rfl, hw2, hg2⟩; have B2 := gblk hg2 HB.out hbg; have t0 := (B2.cell o).trans HC0.out; have tf := B2.frozen o; have tl := B2.lt))
    go_wp2_with fail
    exact bodyPost_end (v := .tuple #[]) (by simp [results, Tryd.results99, go_sem]) rfl ⟨rfl, hw2, hg2⟩
end Go.Proofs.YtfbbgoahipejlabDoor.T
/- package table, what is written: a channel, an Action. -/
namespace Go.Proofs.YtfbbgoahipejlabDoor.T
open Go.RowKit Go.Proofs.YtfbbgoahipejlabDoor.G Go.Proofs.YtfbbgoahipejlabDoor.C04

def chnB (x : Chn) : List UInt8 := ob [x.k, x.f, x.t, x.w] ++ (W.num 4 x.r ++ (ob [x.la, x.d, x.h] ++ (W.num 4 x.li ++ ob [x.ra, x.c])))
structure ChnOk (x : Chn) : Prop where
  a : ∀ z ∈ [x.k, x.f, x.t, x.w], W.inN 1 z = true
  r : W.inN 4 x.r = true
  b : ∀ z ∈ [x.la, x.d, x.h], W.inN 1 z = true
  li : W.inN 4 x.li = true
  c : ∀ z ∈ [x.ra, x.c], W.inN 1 z = true
def ChnIn (cs : Array Value) (o : Nat) (x : Chn) : Prop := cs[o]? = some (.int .i64 x.k) ∧ cs[o + 1]? = some (.int .i64 x.f) ∧ cs[o + 2]? = some (.int .i64 x.t) ∧ cs[o + 3]? = some (.int .i64 x.w) ∧ cs[o + 4]? = some (.int .i64 x.r) ∧ cs[o + 5]? = some (.int .i64 x.la) ∧ cs[o + 6]? = some (.int .i64 x.d) ∧ cs[o + 7]? = some (.int .i64 x.h) ∧ cs[o + 8]? = some (.int .i64 x.li) ∧ cs[o + 9]? = some (.int .i64 x.ra) ∧ cs[o + 10]? = some (.int .i64 x.c)
theorem num4_len (v : Int) : (W.num 4 v).length = 4 := by simp [W.num]
set_option maxHeartbeats 1000000 in
set_option maxRecDepth 100000 in
theorem channel_wr {w : World} {gc b o : Nat} {cs : Array Value} {l : List UInt8} (x : Chn) (h : WS gc l w) (hb : Blk w b 118 cs) (hc : ChnIn cs o x) (hok : ChnOk x) (hl : l.length ≤ 2000) :
    Calls Tryd.prog 101 #[.func (.func 90) #[] #[.pointer (some ⟨gc, 0, none⟩)], .pointer (some ⟨b, o, none⟩)] w (DonePost gc (l ++ chnB x) w) := by
  have hbg : b ≠ gc := by
    obtain ⟨A, c, h1, _⟩ := h
    exact hb.ne_ h1 (by decide)
  have hgl : gc < w.heap.size := by
    obtain ⟨A, c, h1, _⟩ := h
    exact h1.lt
  have HB := Lib.hid hb
  have HS := Lib.hid h
  have HC := Lib.hid hc
  have HOK := Lib.hid hok
  have hlt := hb.lt
  obtain ⟨e0, e1, e2, e3, e4, e5, e6, e7, e8, e9, e10⟩ := hc
  have H1 := Lib.hid (show Has cs [o, o + 1, o + 2, o + 3] [x.k, x.f, x.t, x.w] from ⟨e0, e1, e2, e3, trivial⟩)
  have H2 := Lib.hid (show Has cs [o + 5, o + 6, o + 7] [x.la, x.d, x.h] from ⟨e5, e6, e7, trivial⟩)
  have H3 := Lib.hid (show Has cs [o + 9, o + 10] [x.ra, x.c] from ⟨e9, e10, trivial⟩)
  have E4 := Lib.hid e4
  have E8 := Lib.hid e8
  clear h hb hok e0 e1 e2 e3 e4 e5 e6 e7 e8 e9 e10
  have n1 : (l ++ ob [x.k, x.f, x.t, x.w]).length = l.length + 4 := by rw [List.length_append, ob_len]; rfl
  have n2 : (l ++ ob [x.k, x.f, x.t, x.w] ++ W.num 4 x.r).length = l.length + 8 := by rw [List.length_append, n1, num4_len]
  have n3 : (l ++ ob [x.k, x.f, x.t, x.w] ++ W.num 4 x.r ++ ob [x.la, x.d, x.h]).length = l.length + 11 := by rw [List.length_append, n2, ob_len]; rfl
  have n4 : (l ++ ob [x.k, x.f, x.t, x.w] ++ W.num 4 x.r ++ ob [x.la, x.d, x.h] ++ W.num 4 x.li).length = l.length + 15 := by rw [List.length_append, n3, num4_len]
  have N1 := Lib.hid n1
  have N2 := Lib.hid n2
  have N3 := Lib.hid n3
  have N4 := Lib.hid n4
  clear n1 n2 n3 n4
  have M1 : Hid (∀ c : Nat, Calls Tryd.prog 97 #[.func (.func 90) #[] #[.pointer (some ⟨gc, 0, none⟩)], .slice (some ⟨w.heap.size, 0, none⟩) 4 c] ((w.alloc (.cells #[.pointer (some ⟨b, o, none⟩), .pointer (some ⟨b, o + 1, none⟩), .pointer (some ⟨b, o + 2, none⟩), .pointer (some ⟨b, o + 3, none⟩)] 100)).drew) (DonePost gc (l ++ ob [x.k, x.f, x.t, x.w]) w)) := fun c => ones4 o (o + 1) (o + 2) (o + 3) x.k x.f x.t x.w HS.out HB.out hbg H1.out HOK.out.a (by omega)
  go_enter Tryd.func101, Tryd.ntmps101
  go_wp2_with fail
  go_region_held3 (fun _ => True) (trivial) ((go_at_call 97; (with_reducible refine (M1.out _).mono ?_); rintro e w1 ⟨rfl, hw1, hg1⟩))
  have B1 := gblk hg1 HB.out hbg
  have G1 := Lib.hid hg1
  have b4 := (B1.cell (o + 4)).trans E4.out
  have z1 := B1.lt
  clear hg1
  go_upto_region 2 with (go_at_call 90; (with_reducible refine (clos_any 4 x.r hw1 (by rw [N1.out]; omega) rfl HOK.out.r b4).mono ?_); rintro e w2 ⟨rfl, hw2, hg2⟩)
  have B2 := gblk hg2 B1 hbg
  have G2 := Lib.hid (gtrans G1.out hg2)
  have M2 : Hid (∀ c : Nat, Calls Tryd.prog 97 #[.func (.func 90) #[] #[.pointer (some ⟨gc, 0, none⟩)], .slice (some ⟨w2.heap.size, 0, none⟩) 3 c] ((w2.alloc (.cells #[.pointer (some ⟨b, o + 5, none⟩), .pointer (some ⟨b, o + 6, none⟩), .pointer (some ⟨b, o + 7, none⟩)] 100)).drew) (DonePost gc (l ++ ob [x.k, x.f, x.t, x.w] ++ W.num 4 x.r ++ ob [x.la, x.d, x.h]) w2)) := fun c => ones3 (o + 5) (o + 6) (o + 7) x.la x.d x.h hw2 B2 hbg H2.out HOK.out.b (by rw [N2.out]; omega)
  clear b4 z1 hg2 hw1 B1 M1
  have z2 := B2.lt
  go_region_held3 (fun _ => True) (trivial) ((go_at_call 97; (with_reducible refine (M2.out _).mono ?_); rintro e w3 ⟨rfl, hw3, hg3⟩))
  have B3 := gblk hg3 B2 hbg
  have G3 := Lib.hid (gtrans G2.out hg3)
  have b8 := (B3.cell (o + 8)).trans E8.out
  have z3 := B3.lt
  clear hg3 hw2 B2 M2 z2
  go_upto_region 4 with (go_at_call 90; (with_reducible refine (clos_any 4 x.li hw3 (by rw [N3.out]; omega) rfl HOK.out.li b8).mono ?_); rintro e w4 ⟨rfl, hw4, hg4⟩)
  have B4 := gblk hg4 B3 hbg
  have G4 := Lib.hid (gtrans G3.out hg4)
  have M3 : Hid (∀ c : Nat, Calls Tryd.prog 97 #[.func (.func 90) #[] #[.pointer (some ⟨gc, 0, none⟩)], .slice (some ⟨w4.heap.size, 0, none⟩) 2 c] ((w4.alloc (.cells #[.pointer (some ⟨b, o + 9, none⟩), .pointer (some ⟨b, o + 10, none⟩)] 100)).drew) (DonePost gc (l ++ ob [x.k, x.f, x.t, x.w] ++ W.num 4 x.r ++ ob [x.la, x.d, x.h] ++ W.num 4 x.li ++ ob [x.ra, x.c]) w4)) := fun c => ones2 (o + 9) (o + 10) x.ra x.c hw4 B4 hbg H3.out HOK.out.c (by rw [N4.out]; omega)
  clear b8 z3 hg4 hw3 B3
  have z4 := B4.lt
  go_region_held3 (fun _ => True) (trivial) ((go_at_call 97; (with_reducible refine (M3.out _).mono ?_); rintro e w5 ⟨rfl, hw5, hg5⟩))
  go_wp2_with fail
  refine bodyPost_end (v := .tuple #[]) (by simp [results, Tryd.results101, go_sem]) rfl ⟨rfl, ?_, gtrans G4.out hg5⟩
  rw [chnB, ← List.append_assoc, ← List.append_assoc, ← List.append_assoc, ← List.append_assoc]
  exact hw5
theorem action_wr {w : World} {gc b o : Nat} {l : List UInt8} (z : Int) (h : WS gc l w) (hc : w.cell? ⟨b, o, none⟩ = some (.int .i64 z)) (hn : W.inN 1 z = true) (hl : l.length ≤ 2000) :
    Calls Tryd.prog 103 #[.func (.func 90) #[] #[.pointer (some ⟨gc, 0, none⟩)], .pointer (some ⟨b, o, none⟩)] w (DonePost gc (l ++ ob [z]) w) := by
  have HS := Lib.hid h
  clear h
  go_enter Tryd.func103, Tryd.ntmps103
  go_wp2_with (go_at_call 90; (with_reducible refine (clos_any 1 z HS.out (by omega) rfl hn hc).mono ?_); rintro e w1 ⟨rfl, hw1, hg1⟩)
  refine bodyPost_end (v := .tuple #[]) (by simp [results, Tryd.results103, go_sem]) rfl ⟨rfl, ?_, hg1⟩
  simpa [ob] using hw1
end Go.Proofs.YtfbbgoahipejlabDoor.T
