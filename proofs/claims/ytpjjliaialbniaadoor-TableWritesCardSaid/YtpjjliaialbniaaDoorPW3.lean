/- package table, what is written: a window, a channel, an Action. -/
import Derived.Test.YtpjjliaialbniaaDoorPWA
import Derived.Deep.DeepCutAuto
import Derived.Deep.CutRange
import Derived.Deep.CutBlock
import Derived.Deep.RegionHeld3
namespace Go.Proofs.YtpjjliaialbniaaDoor.T
open Go.RowKit Go.Proofs.YtpjjliaialbniaaDoor.G Go.Proofs.YtpjjliaialbniaaDoor.C04

theorem gset_back {w w2 : World} {gc b o : Nat} {t : TypeId} {cs : Array Value} {v u : Value} (hB : Blk w b t cs) (ho : cs[o]? = some v) (hg : (w.setCell ⟨b, o, none⟩ u).grownBy w2 (some gc)) (hne : b ≠ gc) : w.grownBy (w2.setCell ⟨b, o, none⟩ v) (some gc) := by
  refine ⟨hg.os, hg.tape, hg.output, by simpa [World.setCell] using hg.size, fun g hlt hn => ?_⟩
  by_cases e : g = b
  · subst e
    have B1 := hB.set_ o u
    have B2 : Blk w2 g t (cs.setIfInBounds o u) := gblk hg B1 hne
    have B3 := B2.set_ o v
    have hcs : (cs.setIfInBounds o u).setIfInBounds o v = cs := by
      apply Array.ext_getElem?
      intro i
      rw [Array.getElem?_setIfInBounds]
      by_cases hi : o = i
      · subst hi
        rw [if_pos rfl, ho, if_pos (by simpa using (Array.getElem?_eq_some_iff.1 ho).1)]
      · rw [if_neg hi, Array.getElem?_setIfInBounds, if_neg hi]
    rw [hcs] at B3
    exact B3.trans hB.symm
  · have hg1 : g < (w.setCell ⟨b, o, none⟩ u).heap.size := by simpa [World.setCell] using hlt
    rw [Below.heap_setCell w2 _ _ g (fun h => e h), hg.block g hg1 hn, Below.heap_setCell w _ _ g (fun h => e h)]
def ow (o : Int) : Int := if o = -1 then 255 else o
set_option maxHeartbeats 1000000 in
set_option maxRecDepth 100000 in
theorem window_any {w : World} {gc b o : Nat} {cs : Array Value} {l : List UInt8} (x : Win) (h : WS gc l w) (hb : Blk w b 44 cs) (c0 : cs[o]? = some (.int .i64 x.o)) (c1 : cs[o + 1]? = some (.int .i64 x.s)) (c2 : cs[o + 2]? = some (.int .i64 x.l))
    (hn : ∀ z ∈ [ow x.o, x.s, x.l], W.inN 1 z = true) (h255 : x.o ≠ 255) (hl : l.length ≤ 2000) :
    Calls Tryd.prog 41 #[.func (.func 18) #[] #[.pointer (some ⟨gc, 0, none⟩)], .pointer (some ⟨b, o, none⟩)] w (DonePost gc (l ++ ob [ow x.o, x.s, x.l]) w) := by
  have hbg : b ≠ gc := by
    obtain ⟨A, c, h1, _⟩ := h
    exact hb.ne_ h1 (by decide)
  have hgl : gc < w.heap.size := by
    obtain ⟨A, c, h1, _⟩ := h
    exact h1.lt
  have HB := Lib.hid hb
  have HS := Lib.hid h
  have HN := Lib.hid hn
  have HC0 := Lib.hid c0
  have d0 := (hb.cell o).trans c0
  have d1 := (hb.cell (o + 1)).trans c1
  have d2 := (hb.cell (o + 2)).trans c2
  have df := hb.frozen o
  have hlt := hb.lt
  have HC1 := Lib.hid c1
  have HC2 := Lib.hid c2
  clear h hb hn c0 c1 c2
  obtain ⟨xo, xs, xl⟩ := x
  simp only at *
  by_cases hm : xo = -1
  · subst hm
    have S1 := HS.out.far HB.out (by decide) (by decide) o (.int .i64 255)
    have B1 := HB.out.set_ o (.int .i64 255)
    have e0 : (cs.setIfInBounds o (.int .i64 255))[o]? = some (.int .i64 255) := by
      rw [Array.getElem?_setIfInBounds, if_pos rfl, if_pos (by simpa using (Array.getElem?_eq_some_iff.1 HC0.out).1)]
    have e1 : (cs.setIfInBounds o (.int .i64 255))[o + 1]? = some (.int .i64 xs) := by
      rw [Array.getElem?_setIfInBounds, if_neg (by omega)]; exact HC1.out
    have e2 : (cs.setIfInBounds o (.int .i64 255))[o + 2]? = some (.int .i64 xl) := by
      rw [Array.getElem?_setIfInBounds, if_neg (by omega)]; exact HC2.out
    have G1 : Hid (∀ w2 : World, (w.setCell ⟨b, o, none⟩ (.int .i64 255)).grownBy w2 (some gc) → w.grownBy (w2.setCell ⟨b, o, none⟩ (.int .i64 (-1))) (some gc)) := fun w2 h => gset_back HB.out HC0.out h hbg
    go_enter Tryd.func41, Tryd.ntmps41
    go_upto_region 2 with fail
    clear d0 d1 d2 df hlt
    have hsz : (w.setCell ⟨b, o, none⟩ (.int .i64 255)).heap.size = w.heap.size := by simp [World.setCell]
    rw [← hsz] at hgl
    clear hsz
    generalize w.setCell ⟨b, o, none⟩ (.int .i64 255) = W1 at *
    have HS1 := Lib.hid S1
    have HB1 := Lib.hid B1
    have HE := Lib.hid (And.intro e0 (And.intro e1 e2))
    have d0 := (B1.cell o).trans e0
    have d1 := (B1.cell (o + 1)).trans e1
    have d2 := (B1.cell (o + 2)).trans e2
    have hlt := B1.lt
    clear S1 B1 e0 e1 e2
    have HO : Hid (∀ c : Nat, Calls Tryd.prog 39 #[.func (.func 18) #[] #[.pointer (some ⟨gc, 0, none⟩)], .slice (some ⟨W1.heap.size, 0, none⟩) 3 c] ((W1.alloc (.cells #[.pointer (some ⟨b, o, none⟩), .pointer (some ⟨b, o + 1, none⟩), .pointer (some ⟨b, o + 2, none⟩)] 51)).drew) (DonePost gc (l ++ ob [255, xs, xl]) W1)) := fun c => ones3 o (o + 1) (o + 2) 255 xs xl HS1.out HB1.out hbg ⟨HE.out.1, HE.out.2.1, HE.out.2.2, trivial⟩ HN.out (by omega)
    go_region_held3 (fun _ => True) (trivial) ((go_at_call 39; (with_reducible refine (HO.out _).mono ?_); rintro e w2 ⟨rfl, hw2, hg2⟩; have B2 := gblk hg2 HB1.out hbg; have t0 := (B2.cell o).trans HE.out.1; have tf := B2.frozen o; have tl := B2.lt))
    go_wp2_with fail
    refine bodyPost_end (v := .tuple #[]) (by simp [results, Tryd.results41, go_sem]) rfl ⟨rfl, ?_, G1.out _ hg2⟩
    exact hw2.far B2 (by decide) (by decide) _ _
  · have hm1 : (xo == -1) = false := by simpa using hm
    have hm2 : (xo == 255) = false := by simpa using h255
    have HOW : ow xo = xo := by rw [ow, if_neg hm]
    rw [HOW] at HN ⊢
    have HO : Hid (∀ c : Nat, Calls Tryd.prog 39 #[.func (.func 18) #[] #[.pointer (some ⟨gc, 0, none⟩)], .slice (some ⟨w.heap.size, 0, none⟩) 3 c] ((w.alloc (.cells #[.pointer (some ⟨b, o, none⟩), .pointer (some ⟨b, o + 1, none⟩), .pointer (some ⟨b, o + 2, none⟩)] 51)).drew) (DonePost gc (l ++ ob [xo, xs, xl]) w)) := fun c => ones3 o (o + 1) (o + 2) xo xs xl HS.out HB.out hbg ⟨HC0.out, HC1.out, HC2.out, trivial⟩ HN.out (by omega)
    clear hm h255 HOW
    go_enter Tryd.func41, Tryd.ntmps41
    go_upto_region 2 with fail
    go_region_held3 (fun _ => True) (trivial) ((go_at_call 39; (with_reducible refine (HO.out _).mono ?_); rintro e w2 ⟨rfl, hw2, hg2⟩; have B2 := gblk hg2 HB.out hbg; have t0 := (B2.cell o).trans HC0.out; have tf := B2.frozen o; have tl := B2.lt))
    go_wp2_with fail
    exact bodyPost_end (v := .tuple #[]) (by simp [results, Tryd.results41, go_sem]) rfl ⟨rfl, hw2, hg2⟩
end Go.Proofs.YtpjjliaialbniaaDoor.T
