/- package table, what is read: a window, a channel, an Action. -/
import Derived.Test.YtpjjliaialbniaaDoorPRA
import Derived.Deep.DeepCutAuto
import Derived.Deep.CutRange
import Derived.Deep.CutBlock
import Derived.Deep.RegionHeld3
namespace Go.Proofs.YtpjjliaialbniaaDoor.T
open Go.RowKit Go.Proofs.YtpjjliaialbniaaDoor.G Go.Proofs.YtpjjliaialbniaaDoor.C04

theorem set_twice (w : World) (b i : Nat) (u v : Value) : (w.setCell ⟨b, i, none⟩ u).setCell ⟨b, i, none⟩ v = w.setCell ⟨b, i, none⟩ v := by
  unfold World.setCell
  simp only
  congr 1
  apply Array.ext_getElem?
  intro g
  simp only [Array.getElem?_modify]
  by_cases h : b = g
  · subst h
    simp only [if_true]
    cases w.heap[b]? with
    | none => rfl
    | some o => cases o <;> simp
  · simp only [if_neg h]
theorem set_comm (w : World) (b i j : Nat) (hij : i ≠ j) (u v : Value) : (w.setCell ⟨b, i, none⟩ u).setCell ⟨b, j, none⟩ v = (w.setCell ⟨b, j, none⟩ v).setCell ⟨b, i, none⟩ u := by
  unfold World.setCell
  simp only
  congr 1
  apply Array.ext_getElem?
  intro g
  simp only [Array.getElem?_modify]
  by_cases h : b = g
  · subst h
    simp only [if_true]
    cases w.heap[b]? with
    | none => rfl
    | some o => cases o <;> simp [Array.setIfInBounds_comm _ _ hij]
  · simp only [if_neg h]
def uo (y : Int) : Int := if y = 255 then -1 else y
def rWin (l : List UInt8) (e : Int) : Win := ⟨uo (W.nxV l e 1), W.nxV (rl [1] l e) (re [1] l e) 1, W.nxV (rl [1, 1] l e) (re [1, 1] l e) 1⟩
theorem o1_3 : o1 3 = [1, 1, 1] := rfl
set_option maxHeartbeats 1000000 in
set_option maxRecDepth 100000 in
theorem window_rd {w : World} {gp br b o : Nat} {cs : Array Value} {l : List UInt8} {e : Int} (h : RS gp br l e w) (hB : Blk w b 44 cs) (h0 : cs[o]? = some (.int .i64 0)) (hsz : o + 2 < cs.size) :
    Calls Tryd.prog 41 #[.func (.func 26) #[] #[.pointer (some ⟨gp, 0, none⟩)], .pointer (some ⟨b, o, none⟩)] w fun r w' => r = .returned (.tuple #[]) ∧ RS gp br (rl [1, 1, 1] l e) (re [1, 1, 1] l e) w' ∧ (sm w b [o, o + 1, o + 2] [(rWin l e).o, (rWin l e).s, (rWin l e).l]).grownBy w' (some br) := by
  have hbr : b ≠ br := by
    obtain ⟨cs', h'⟩ := RS.br _ _ _ _ _ h
    exact (h'.ne_ hB (by decide)).symm
  have HB := Lib.hid hB
  have HO : Hid (∀ c : Nat, Calls Tryd.prog 39 #[.func (.func 26) #[] #[.pointer (some ⟨gp, 0, none⟩)], .slice (some ⟨w.heap.size, 0, none⟩) 3 c] ((w.alloc (.cells #[.pointer (some ⟨b, o, none⟩), .pointer (some ⟨b, o + 1, none⟩), .pointer (some ⟨b, o + 2, none⟩)] 51)).drew) (RPost gp br b l e [o, o + 1, o + 2] (o1 3) w)) := fun c => ones_rn [o, o + 1, o + 2] rfl h hB (fun i hi => by simp only [List.mem_cons, List.not_mem_nil, or_false] at hi; omega) (by decide) (by decide) (by decide) (by simp)
  have d0 := (hB.cell o).trans h0
  have hlt := hB.lt
  obtain ⟨y0, hy0⟩ : ∃ y, W.nxV l e 1 = y := ⟨_, rfl⟩
  obtain ⟨y1, hy1⟩ : ∃ y, W.nxV (rl [1] l e) (re [1] l e) 1 = y := ⟨_, rfl⟩
  obtain ⟨y2, hy2⟩ : ∃ y, W.nxV (rl [1, 1] l e) (re [1, 1] l e) 1 = y := ⟨_, rfl⟩
  have HV : Hid (rv (o1 3) l e = [y0, y1, y2]) := by
    show rv (o1 3) l e = [y0, y1, y2]
    rw [← hy0, ← hy1, ← hy2]; rfl
  have HW : Hid (rWin l e = ⟨uo y0, y1, y2⟩) := by
    show rWin l e = ⟨uo y0, y1, y2⟩
    rw [rWin, hy0, hy1, hy2]
  clear hy0 hy1 hy2 h
  have hso : o < cs.size := by omega
  have q0 : (sc cs [o, o + 1, o + 2] [y0, y1, y2])[o]? = some (.int .i64 y0) := by
    simp only [sc]
    rw [Array.getElem?_setIfInBounds, if_neg (by omega), Array.getElem?_setIfInBounds, if_neg (by omega), Array.getElem?_setIfInBounds, if_pos rfl, if_pos hso]
  have HQ := Lib.hid q0
  clear q0 hB h0
  go_enter Tryd.func41, Tryd.ntmps41
  go_upto_region 2 with fail
  go_region_held3 (fun _ => True) (trivial) ((go_at_call 39; (with_reducible refine (HO.out _).mono ?_); rintro r w2 ⟨rfl, hw2, hg2⟩))
  rw [HV.out] at hg2
  have B2 := gblk hg2 (Blk.sm [o, o + 1, o + 2] [y0, y1, y2] HB.out) hbr
  have t0 := (B2.cell o).trans HQ.out
  have tf := B2.frozen o
  have tl := B2.lt
  have G2 := Lib.hid hg2
  have W2 := Lib.hid hw2
  clear hg2 hw2
  by_cases hy : y0 = 255
  · subst hy
    go_wp2_with fail
    refine bodyPost_end (v := .tuple #[]) (by simp [results, Tryd.results41, go_sem]) rfl ⟨rfl, ?_, ?_⟩
    · obtain ⟨r1, r2, r3⟩ := W2.out
      exact ⟨r1.far (p := ⟨b, o, none⟩) (r1.ne_ B2 (by decide)) _, r2.farT B2 (by decide) (by decide) _ _, r3⟩
    · rw [HW.out]
      have g1 := gset (i := o) (u := .int .i64 (-1)) (Blk.sm [o, o + 1, o + 2] [255, y1, y2] HB.out) hbr G2.out
      have e1 : (sm w b [o, o + 1, o + 2] [255, y1, y2]).setCell ⟨b, o, none⟩ (.int .i64 (-1)) = sm w b [o, o + 1, o + 2] [uo 255, y1, y2] := by
        simp only [sm]
        rw [set_comm _ b (o + 2) o (by omega), set_comm _ b (o + 1) o (by omega), set_twice]
        rfl
      rw [e1] at g1
      exact g1
  · have hy2 : (y0 == 255) = false := by simpa using hy
    have HY := Lib.hid hy
    clear hy
    go_wp2_with fail
    refine bodyPost_end (v := .tuple #[]) (by simp [results, Tryd.results41, go_sem]) rfl ⟨rfl, W2.out, ?_⟩
    rw [HW.out, uo, if_neg HY.out]
    exact G2.out
theorem action_rd {w : World} {gp br b o : Nat} {t : TypeId} {cs : Array Value} {l : List UInt8} {e : Int} (h : RS gp br l e w) (hB : Blk w b t cs) (hi : o < cs.size) (t1 : 100 ≠ t) (t2 : 5 ≠ t) (t3 : 58 ≠ t) :
    Calls Tryd.prog 45 #[.func (.func 26) #[] #[.pointer (some ⟨gp, 0, none⟩)], .pointer (some ⟨b, o, none⟩)] w fun r w' => r = .returned (.tuple #[]) ∧ RS gp br (rl [1] l e) (re [1] l e) w' ∧ (w.setCell ⟨b, o, none⟩ (.int .i64 (W.nxV l e 1))).grownBy w' (some br) := by
  have HS := Lib.hid h
  have HB := Lib.hid hB
  have HT := Lib.hid (And.intro t1 (And.intro t2 t3))
  clear h hB t1 t2 t3
  go_enter Tryd.func45, Tryd.ntmps45
  go_wp2_with (go_at_call 26; (with_reducible refine (clos_rd 1 HS.out HB.out hi HT.out.1 HT.out.2.1 HT.out.2.2).mono ?_); rintro r w1 ⟨rfl, hw1, hg1⟩)
  exact bodyPost_end (v := .tuple #[]) (by simp [results, Tryd.results45, go_sem]) rfl ⟨rfl, hw1, hg1⟩
end Go.Proofs.YtpjjliaialbniaaDoor.T
