/- Texts laid together: PR, PR2, PR3, PR4, PR5, PR6, PR7, PR8, Dec. -/
import Derived.Test.YtkhcmgnocbddmaaDoorPW6
import Derived.Deep.DeepCutAuto
import Derived.Deep.CutRange
import Derived.Deep.CutBlock
import Derived.Deep.RegionHeld3
import Derived.Test.YtkhcmgnocbddmaaDoorCln
import Derived.Test.YtkhcmgnocbddmaaDoorPW5
import Derived.Test.YtkhcmgnocbddmaaDoorOne0
import Derived.Test.YtkhcmgnocbddmaaDoorGood0
import Derived.Test.YtkhcmgnocbddmaaDoorLiv
/- package table, what is read: the closure that reads a number, and numbers of one byte, one behind the other. -/
namespace Go.Proofs.YtkhcmgnocbddmaaDoor.T
open Go.RowKit Go.Proofs.YtkhcmgnocbddmaaDoor.G Go.Proofs.YtkhcmgnocbddmaaDoor.C04

/-- A reader in block br, and a variable that points to it in block gp. -/
def RS (gp br : Nat) (l : List UInt8) (e : Int) (V : World) : Prop := Blk V gp 123 #[.pointer (some ⟨br, 0, none⟩)] ∧ W.Rdr V br l e ∧ l.length ≤ 2048
theorem RS.br (gp br : Nat) (l : List UInt8) (e : Int) (V : World) (h : RS gp br l e V) : ∃ cs, Blk V br 174 cs := by
  obtain ⟨_, ⟨A, c, h2⟩, _⟩ := h; exact ⟨_, h2.head⟩
theorem RS.below {gp br : Nat} {l : List UInt8} {e : Int} {w w' : World} (h : RS gp br l e w) (hb : Below w.heap.size w w') : RS gp br l e w' := ⟨h.1.bel hb, h.2.1.below hb, h.2.2⟩
theorem RS.alloc {gp br : Nat} {l : List UInt8} {e : Int} {w : World} (h : RS gp br l e w) (o : Obj) : RS gp br l e (w.alloc o) := h.below (b01 _ _)
theorem RS.drew {gp br : Nat} {l : List UInt8} {e : Int} {w : World} (h : RS gp br l e w) : RS gp br l e w.drew := ⟨h.1, h.2.1.drewN 1, h.2.2⟩
theorem gset {w W : World} {br b i : Nat} {t : TypeId} {cs : Array Value} {u : Value} (hB : Blk w b t cs) (hn : b ≠ br) (hg : w.grownBy W (some br)) : (w.setCell ⟨b, i, none⟩ u).grownBy (W.setCell ⟨b, i, none⟩ u) (some br) := by
  refine ⟨hg.os, hg.tape, hg.output, by simpa [World.setCell] using hg.size, fun k hlt hk => ?_⟩
  have hlt' : k < w.heap.size := by simpa [World.setCell] using hlt
  by_cases e : k = b
  · subst e
    exact ((gblk hg hB hn).set_ i u).trans (hB.set_ i u).symm
  · rw [Below.heap_setCell W _ _ k (fun h => e h), Below.heap_setCell w _ _ k (fun h => e h)]
    exact hg.block k hlt' hk
set_option maxHeartbeats 1000000 in
set_option maxRecDepth 100000 in
theorem clos_rd {w : World} {gp br b i : Nat} {t : TypeId} {cs : Array Value} {l : List UInt8} {e : Int} (n : Int) (h : RS gp br l e w) (hB : Blk w b t cs) (hi : i < cs.size) (t1 : 174 ≠ t) (t2 : 5 ≠ t) (t3 : 123 ≠ t) :
    Calls Tryd.prog 84 #[.int .i64 n, .pointer (some ⟨b, i, none⟩), .pointer (some ⟨gp, 0, none⟩)] w fun r w' => r = .returned (.tuple #[]) ∧ RS gp br (W.nxL l e n) (W.nxE l e n) w' ∧ (w.setCell ⟨b, i, none⟩ (.int .i64 (W.nxV l e n))).grownBy w' (some br) := by
  have hbr : b ≠ br := by
    obtain ⟨cs', h'⟩ := RS.br _ _ _ _ _ h
    exact (h'.ne_ hB t1).symm
  have hgb : gp ≠ br := by
    obtain ⟨cs', h'⟩ := RS.br _ _ _ _ _ h
    exact h.1.ne_ h' (by decide)
  have HS := Lib.hid h
  have HBB := Lib.hid hB
  have HT := Lib.hid (And.intro t1 (And.intro t2 t3))
  have HR := Lib.hid h.2.1
  have HL : Hid (l.length ≤ 4096) := Nat.le_trans h.2.2 (by omega)
  have k0 := h.1.cell 0
  clear h hB t1 t2 t3
  go_enter Tryd.func84, Tryd.ntmps84
  go_wp2_with (go_at_call 85; (with_reducible refine (W.next_any HR.out HL.out n).mono ?_); rintro r w1 ⟨rfl, hr1, hg1⟩; have B1 := gblk hg1 HBB.out hbr; have c1 := (B1.cell i).trans (Array.getElem?_eq_getElem hi); have f1 := B1.frozen i; have z1 := B1.lt)
  refine bodyPost_end (v := .tuple #[]) (by simp [results, Tryd.results84, go_sem]) rfl ⟨rfl, ?_, gset HBB.out hbr hg1⟩
  refine ⟨(gblk hg1 HS.out.1 hgb).far (p := ⟨b, i, none⟩) ((gblk hg1 HS.out.1 hgb).ne_ B1 HT.out.2.2) _, hr1.farT B1 HT.out.1 HT.out.2.1 _ _, Nat.le_trans (W.nxL_length _ _ _) HS.out.2.2⟩
end Go.Proofs.YtkhcmgnocbddmaaDoor.T
/- package table, what is read: numbers of one byte, one behind the other. -/
namespace Go.Proofs.YtkhcmgnocbddmaaDoor.T
open Go.RowKit Go.Proofs.YtkhcmgnocbddmaaDoor.G Go.Proofs.YtkhcmgnocbddmaaDoor.C04

def sm (V : World) (b : Nat) : List Nat → List Int → World
  | i :: is, y :: ys => sm (V.setCell ⟨b, i, none⟩ (.int .i64 y)) b is ys
  | _, _ => V
def sc (cs : Array Value) : List Nat → List Int → Array Value
  | i :: is, y :: ys => sc (cs.setIfInBounds i (.int .i64 y)) is ys
  | _, _ => cs
theorem sc_size : ∀ (is : List Nat) (ys : List Int) (cs : Array Value), (sc cs is ys).size = cs.size
  | i :: is, y :: ys, cs => by rw [sc, sc_size is ys]; simp
  | [], [], _ => rfl
  | [], _ :: _, _ => rfl
  | _ :: _, [], _ => rfl
theorem Blk.sm {b : Nat} {t : TypeId} : ∀ (is : List Nat) (ys : List Int) {V : World} {cs : Array Value}, Blk V b t cs → Blk (sm V b is ys) b t (sc cs is ys)
  | i :: is, y :: ys, _, _, h => Blk.sm is ys (h.set_ i _)
  | [], [], _, _, h => h
  | [], _ :: _, _, _, h => h
  | _ :: _, [], _, _, h => h
theorem sm_far {b g : Nat} (hn : g ≠ b) : ∀ (is : List Nat) (ys : List Int) (V : World), (sm V b is ys).heap[g]? = V.heap[g]?
  | i :: is, y :: ys, V => by rw [T.sm, sm_far hn is ys, Below.heap_setCell V _ _ g hn]
  | [], [], _ => rfl
  | [], _ :: _, _ => rfl
  | _ :: _, [], _ => rfl
theorem sm_size {b : Nat} : ∀ (is : List Nat) (ys : List Int) (V : World), (sm V b is ys).heap.size = V.heap.size
  | i :: is, y :: ys, V => by rw [T.sm, sm_size is ys]; simp [World.setCell]
  | [], [], _ => rfl
  | [], _ :: _, _ => rfl
  | _ :: _, [], _ => rfl
theorem sm_snoc {b i : Nat} {y : Int} : ∀ (is : List Nat) (ys : List Int) (V : World), is.length = ys.length → sm V b (is ++ [i]) (ys ++ [y]) = (sm V b is ys).setCell ⟨b, i, none⟩ (.int .i64 y)
  | i' :: is, y' :: ys, V, h => by simp only [List.cons_append, T.sm]; exact sm_snoc is ys _ (by simpa using h)
  | [], [], _, _ => rfl
  | [], _ :: _, _, h => by simp at h
  | _ :: _, [], _, h => by simp at h
theorem sm_grow {b br : Nat} {t : TypeId} (hn : b ≠ br) : ∀ (is : List Nat) (ys : List Int) {w V : World} {cs : Array Value}, Blk w b t cs → w.grownBy V (some br) → (sm w b is ys).grownBy (sm V b is ys) (some br)
  | i :: is, _ :: ys, _, _, _, h, g => sm_grow hn is ys (h.set_ i _) (gset h hn g)
  | [], [], _, _, _, _, g => g
  | [], _ :: _, _, _, _, _, g => g
  | _ :: _, [], _, _, _, _, g => g
def rv : List Int → List UInt8 → Int → List Int
  | [], _, _ => []
  | n :: ns, l, e => W.nxV l e n :: rv ns (W.nxL l e n) (W.nxE l e n)
def rl : List Int → List UInt8 → Int → List UInt8
  | [], l, _ => l
  | n :: ns, l, e => rl ns (W.nxL l e n) (W.nxE l e n)
def re : List Int → List UInt8 → Int → Int
  | [], _, e => e
  | n :: ns, l, e => re ns (W.nxL l e n) (W.nxE l e n)
theorem rv_snoc (n : Int) : ∀ (ns : List Int) (l : List UInt8) (e : Int), rv (ns ++ [n]) l e = rv ns l e ++ [W.nxV (rl ns l e) (re ns l e) n]
  | [], _, _ => rfl
  | m :: ns, l, e => by simp only [List.cons_append, rv, rl, re]; rw [rv_snoc n ns]
theorem rl_snoc (n : Int) : ∀ (ns : List Int) (l : List UInt8) (e : Int), rl (ns ++ [n]) l e = W.nxL (rl ns l e) (re ns l e) n
  | [], _, _ => rfl
  | m :: ns, l, e => by simp only [List.cons_append, rl, re]; rw [rl_snoc n ns]
theorem re_snoc (n : Int) : ∀ (ns : List Int) (l : List UInt8) (e : Int), re (ns ++ [n]) l e = W.nxE (rl ns l e) (re ns l e) n
  | [], _, _ => rfl
  | m :: ns, l, e => by simp only [List.cons_append, rl, re]; rw [re_snoc n ns]
theorem rv_len : ∀ (ns : List Int) (l : List UInt8) (e : Int), (rv ns l e).length = ns.length
  | [], _, _ => rfl
  | m :: ns, l, e => by simp only [rv, List.length_cons]; rw [rv_len ns]
abbrev o1 (k : Nat) : List Int := List.replicate k 1
theorem o1_succ (j : Nat) : o1 (j + 1) = o1 j ++ [1] := List.replicate_succ'
def RInv (w : World) (gp br b : Nat) (l : List UInt8) (e : Int) (is : List Nat) (i : Value) (V : World) : Prop := ∃ j : Nat, i = .int .i64 j ∧ j ≤ is.length ∧ RS gp br (rl (o1 j) l e) (re (o1 j) l e) V ∧ (sm w b (is.take j) (rv (o1 j) l e)).grownBy V (some br)
def RPost (gp br b : Nat) (l : List UInt8) (e : Int) (is : List Nat) (ns : List Int) (w : World) (r : Ending) (w' : World) : Prop := r = .returned (.tuple #[]) ∧ RS gp br (rl ns l e) (re ns l e) w' ∧ (sm w b is (rv ns l e)).grownBy w' (some br)
set_option maxHeartbeats 1000000 in
theorem ones_rd {w : World} {gp br b c k : Nat} {t : TypeId} {cs : Array Value} {A : Option Addr} {l : List UInt8} {e : Int} (is : List Nat) (hk : is.length = k) (h : RS gp br l e w) (hB : Blk w b t cs) (hi : ∀ i ∈ is, i < cs.size) (t1 : 174 ≠ t) (t2 : 5 ≠ t) (t3 : 123 ≠ t) (hr : Row w A (is.map (ptr b))) (hA : ∀ b' o, A = some ⟨b', o, none⟩ → b' ≠ br ∧ b' ≠ b) (hx : is.length ≤ 100) :
    Calls Tryd.prog 103 #[.func (.func 84) #[] #[.pointer (some ⟨gp, 0, none⟩)], .slice A k c] w (RPost gp br b l e is (o1 k) w) := by
  subst hk
  have hbr : b ≠ br := by
    obtain ⟨cs', h'⟩ := RS.br _ _ _ _ _ h
    exact (h'.ne_ hB t1).symm
  have HR := Lib.hid hr
  have HA := Lib.hid hA
  have HI := Lib.hid hi
  have HB := Lib.hid hB
  have HS := Lib.hid h
  have HT := Lib.hid (And.intro t1 (And.intro t2 t3))
  clear hr hA hi h hB t1 t2 t3
  go_enter Tryd.func103, Tryd.ntmps103
  go_wp2_with fail
  go_loopw [8] (fun i V => RInv w gp br b l e is i V) (fun i _ => is.length - (intOf i).toNat)
  case atStart => exact ⟨0, rfl, by omega, HS.out, grefl _ _⟩
  case round =>
    obtain ⟨j, rfl, hj, hw, hg⟩ := hrel
    by_cases hlt : j < is.length
    · obtain ⟨i, hij, _⟩ := drop_cons hlt
      obtain ⟨a, o, rfl, ha, hrc⟩ := HR.out (by simp; omega)
      obtain ⟨ha1, ha2⟩ := HA.out a o rfl
      have B1 := gblk hg (Blk.sm (is.take j) (rv (o1 j) l e) HB.out) hbr
      have hcell : (sm w b (is.take j) (rv (o1 j) l e)).cell? ⟨a, o + j, none⟩ = w.cell? ⟨a, o + j, none⟩ := World.cell?_of_block (sm_far ha2 _ _ _)
      have c1 : wr.cell? ⟨a, o + j, none⟩ = some (.pointer (some ⟨b, i, none⟩)) := (gcell hg (by rw [sm_size]; exact ha) ha1).trans (hcell.trans (hrc j _ (by simp [hij, ptr])))
      have hsz : i < (sc cs (is.take j) (rv (o1 j) l e)).size := by rw [sc_size]; exact HI.out i (List.mem_of_getElem? hij)
      have HX := Lib.hid hij
      have HG := Lib.hid hg
      have HW := Lib.hid hw
      have HB1 := Lib.hid B1
      clear hrc hij hg hw B1 hcell
      go_wp2_with (go_at_call 84; (with_reducible refine (clos_rd 1 HW.out HB1.out hsz HT.out.1 HT.out.2.1 HT.out.2.2).mono ?_); rintro r w1 ⟨rfl, hw1, hg1⟩)
      go_roundw
      case rel =>
        refine ⟨j + 1, by go_num, by omega, ?_, ?_⟩
        · rw [o1_succ, rl_snoc, re_snoc]; exact hw1
        · rw [List.take_add_one, HX.out, o1_succ, rv_snoc]
          simp only [Option.toList]
          rw [sm_snoc _ _ _ (by rw [rv_len, List.length_take, List.length_replicate]; omega)]
          exact World.grownBy.trans (gset (Blk.sm _ _ HB.out) hbr HG.out) hg1
      case measure => simp [intOf]; omega
    · obtain rfl : j = is.length := by omega
      go_wp2_with fail
      refine bodyPost_end (v := .tuple #[]) (by simp [results, Tryd.results103, go_sem]) rfl ⟨rfl, hw, ?_⟩
      rw [List.take_of_length_le (Nat.le_refl _)] at hg
      exact hg
theorem ones_rn {w : World} {gp br b c k : Nat} {t : TypeId} {cs : Array Value} {l : List UInt8} {e : Int} (is : List Nat) (hk : is.length = k) (h : RS gp br l e w) (hB : Blk w b t cs) (hi : ∀ i ∈ is, i < cs.size) (t1 : 174 ≠ t) (t2 : 5 ≠ t) (t3 : 123 ≠ t) (hx : is.length ≤ 100) :
    Calls Tryd.prog 103 #[.func (.func 84) #[] #[.pointer (some ⟨gp, 0, none⟩)], .slice (some ⟨w.heap.size, 0, none⟩) k c] ((w.alloc (.cells (is.map (ptr b)).toArray 118)).drew) (RPost gp br b l e is (o1 k) w) := by
  obtain ⟨cs', hbr'⟩ := RS.br _ _ _ _ _ h
  have hbr : b ≠ br := (hbr'.ne_ hB t1).symm
  refine (ones_rd (w := (w.alloc (.cells (is.map (ptr b)).toArray 118)).drew) (c := c) is hk (h.alloc _).drew (hB.alloc _) hi t1 t2 t3 ((Row.of_blk (Blk.new w 118 _) (fun j u hj => by simpa using hj)).drewN 1) (fun b' o e => by injection e with e; injection e with e; subst e; exact ⟨Nat.ne_of_gt hbr'.lt, Nat.ne_of_gt hB.lt⟩) hx).mono ?_
  rintro r w' ⟨rfl, h1, h2⟩
  exact ⟨rfl, h1, World.grownBy.trans (sm_grow hbr _ _ hB (gdrew (galloc (grefl w br) _))) h2⟩
end Go.Proofs.YtkhcmgnocbddmaaDoor.T
/- package table, what is read: a window, a channel, an Action. -/
namespace Go.Proofs.YtkhcmgnocbddmaaDoor.T
open Go.RowKit Go.Proofs.YtkhcmgnocbddmaaDoor.G Go.Proofs.YtkhcmgnocbddmaaDoor.C04

theorem set_twice (w : World) (b i : Nat) (u v : Value) : (w.setCell ⟨b, i, none⟩ u).setCell ⟨b, i, none⟩ v = w.setCell ⟨b, i, none⟩ v := by
  unfold World.setCell
  simp only
  congr 1
  apply Array.ext_getElem?
  intro g
  simp only [Array.getElem?_modify]
  by_cases h : b = g
  · subst h
    simp only [if_true]
    cases w.heap[b]? with
    | none => rfl
    | some o => cases o <;> simp
  · simp only [if_neg h]
theorem set_comm (w : World) (b i j : Nat) (hij : i ≠ j) (u v : Value) : (w.setCell ⟨b, i, none⟩ u).setCell ⟨b, j, none⟩ v = (w.setCell ⟨b, j, none⟩ v).setCell ⟨b, i, none⟩ u := by
  unfold World.setCell
  simp only
  congr 1
  apply Array.ext_getElem?
  intro g
  simp only [Array.getElem?_modify]
  by_cases h : b = g
  · subst h
    simp only [if_true]
    cases w.heap[b]? with
    | none => rfl
    | some o => cases o <;> simp [Array.setIfInBounds_comm _ _ hij]
  · simp only [if_neg h]
def uo (y : Int) : Int := if y = 255 then -1 else y
def rWin (l : List UInt8) (e : Int) : Win := ⟨uo (W.nxV l e 1), W.nxV (rl [1] l e) (re [1] l e) 1, W.nxV (rl [1, 1] l e) (re [1, 1] l e) 1⟩
theorem o1_3 : o1 3 = [1, 1, 1] := rfl
set_option maxHeartbeats 1000000 in
set_option maxRecDepth 100000 in
theorem window_rd {w : World} {gp br b o : Nat} {cs : Array Value} {l : List UInt8} {e : Int} (h : RS gp br l e w) (hB : Blk w b 54 cs) (h0 : cs[o]? = some (.int .i64 0)) (hsz : o + 2 < cs.size) :
    Calls Tryd.prog 105 #[.func (.func 84) #[] #[.pointer (some ⟨gp, 0, none⟩)], .pointer (some ⟨b, o, none⟩)] w fun r w' => r = .returned (.tuple #[]) ∧ RS gp br (rl [1, 1, 1] l e) (re [1, 1, 1] l e) w' ∧ (sm w b [o, o + 1, o + 2] [(rWin l e).o, (rWin l e).s, (rWin l e).l]).grownBy w' (some br) := by
  have hbr : b ≠ br := by
    obtain ⟨cs', h'⟩ := RS.br _ _ _ _ _ h
    exact (h'.ne_ hB (by decide)).symm
  have HB := Lib.hid hB
  have HO : Hid (∀ c : Nat, Calls Tryd.prog 103 #[.func (.func 84) #[] #[.pointer (some ⟨gp, 0, none⟩)], .slice (some ⟨w.heap.size, 0, none⟩) 3 c] ((w.alloc (.cells #[.pointer (some ⟨b, o, none⟩), .pointer (some ⟨b, o + 1, none⟩), .pointer (some ⟨b, o + 2, none⟩)] 118)).drew) (RPost gp br b l e [o, o + 1, o + 2] (o1 3) w)) := fun c => ones_rn [o, o + 1, o + 2] rfl h hB (fun i hi => by simp only [List.mem_cons, List.not_mem_nil, or_false] at hi; omega) (by decide) (by decide) (by decide) (by simp)
  have d0 := (hB.cell o).trans h0
  have hlt := hB.lt
  obtain ⟨y0, hy0⟩ : ∃ y, W.nxV l e 1 = y := ⟨_, rfl⟩
  obtain ⟨y1, hy1⟩ : ∃ y, W.nxV (rl [1] l e) (re [1] l e) 1 = y := ⟨_, rfl⟩
  obtain ⟨y2, hy2⟩ : ∃ y, W.nxV (rl [1, 1] l e) (re [1, 1] l e) 1 = y := ⟨_, rfl⟩
  have HV : Hid (rv (o1 3) l e = [y0, y1, y2]) := by
    show rv (o1 3) l e = [y0, y1, y2]
    rw [← hy0, ← hy1, ← hy2]; rfl
  have HW : Hid (rWin l e = ⟨uo y0, y1, y2⟩) := by
    show rWin l e = ⟨uo y0, y1, y2⟩
    rw [rWin, hy0, hy1, hy2]
  clear hy0 hy1 hy2 h
  have hso : o < cs.size := by omega
  have q0 : (sc cs [o, o + 1, o + 2] [y0, y1, y2])[o]? = some (.int .i64 y0) := by
    simp only [sc]
    rw [Array.getElem?_setIfInBounds, if_neg (by omega), Array.getElem?_setIfInBounds, if_neg (by omega), Array.getElem?_setIfInBounds, if_pos rfl, if_pos hso]
  have HQ := Lib.hid q0
  clear q0 hB h0
  go_enter Tryd.func105, Tryd.ntmps105
  go_upto_region 2 with fail
  go_region_held3 (fun _ => True) (trivial) ((go_at_call 103; (with_reducible refine (HO.out _).mono ?_); rintro r w2 ⟨rfl, hw2, hg2⟩))
  rw [HV.out] at hg2
  have B2 := gblk hg2 (Blk.sm [o, o + 1, o + 2] [y0, y1, y2] HB.out) hbr
  have t0 := (B2.cell o).trans HQ.out
  have tf := B2.frozen o
  have tl := B2.lt
  have G2 := Lib.hid hg2
  have W2 := Lib.hid hw2
  clear hg2 hw2
  by_cases hy : y0 = 255
  · subst hy
    go_wp2_with fail
    refine bodyPost_end (v := .tuple #[]) (by simp [results, Tryd.results105, go_sem]) rfl ⟨rfl, ?_, ?_⟩
    · obtain ⟨r1, r2, r3⟩ := W2.out
      exact ⟨r1.far (p := ⟨b, o, none⟩) (r1.ne_ B2 (by decide)) _, r2.farT B2 (by decide) (by decide) _ _, r3⟩
    · rw [HW.out]
      have g1 := gset (i := o) (u := .int .i64 (-1)) (Blk.sm [o, o + 1, o + 2] [255, y1, y2] HB.out) hbr G2.out
      have e1 : (sm w b [o, o + 1, o + 2] [255, y1, y2]).setCell ⟨b, o, none⟩ (.int .i64 (-1)) = sm w b [o, o + 1, o + 2] [uo 255, y1, y2] := by
        simp only [sm]
        rw [set_comm _ b (o + 2) o (by omega), set_comm _ b (o + 1) o (by omega), set_twice]
        rfl
      rw [e1] at g1
      exact g1
  · have hy2 : (y0 == 255) = false := by simpa using hy
    have HY := Lib.hid hy
    clear hy
    go_wp2_with fail
    refine bodyPost_end (v := .tuple #[]) (by simp [results, Tryd.results105, go_sem]) rfl ⟨rfl, W2.out, ?_⟩
    rw [HW.out, uo, if_neg HY.out]
    exact G2.out
theorem action_rd {w : World} {gp br b o : Nat} {t : TypeId} {cs : Array Value} {l : List UInt8} {e : Int} (h : RS gp br l e w) (hB : Blk w b t cs) (hi : o < cs.size) (t1 : 174 ≠ t) (t2 : 5 ≠ t) (t3 : 123 ≠ t) :
    Calls Tryd.prog 109 #[.func (.func 84) #[] #[.pointer (some ⟨gp, 0, none⟩)], .pointer (some ⟨b, o, none⟩)] w fun r w' => r = .returned (.tuple #[]) ∧ RS gp br (rl [1] l e) (re [1] l e) w' ∧ (w.setCell ⟨b, o, none⟩ (.int .i64 (W.nxV l e 1))).grownBy w' (some br) := by
  have HS := Lib.hid h
  have HB := Lib.hid hB
  have HT := Lib.hid (And.intro t1 (And.intro t2 t3))
  clear h hB t1 t2 t3
  go_enter Tryd.func109, Tryd.ntmps109
  go_wp2_with (go_at_call 84; (with_reducible refine (clos_rd 1 HS.out HB.out hi HT.out.1 HT.out.2.1 HT.out.2.2).mono ?_); rintro r w1 ⟨rfl, hw1, hg1⟩)
  exact bodyPost_end (v := .tuple #[]) (by simp [results, Tryd.results109, go_sem]) rfl ⟨rfl, hw1, hg1⟩
end Go.Proofs.YtkhcmgnocbddmaaDoor.T
/- package table, what is read: a channel. -/
namespace Go.Proofs.YtkhcmgnocbddmaaDoor.T
open Go.RowKit Go.Proofs.YtkhcmgnocbddmaaDoor.G Go.Proofs.YtkhcmgnocbddmaaDoor.C04

def cw : List Int := [1, 1, 1, 1, 4, 1, 1, 1, 4, 1, 1]
def coff (o : Nat) : List Nat := [o, o + 1, o + 2, o + 3, o + 4, o + 5, o + 6, o + 7, o + 8, o + 9, o + 10]
theorem gstep {X V V' : World} {b br : Nat} {t : TypeId} {cs : Array Value} (hn : b ≠ br) (hX : Blk X b t cs) (hg : X.grownBy V (some br)) (is : List Nat) (ys : List Int) (h : (sm V b is ys).grownBy V' (some br)) : (sm X b is ys).grownBy V' (some br) :=
  World.grownBy.trans (sm_grow hn is ys hX hg) h
theorem sm_app {b : Nat} (js : List Nat) (zs : List Int) : ∀ (is : List Nat) (ys : List Int) (V : World), is.length = ys.length → sm V b (is ++ js) (ys ++ zs) = sm (sm V b is ys) b js zs
  | i' :: is, y' :: ys, V, h => by simp only [List.cons_append, T.sm]; exact sm_app js zs is ys _ (by simpa using h)
  | [], [], _, _ => rfl
  | [], _ :: _, _, h => by simp at h
  | _ :: _, [], _, h => by simp at h
theorem rv_app (ms : List Int) : ∀ (ns : List Int) (l : List UInt8) (e : Int), rv (ns ++ ms) l e = rv ns l e ++ rv ms (rl ns l e) (re ns l e)
  | [], _, _ => rfl
  | m :: ns, l, e => by simp only [List.cons_append, rv, rl, re]; rw [rv_app ms ns]
theorem chn_eq (l : List UInt8) (e : Int) (w : World) (b o : Nat) {l1 l2 l3 l4 : List UInt8} {e1 e2 e3 e4 y2 y4 : Int} {y1 y3 : List Int} (a1 : rv (o1 4) l e = y1) (a2 : rl (o1 4) l e = l1) (a3 : re (o1 4) l e = e1) (b1 : W.nxV l1 e1 4 = y2) (b2 : W.nxL l1 e1 4 = l2) (b3 : W.nxE l1 e1 4 = e2)
    (c1 : rv (o1 3) l2 e2 = y3) (c2 : rl (o1 3) l2 e2 = l3) (c3 : re (o1 3) l2 e2 = e3) (d1 : W.nxV l3 e3 4 = y4) (d2 : W.nxL l3 e3 4 = l4) (d3 : W.nxE l3 e3 4 = e4) :
    sm w b (coff o) (rv cw l e) = sm (sm (sm (sm (sm w b [o, o + 1, o + 2, o + 3] y1) b [o + 4] [y2]) b [o + 5, o + 6, o + 7] y3) b [o + 8] [y4]) b [o + 9, o + 10] (rv (o1 2) l4 e4) := by
  have q1 : [o, o + 1, o + 2, o + 3].length = y1.length := by rw [← a1, rv_len]; rfl
  have q3 : [o + 5, o + 6, o + 7].length = y3.length := by rw [← c1, rv_len]; rfl
  have q2 : [o + 4].length = [y2].length := rfl
  have q4 : [o + 8].length = [y4].length := rfl
  rw [← sm_app _ _ _ _ _ q4, ← sm_app _ _ _ _ _ q3, ← sm_app _ _ _ _ _ q2, ← sm_app _ _ _ _ _ q1]
  have hc : cw = o1 4 ++ ([4] ++ (o1 3 ++ ([4] ++ o1 2))) := rfl
  have v2 : rv [4] l1 e1 = [y2] := by rw [← b1]; rfl
  have v4 : rv [4] l3 e3 = [y4] := by rw [← d1]; rfl
  have m2 : rl [4] l1 e1 = l2 := b2
  have k2 : re [4] l1 e1 = e2 := b3
  have m4 : rl [4] l3 e3 = l4 := d2
  have k4 : re [4] l3 e3 = e4 := d3
  rw [hc, rv_app, a1, a2, a3, rv_app, v2, m2, k2, rv_app, c1, c2, c3, rv_app, v4, m4, k4]
  rfl
set_option maxHeartbeats 2000000 in
set_option maxRecDepth 100000 in
theorem channel_rd {w : World} {gp br b o : Nat} {cs : Array Value} {l : List UInt8} {e : Int} (h : RS gp br l e w) (hB : Blk w b 56 cs) (hsz : o + 10 < cs.size) :
    Calls Tryd.prog 107 #[.func (.func 84) #[] #[.pointer (some ⟨gp, 0, none⟩)], .pointer (some ⟨b, o, none⟩)] w fun r w' => r = .returned (.tuple #[]) ∧ RS gp br (rl cw l e) (re cw l e) w' ∧ (sm w b (coff o) (rv cw l e)).grownBy w' (some br) := by
  have hbr : b ≠ br := by
    obtain ⟨cs', h'⟩ := RS.br _ _ _ _ _ h
    exact (h'.ne_ hB (by decide)).symm
  have HB := Lib.hid hB
  have M1 : Hid (∀ c : Nat, Calls Tryd.prog 103 #[.func (.func 84) #[] #[.pointer (some ⟨gp, 0, none⟩)], .slice (some ⟨w.heap.size, 0, none⟩) 4 c] ((w.alloc (.cells #[.pointer (some ⟨b, o, none⟩), .pointer (some ⟨b, o + 1, none⟩), .pointer (some ⟨b, o + 2, none⟩), .pointer (some ⟨b, o + 3, none⟩)] 118)).drew) (RPost gp br b l e [o, o + 1, o + 2, o + 3] (o1 4) w)) := fun c => ones_rn [o, o + 1, o + 2, o + 3] rfl h hB (fun i hi => by simp only [List.mem_cons, List.not_mem_nil, or_false] at hi; omega) (by decide) (by decide) (by decide) (by simp)
  have hlt := hB.lt
  clear h hB
  obtain ⟨y1, hy1⟩ : ∃ y, rv (o1 4) l e = y := ⟨_, rfl⟩
  obtain ⟨l1, hl1⟩ : ∃ y, rl (o1 4) l e = y := ⟨_, rfl⟩
  obtain ⟨e1, he1⟩ : ∃ y, re (o1 4) l e = y := ⟨_, rfl⟩
  have HY1 := Lib.hid (And.intro hy1 (And.intro hl1 he1))
  clear hy1 hl1 he1
  go_enter Tryd.func107, Tryd.ntmps107
  go_wp2_with fail
  go_region_held3 (fun _ => True) (trivial) ((go_at_call 103; (with_reducible refine (M1.out _).mono ?_); rintro r w1 ⟨rfl, hw1, hg1⟩))
  rw [HY1.out.1] at hg1
  rw [HY1.out.2.1, HY1.out.2.2] at hw1
  have X1 := Blk.sm [o, o + 1, o + 2, o + 3] y1 HB.out
  have s1 : (sc cs [o, o + 1, o + 2, o + 3] y1).size = cs.size := sc_size _ _ _
  generalize sc cs [o, o + 1, o + 2, o + 3] y1 = cs1 at *
  obtain ⟨Z1, hZ1⟩ : ∃ Z, sm w b [o, o + 1, o + 2, o + 3] y1 = Z := ⟨_, rfl⟩
  rw [hZ1] at hg1 X1
  have HZ1 := Lib.hid hZ1
  have B1 := gblk hg1 X1 hbr
  have z1 := B1.lt
  have G1 := Lib.hid hg1
  have i1 : o + 4 < cs1.size := by omega
  clear hg1 M1 hZ1
  go_upto_region 2 with (go_at_call 84; (with_reducible refine (clos_rd 4 hw1 B1 i1 (by decide) (by decide) (by decide)).mono ?_); rintro r w2 ⟨rfl, hw2, hg2⟩)
  obtain ⟨y2, hy2⟩ : ∃ y, W.nxV l1 e1 4 = y := ⟨_, rfl⟩
  obtain ⟨l2, hl2⟩ : ∃ y, W.nxL l1 e1 4 = y := ⟨_, rfl⟩
  obtain ⟨e2, he2⟩ : ∃ y, W.nxE l1 e1 4 = y := ⟨_, rfl⟩
  rw [hy2] at hg2
  rw [hl2, he2] at hw2
  have HY2 := Lib.hid (And.intro hy2 (And.intro hl2 he2))
  have hg2 : (sm Z1 b [o + 4] [y2]).grownBy w2 (some br) := gstep hbr X1 G1.out [o + 4] [y2] hg2
  have X2 := Blk.sm [o + 4] [y2] X1
  have s2 : (sc cs1 [o + 4] [y2]).size = cs1.size := sc_size _ _ _
  generalize sc cs1 [o + 4] [y2] = cs2 at *
  obtain ⟨Z2, hZ2⟩ : ∃ Z, sm Z1 b [o + 4] [y2] = Z := ⟨_, rfl⟩
  rw [hZ2] at hg2 X2
  have HZ2 := Lib.hid hZ2
  have B2 := gblk hg2 X2 hbr
  have z2 := B2.lt
  have G2 := Lib.hid hg2
  have M2 : Hid (∀ c : Nat, Calls Tryd.prog 103 #[.func (.func 84) #[] #[.pointer (some ⟨gp, 0, none⟩)], .slice (some ⟨w2.heap.size, 0, none⟩) 3 c] ((w2.alloc (.cells #[.pointer (some ⟨b, o + 5, none⟩), .pointer (some ⟨b, o + 6, none⟩), .pointer (some ⟨b, o + 7, none⟩)] 118)).drew) (RPost gp br b l2 e2 [o + 5, o + 6, o + 7] (o1 3) w2)) := fun c => ones_rn [o + 5, o + 6, o + 7] rfl hw2 B2 (fun i hi => by simp only [List.mem_cons, List.not_mem_nil, or_false] at hi; omega) (by decide) (by decide) (by decide) (by simp)
  clear hg2 hw1 hw2 hy2 hl2 he2 hZ2 X1 B1 B2 z1 i1 G1
  obtain ⟨y3, hy3⟩ : ∃ y, rv (o1 3) l2 e2 = y := ⟨_, rfl⟩
  obtain ⟨l3, hl3⟩ : ∃ y, rl (o1 3) l2 e2 = y := ⟨_, rfl⟩
  obtain ⟨e3, he3⟩ : ∃ y, re (o1 3) l2 e2 = y := ⟨_, rfl⟩
  have HY3 := Lib.hid (And.intro hy3 (And.intro hl3 he3))
  clear hy3 hl3 he3
  go_region_held3 (fun _ => True) (trivial) ((go_at_call 103; (with_reducible refine (M2.out _).mono ?_); rintro r w3 ⟨rfl, hw3, hg3⟩))
  rw [HY3.out.1] at hg3
  rw [HY3.out.2.1, HY3.out.2.2] at hw3
  have hg3 : (sm Z2 b [o + 5, o + 6, o + 7] y3).grownBy w3 (some br) := gstep hbr X2 G2.out _ _ hg3
  have X3 := Blk.sm [o + 5, o + 6, o + 7] y3 X2
  have s3 : (sc cs2 [o + 5, o + 6, o + 7] y3).size = cs2.size := sc_size _ _ _
  generalize sc cs2 [o + 5, o + 6, o + 7] y3 = cs3 at *
  obtain ⟨Z3, hZ3⟩ : ∃ Z, sm Z2 b [o + 5, o + 6, o + 7] y3 = Z := ⟨_, rfl⟩
  rw [hZ3] at hg3 X3
  have HZ3 := Lib.hid hZ3
  have B3 := gblk hg3 X3 hbr
  have z3 := B3.lt
  have G3 := Lib.hid hg3
  have i3 : o + 8 < cs3.size := by omega
  clear hg3 M2 hZ3 X2 G2 z2
  go_upto_region 4 with (go_at_call 84; (with_reducible refine (clos_rd 4 hw3 B3 i3 (by decide) (by decide) (by decide)).mono ?_); rintro r w4 ⟨rfl, hw4, hg4⟩)
  obtain ⟨y4, hy4⟩ : ∃ y, W.nxV l3 e3 4 = y := ⟨_, rfl⟩
  obtain ⟨l4, hl4⟩ : ∃ y, W.nxL l3 e3 4 = y := ⟨_, rfl⟩
  obtain ⟨e4, he4⟩ : ∃ y, W.nxE l3 e3 4 = y := ⟨_, rfl⟩
  rw [hy4] at hg4
  rw [hl4, he4] at hw4
  have HY4 := Lib.hid (And.intro hy4 (And.intro hl4 he4))
  have hg4 : (sm Z3 b [o + 8] [y4]).grownBy w4 (some br) := gstep hbr X3 G3.out [o + 8] [y4] hg4
  have X4 := Blk.sm [o + 8] [y4] X3
  have s4 : (sc cs3 [o + 8] [y4]).size = cs3.size := sc_size _ _ _
  generalize sc cs3 [o + 8] [y4] = cs4 at *
  obtain ⟨Z4, hZ4⟩ : ∃ Z, sm Z3 b [o + 8] [y4] = Z := ⟨_, rfl⟩
  rw [hZ4] at hg4 X4
  have HZ4 := Lib.hid hZ4
  have B4 := gblk hg4 X4 hbr
  have z4 := B4.lt
  have G4 := Lib.hid hg4
  have M3 : Hid (∀ c : Nat, Calls Tryd.prog 103 #[.func (.func 84) #[] #[.pointer (some ⟨gp, 0, none⟩)], .slice (some ⟨w4.heap.size, 0, none⟩) 2 c] ((w4.alloc (.cells #[.pointer (some ⟨b, o + 9, none⟩), .pointer (some ⟨b, o + 10, none⟩)] 118)).drew) (RPost gp br b l4 e4 [o + 9, o + 10] (o1 2) w4)) := fun c => ones_rn [o + 9, o + 10] rfl hw4 B4 (fun i hi => by simp only [List.mem_cons, List.not_mem_nil, or_false] at hi; omega) (by decide) (by decide) (by decide) (by simp)
  clear hg4 hw3 hw4 hy4 hl4 he4 hZ4 X3 B3 B4 z3 i3 G3
  go_region_held3 (fun _ => True) (trivial) ((go_at_call 103; (with_reducible refine (M3.out _).mono ?_); rintro r w5 ⟨rfl, hw5, hg5⟩))
  have hg5 := gstep hbr X4 G4.out _ _ hg5
  have G5 := Lib.hid hg5
  have W5 := Lib.hid hw5
  clear hg5 hw5 M3
  go_wp2_with fail
  obtain ⟨a1, a2, a3⟩ := HY1.out
  obtain ⟨b1, b2, b3⟩ := HY2.out
  obtain ⟨c1, c2, c3⟩ := HY3.out
  obtain ⟨d1, d2, d3⟩ := HY4.out
  refine bodyPost_end (v := .tuple #[]) (by simp [results, Tryd.results107, go_sem]) rfl ⟨rfl, ?_, ?_⟩
  · have hw := W5.out
    subst d2 d3 c2 c3 b2 b3 a2 a3
    exact hw
  · have hg := G5.out
    rw [← HZ4.out, ← HZ3.out, ← HZ2.out, ← HZ1.out] at hg
    rw [chn_eq l e w b o a1 a2 a3 b1 b2 b3 c1 c2 c3 d1 d2 d3]
    exact hg
end Go.Proofs.YtkhcmgnocbddmaaDoor.T
/- package table, what is read: words for lists that are read element by element. -/
namespace Go.Proofs.YtkhcmgnocbddmaaDoor.T
open Go.RowKit Go.Proofs.YtkhcmgnocbddmaaDoor.G Go.Proofs.YtkhcmgnocbddmaaDoor.C04

def seq : Nat → Nat → List Nat
  | _, 0 => []
  | o, k + 1 => o :: seq (o + 1) k
def setl : List Value → Nat → List Value → List Value
  | xs, _, [] => xs
  | xs, n, a :: zs => setl (xs.set n a) (n + 1) zs
theorem setl_mid (R : List Value) : ∀ (zs us P : List Value), us.length = zs.length → setl (P ++ (us ++ R)) P.length zs = P ++ (zs ++ R)
  | [], [], P, _ => rfl
  | a :: zs, u :: us, P, h => by
    have e : (P ++ (u :: us ++ R)).set P.length a = (P ++ [a]) ++ (us ++ R) := by
      rw [List.set_append_right _ _ (Nat.le_refl _), Nat.sub_self]; simp
    rw [setl, e]
    have := setl_mid R zs us (P ++ [a]) (by simpa using h)
    rw [List.length_append] at this
    simp only [List.length_cons, List.length_nil] at this
    rw [this]; simp
  | [], _ :: _, _, h => by simp at h
  | _ :: _, [], _, h => by simp at h
theorem own_sm {B g : Nat} {t : TypeId} {m n c : Nat} : ∀ (ys : List Int) (o : Nat) {V : World} {xs : List Value}, Own V B t m (.slice (some ⟨g, 0, none⟩) n c) n xs → o + ys.length ≤ xs.length → Own (sm V g (seq o ys.length) ys) B t m (.slice (some ⟨g, 0, none⟩) n c) n (setl xs o (ys.map (.int .i64)))
  | [], _, _, _, h, _ => h
  | y :: ys, o, V, xs, h, hl => by
    have hl' : o + (ys.length + 1) ≤ xs.length := by simpa using hl
    exact own_sm ys (o + 1) (own_set h o (by omega) (.int .i64 y)) (by rw [List.length_set]; omega)
theorem nx1_bd (l : List UInt8) (e : Int) : 0 ≤ W.nxV l e 1 ∧ W.nxV l e 1 ≤ 255 := by
  unfold W.nxV
  split
  · omega
  · split
    · omega
    · split
      · omega
      · show 0 ≤ W.nth l 0 ∧ W.nth l 0 ≤ 255
        exact W.nth_bd l 0
theorem gtrans2 {w V V' : World} {br : Nat} {row : Option Nat} (h : w.grownBy V (some br)) (g : V.grownBy V' row) (hr : ∀ k, row = some k → w.heap.size ≤ k) : w.grownBy V' (some br) :=
  ⟨g.os.trans h.os, g.tape.trans h.tape, g.output.trans h.output, Nat.le_trans h.size g.size, fun k hk hn => (g.block k (Nat.lt_of_lt_of_le hk h.size) (fun e => absurd (hr k e.symm) (by omega))).trans (h.block k hk hn)⟩
/-- The reader is as it was where another row has grown. -/
theorem RS.grown {gp br : Nat} {l : List UInt8} {e : Int} {V V' : World} {B : Nat} {t : TypeId} {m n : Nat} {v : Value} {xs : List Value} (h : RS gp br l e V) (hO : Own V B t m v n xs) (t1 : t ≠ 174) (t2 : t ≠ 5) (t3 : t ≠ 123) (g : V.grownBy V' v.ownBlock) : RS gp br l e V' := by
  obtain ⟨h1, ⟨A, c, hr⟩, h3⟩ := h
  refine ⟨grown_blk h1 g (own_off hO h1 t3), ⟨A, c, grown_blk hr.head g (own_off hO hr.head t1), fun h0 => ?_, hr.room, hr.top, fun b' o e' => ?_⟩, h3⟩
  · obtain ⟨b', o, rfl, hlt, hc⟩ := hr.bytes h0
    obtain ⟨cur, hb⟩ := hr.typ b' o rfl
    have hb2 := grown_blk hb g (own_off hO hb t2)
    exact ⟨b', o, rfl, hb2.lt, fun j hj => by rw [hb2.cell, ← hb.cell]; exact hc j hj⟩
  · obtain ⟨cur, hb⟩ := hr.typ b' o e'
    exact ⟨cur, grown_blk hb g (own_off hO hb t2)⟩
def zW : Win := ⟨0, 0, 0⟩
def zC : Chn := ⟨0, 0, 0, 0, 0, 0, 0, 0, 0, 0, 0⟩
/-- So many windows that are read, one behind the other, and what is left of the bytes. -/
def rWs : Nat → List UInt8 → Int → List Win
  | 0, _, _ => []
  | k + 1, l, e => rWin l e :: rWs k (rl [1, 1, 1] l e) (re [1, 1, 1] l e)
def rWl : Nat → List UInt8 → Int → List UInt8
  | 0, l, _ => l
  | k + 1, l, e => rWl k (rl [1, 1, 1] l e) (re [1, 1, 1] l e)
def rWe : Nat → List UInt8 → Int → Int
  | 0, _, e => e
  | k + 1, l, e => rWe k (rl [1, 1, 1] l e) (re [1, 1, 1] l e)
theorem rWs_snoc : ∀ (k : Nat) (l : List UInt8) (e : Int), rWs (k + 1) l e = rWs k l e ++ [rWin (rWl k l e) (rWe k l e)]
  | 0, _, _ => rfl
  | k + 1, l, e => by rw [rWs, rWs_snoc k]; rfl
theorem rWl_snoc : ∀ (k : Nat) (l : List UInt8) (e : Int), rWl (k + 1) l e = rl [1, 1, 1] (rWl k l e) (rWe k l e)
  | 0, _, _ => rfl
  | k + 1, l, e => by rw [rWl, rWl_snoc k]; rfl
theorem rWe_snoc : ∀ (k : Nat) (l : List UInt8) (e : Int), rWe (k + 1) l e = re [1, 1, 1] (rWl k l e) (rWe k l e)
  | 0, _, _ => rfl
  | k + 1, l, e => by rw [rWe, rWe_snoc k]; rfl
theorem rWs_len : ∀ (k : Nat) (l : List UInt8) (e : Int), (rWs k l e).length = k
  | 0, _, _ => rfl
  | k + 1, l, e => by rw [rWs, List.length_cons, rWs_len k]
theorem wvs_mid (d r : List Win) (x : Win) : setl (wvs (d ++ zW :: r)) (d.length * 3) ([x.o, x.s, x.l].map (.int .i64)) = wvs (d ++ [x] ++ r) := by
  have e1 : wvs (d ++ zW :: r) = wvs d ++ (zW.cells ++ wvs r) := by simp [wvs]
  have e2 : wvs (d ++ [x] ++ r) = wvs d ++ (x.cells ++ wvs r) := by simp [wvs]
  rw [e1, e2, ← wvs_len d]
  exact setl_mid _ _ _ _ rfl
end Go.Proofs.YtkhcmgnocbddmaaDoor.T
/- package table, what is read: the list of windows. -/
namespace Go.Proofs.YtkhcmgnocbddmaaDoor.T
open Go.RowKit Go.Proofs.YtkhcmgnocbddmaaDoor.G Go.Proofs.YtkhcmgnocbddmaaDoor.C04

theorem gset_new {w V : World} {br b i : Nat} {u : Value} (h : w.grownBy V (some br)) (hb : w.heap.size ≤ b) : w.grownBy (V.setCell ⟨b, i, none⟩ u) (some br) :=
  ⟨h.os, h.tape, h.output, by simpa [World.setCell] using h.size, fun k hk hn => (Below.heap_setCell V _ _ k (by simp; omega)).trans (h.block k hk hn)⟩
theorem gsm_new {w : World} {br b : Nat} (hb : w.heap.size ≤ b) : ∀ (is : List Nat) (ys : List Int) {V : World}, w.grownBy V (some br) → w.grownBy (sm V b is ys) (some br)
  | _ :: is, _ :: ys, _, h => gsm_new hb is ys (gset_new h hb)
  | [], [], _, h => h
  | [], _ :: _, _, h => h
  | _ :: _, [], _, h => h
def slen : Value → Nat
  | .slice _ n _ => n
  | _ => 0
def LA (w : World) (gp br gn N : Nat) (l : List UInt8) (e : Int) (v : Value) (V : World) : Prop := ∃ k : Nat, k ≤ N ∧ Own V w.heap.size 54 3 v k (wvs (List.replicate k zW)) ∧ RS gp br l e V ∧ Blk V gn 3 #[.int .i64 N] ∧ w.grownBy V (some br)
def LB (w : World) (gp br N : Nat) (l : List UInt8) (e : Int) (v : Value) (i : Value) (V : World) : Prop := ∃ j : Nat, i = .int .i64 j ∧ j ≤ N ∧ Own V w.heap.size 54 3 v N (wvs (rWs j l e ++ List.replicate (N - j) zW)) ∧ RS gp br (rWl j l e) (rWe j l e) V ∧ w.grownBy V (some br)
set_option maxHeartbeats 4000000 in
set_option maxRecDepth 100000 in
theorem listw_rd {w : World} {gp br : Nat} {l : List UInt8} {e : Int} (h : RS gp br l e w) :
    Calls Tryd.prog 104 #[.slice none 0 0, .func (.func 84) #[] #[.pointer (some ⟨gp, 0, none⟩)], .func (.func 105) #[] #[]] w fun r w' => ∃ (v : Value) (N : Nat), r = .returned v ∧ W.nxV l e 1 = (N : Int) ∧ Own w' w.heap.size 54 3 v N (wvs (rWs N (rl [1] l e) (re [1] l e))) ∧ RS gp br (rWl N (rl [1] l e) (re [1] l e)) (rWe N (rl [1] l e) (re [1] l e)) w' ∧ w.grownBy w' (some br) := by
  obtain ⟨cs', hbr'⟩ := RS.br _ _ _ _ _ h
  have hbl := hbr'.lt
  obtain ⟨n0, n1⟩ := nx1_bd l e
  obtain ⟨N, hN⟩ := Int.eq_ofNat_of_zero_le n0
  rw [hN] at n1
  obtain ⟨l1, hl1⟩ : ∃ x, rl [1] l e = x := ⟨_, rfl⟩
  obtain ⟨e1, he1⟩ : ∃ x, re [1] l e = x := ⟨_, rfl⟩
  rw [hl1, he1]
  have HN := Lib.hid (And.intro hN (And.intro hl1 he1))
  have HS := Lib.hid (h.alloc (.cells #[.int .i64 0] 3))
  have N0 := Blk.new w 3 #[.int .i64 0]
  have hgn : w.heap.size ≠ br := Nat.ne_of_gt hbl
  clear h hbr' hN hl1 he1 n0
  go_enter Tryd.func104, Tryd.ntmps104
  go_upto_region 3 with (go_at_call 84; (with_reducible refine (clos_rd 1 HS.out N0 (by decide) (by decide) (by decide) (by decide)).mono ?_); rintro r w1 ⟨rfl, hw1, hg1⟩)
  rw [HN.out.1] at hg1
  have hw1 : RS gp br l1 e1 w1 := by
    have := hw1
    rw [← HN.out.2.1, ← HN.out.2.2]; exact this
  have N1 : Blk w1 w.heap.size 3 #[.int .i64 N] := gblk hg1 (by simpa using N0.set_ 0 (.int .i64 N)) hgn
  have G1 : w.grownBy w1 (some br) := World.grownBy.trans (gset_new (galloc (grefl w br) (.cells #[.int .i64 0] 3)) (Nat.le_refl _)) hg1
  clear hg1 N0 HS
  have hN255 : N ≤ 255 := by omega
  obtain ⟨gn, hgnE⟩ : ∃ gn, w.heap.size = gn := ⟨_, rfl⟩
  have k1 := N1.cell
  have z1 := N1.lt
  obtain ⟨i0, hi, hz0, hz1, hz2⟩ := info_parts infoW
  have HA := Lib.hid (And.intro hw1 (And.intro N1 G1))
  clear hw1 N1 G1 k1 z1 hgnE
  go_loopw [0] (fun v V => LA w gp br w.heap.size N l1 e1 v V) (fun v _ => N - slen v)
  case atStart => exact ⟨0, by omega, Own.nil_ _ _ _ _, HA.out.1, HA.out.2.1, HA.out.2.2⟩
  case round =>
    obtain ⟨k, hk, hO, hS, hNb, hG⟩ := hrel
    obtain ⟨P3, p3, hv3⟩ := own_slice hO
    subst hv3
    have k1 := hNb.cell
    have z1 := hNb.lt
    by_cases hlt : k < N
    · have hlt' : (k : Int) < (N : Int) := by omega
      have OA := (hO.alloc (.cells #[.int .i64 0, .int .i64 0, .int .i64 0] 54)).alloc (.cells #[.int .i64 0, .int .i64 0, .int .i64 0] 54)
      have SA := (hS.alloc (.cells #[.int .i64 0, .int .i64 0, .int .i64 0] 54)).alloc (.cells #[.int .i64 0, .int .i64 0, .int .i64 0] 54)
      have NA := (hNb.alloc (.cells #[.int .i64 0, .int .i64 0, .int .i64 0] 54)).alloc (.cells #[.int .i64 0, .int .i64 0, .int .i64 0] 54)
      have GA := galloc (galloc hG (.cells #[.int .i64 0, .int .i64 0, .int .i64 0] 54)) (.cells #[.int .i64 0, .int .i64 0, .int .i64 0] 54)
      have hsz := GA.size
      have HF := Lib.hid (And.intro OA (And.intro SA (And.intro NA GA)))
      clear hO hS hNb hG SA NA GA
      go_wp2_with (at_builtin; refine wpList_app Tryd.underlying47 hi hz0 hz1 hz2 rfl (by omega) rfl _ _ rfl w.heap.size (.slice P3 k p3) k (wvs (List.replicate k zW)) rfl OA (some ⟨wr.heap.size + 1, 0, none⟩) 1 1 zW.cells rfl (Row.of_blk (Blk.new_at (by simp) 54 #[.int .i64 0, .int .i64 0, .int .i64 0]) (fun j u hj => by simpa [Win.cells, zW] using hj)) rfl (by simpa [wvs] using wvs_one [zW]) (by omega) (by omega) hsz ?_; intro v' w' hown hbl' hgrow hob; clear hob; obtain ⟨P4, p4, hv4⟩ := own_slice hown; subst hv4)
      go_roundw
      case rel =>
        obtain ⟨a1, a2, a3, a4⟩ := HF.out
        refine ⟨k + 1, by omega, ?_, a2.grown a1 (by decide) (by decide) (by decide) hgrow, grown_blk a3 hgrow (own_off a1 a3 (by decide)), gtrans2 a4 hgrow (fun k hk => (a1.block_lt hk).1)⟩
        rw [List.replicate_succ', wvs_app]
        simpa [wvs] using hown
      case measure => simp [slen]; omega
    · obtain rfl : k = N := by omega
      have hlt' : ¬ (k : Int) < (k : Int) := by omega
      have HD := Lib.hid (And.intro hO (And.intro hS hG))
      clear hO hS hG hNb HA
      go_wp2_with fail
      clear k1 z1
      go_loopw [24] (fun i V => LB w gp br k l1 e1 (.slice P3 k p3) i V) (fun i _ => k - (intOf i).toNat)
      case atStart => exact ⟨0, rfl, by omega, by simpa [rWs] using HD.out.1, HD.out.2.1, HD.out.2.2⟩
      case round =>
        obtain ⟨j, rfl, hj, hO, hS, hG⟩ := hrel
        by_cases hlt2 : j < k
        · have hlt3 : (j : Int) < (k : Int) := by omega
          obtain ⟨g, cur, rfl, hcur, hcc⟩ := own_cells hO hlt2
          have e1' : k - j = (k - (j + 1)) + 1 := by omega
          have hx : (rWs j l1 e1 ++ List.replicate (k - j) zW)[j]? = some zW := by
            rw [List.getElem?_append_right (by rw [rWs_len]; exact Nat.le_refl _), rWs_len, Nat.sub_self, e1', List.replicate_succ]; rfl
          have c0 := hcc (j * 3) _ ((flat_at Win.cells_len _ j 0 zW hx (by omega)).trans rfl)
          have c2 := hcc (j * 3 + 2) _ ((flat_at Win.cells_len _ j 2 zW hx (by omega)).trans rfl)
          have hsz := (Array.getElem?_eq_some_iff.1 c2).1
          have hgw : w.heap.size ≤ g := (hO.block_lt (g := g) (by simp [Value.ownBlock])).1
          have HF := Lib.hid (And.intro hO (And.intro hS hG))
          clear hO hS hG hcc hx c2
          have hS := HF.out.2.1
          go_wp2_with (go_at_call 105; (with_reducible refine (window_rd hS hcur c0 hsz).mono ?_); rintro r w2 ⟨rfl, hw2, hg2⟩)
          go_roundw
          case rel =>
            obtain ⟨a1, a2, a3⟩ := HF.out
            obtain ⟨cs2, hbr2⟩ := RS.br _ _ _ _ _ a2
            have hne : br ≠ g := hbr2.ne_ hcur (by decide)
            have o1' := own_sm [(rWin (rWl j l1 e1) (rWe j l1 e1)).o, (rWin (rWl j l1 e1) (rWe j l1 e1)).s, (rWin (rWl j l1 e1) (rWe j l1 e1)).l] (j * 3) a1 (by rw [wvs_len, List.length_append, rWs_len, List.length_replicate]; simp; omega)
            have hbr3 : Blk (sm wr g (seq (j * 3) 3) [(rWin (rWl j l1 e1) (rWe j l1 e1)).o, (rWin (rWl j l1 e1) (rWe j l1 e1)).s, (rWin (rWl j l1 e1) (rWe j l1 e1)).l]) br 174 cs2 := (sm_far hne _ _ _).trans hbr2
            have o2' := o1'.grown hg2 (fun q hq => by have := own_off o1' hbr3 (by decide) q hq; simpa using this)
            refine ⟨j + 1, by go_num, by omega, ?_, ?_, World.grownBy.trans (gsm_new hgw _ _ a3) hg2⟩
            · have e2 : rWs j l1 e1 ++ List.replicate (k - j) zW = rWs j l1 e1 ++ zW :: List.replicate (k - (j + 1)) zW := by rw [e1', List.replicate_succ]
              have e3 : j * 3 = (rWs j l1 e1).length * 3 := by rw [rWs_len]
              rw [e2, e3, wvs_mid] at o2'
              rw [rWs_snoc]
              exact o2'
            · rw [rWl_snoc, rWe_snoc]; exact hw2
          case measure => simp [intOf]; omega
        · obtain rfl : j = k := by omega
          go_wp2_with fail
          go_ret
          rw [Nat.sub_self, List.replicate_zero, List.append_nil] at hO
          exact ⟨_, j, rfl, HN.out.1, hO, hS, hG⟩
end Go.Proofs.YtkhcmgnocbddmaaDoor.T
/- package table, what is read: the lists of channels and of Actions. Written by gen_pr7.py. -/
namespace Go.Proofs.YtkhcmgnocbddmaaDoor.T
open Go.RowKit Go.Proofs.YtkhcmgnocbddmaaDoor.G Go.Proofs.YtkhcmgnocbddmaaDoor.C04

theorem l11 (ys : List Int) (h : ys.length = 11) : ys = [ys.getD 0 0, ys.getD 1 0, ys.getD 2 0, ys.getD 3 0, ys.getD 4 0, ys.getD 5 0, ys.getD 6 0, ys.getD 7 0, ys.getD 8 0, ys.getD 9 0, ys.getD 10 0] := by
  apply List.ext_getElem (by simpa using h)
  intro i h1 h2
  rcases i with _ | _ | _ | _ | _ | _ | _ | _ | _ | _ | _ | i
  all_goals first
    | (exfalso; omega)
    | simp [List.getElem?_eq_getElem h1]
def chnOf (ys : List Int) : Chn := ⟨ys.getD 0 0, ys.getD 1 0, ys.getD 2 0, ys.getD 3 0, ys.getD 4 0, ys.getD 5 0, ys.getD 6 0, ys.getD 7 0, ys.getD 8 0, ys.getD 9 0, ys.getD 10 0⟩
theorem chnOf_cells (ys : List Int) (h : ys.length = 11) : (chnOf ys).cells = ys.map (.int .i64) := by
  conv => rhs; rw [l11 ys h]
  rfl
def rChn (l : List UInt8) (e : Int) : Chn := chnOf (rv cw l e)
theorem rChn_cells (l : List UInt8) (e : Int) : (rChn l e).cells = (rv cw l e).map (.int .i64) := chnOf_cells _ (rv_len _ _ _)
def rAct (l : List UInt8) (e : Int) : Int := W.nxV l e 1
def rCs : Nat → List UInt8 → Int → List Chn
  | 0, _, _ => []
  | k + 1, l, e => rChn l e :: rCs k (rl cw l e) (re cw l e)
def rCl : Nat → List UInt8 → Int → List UInt8
  | 0, l, _ => l
  | k + 1, l, e => rCl k (rl cw l e) (re cw l e)
def rCe : Nat → List UInt8 → Int → Int
  | 0, _, e => e
  | k + 1, l, e => rCe k (rl cw l e) (re cw l e)
theorem rCs_snoc : ∀ (k : Nat) (l : List UInt8) (e : Int), rCs (k + 1) l e = rCs k l e ++ [rChn (rCl k l e) (rCe k l e)]
  | 0, _, _ => rfl
  | k + 1, l, e => by rw [rCs, rCs_snoc k]; rfl
theorem rCl_snoc : ∀ (k : Nat) (l : List UInt8) (e : Int), rCl (k + 1) l e = rl cw (rCl k l e) (rCe k l e)
  | 0, _, _ => rfl
  | k + 1, l, e => by rw [rCl, rCl_snoc k]; rfl
theorem rCe_snoc : ∀ (k : Nat) (l : List UInt8) (e : Int), rCe (k + 1) l e = re cw (rCl k l e) (rCe k l e)
  | 0, _, _ => rfl
  | k + 1, l, e => by rw [rCe, rCe_snoc k]; rfl
theorem rCs_len : ∀ (k : Nat) (l : List UInt8) (e : Int), (rCs k l e).length = k
  | 0, _, _ => rfl
  | k + 1, l, e => by rw [rCs, List.length_cons, rCs_len k]
def rAs : Nat → List UInt8 → Int → List Int
  | 0, _, _ => []
  | k + 1, l, e => rAct l e :: rAs k (rl [1] l e) (re [1] l e)
def rAl : Nat → List UInt8 → Int → List UInt8
  | 0, l, _ => l
  | k + 1, l, e => rAl k (rl [1] l e) (re [1] l e)
def rAe : Nat → List UInt8 → Int → Int
  | 0, _, e => e
  | k + 1, l, e => rAe k (rl [1] l e) (re [1] l e)
theorem rAs_snoc : ∀ (k : Nat) (l : List UInt8) (e : Int), rAs (k + 1) l e = rAs k l e ++ [rAct (rAl k l e) (rAe k l e)]
  | 0, _, _ => rfl
  | k + 1, l, e => by rw [rAs, rAs_snoc k]; rfl
theorem rAl_snoc : ∀ (k : Nat) (l : List UInt8) (e : Int), rAl (k + 1) l e = rl [1] (rAl k l e) (rAe k l e)
  | 0, _, _ => rfl
  | k + 1, l, e => by rw [rAl, rAl_snoc k]; rfl
theorem rAe_snoc : ∀ (k : Nat) (l : List UInt8) (e : Int), rAe (k + 1) l e = re [1] (rAl k l e) (rAe k l e)
  | 0, _, _ => rfl
  | k + 1, l, e => by rw [rAe, rAe_snoc k]; rfl
theorem rAs_len : ∀ (k : Nat) (l : List UInt8) (e : Int), (rAs k l e).length = k
  | 0, _, _ => rfl
  | k + 1, l, e => by rw [rAs, List.length_cons, rAs_len k]
theorem cvs_mid (d r : List Chn) (x : Chn) {ys : List Int} (h : x.cells = ys.map (.int .i64)) : setl (cvs (d ++ zC :: r)) (d.length * 11) (ys.map (.int .i64)) = cvs (d ++ [x] ++ r) := by
  have e1 : cvs (d ++ zC :: r) = cvs d ++ (zC.cells ++ cvs r) := by simp [cvs]
  have e2 : cvs (d ++ [x] ++ r) = cvs d ++ (x.cells ++ cvs r) := by simp [cvs]
  rw [e1, e2, ← cvs_len d, h]
  refine setl_mid _ _ _ _ ?_
  rw [← h]; rfl
theorem ivs_mid (d r : List Int) (x : Int) : setl (ivs (d ++ 0 :: r)) d.length ([x].map (.int .i64)) = ivs (d ++ [x] ++ r) := by
  have e1 : ivs (d ++ 0 :: r) = ivs d ++ ([.int .i64 0] ++ ivs r) := by simp [ivs, iv]
  have e2 : ivs (d ++ [x] ++ r) = ivs d ++ ([x].map (.int .i64) ++ ivs r) := by simp [ivs, iv]
  rw [e1, e2]
  have := setl_mid (ivs r) ([x].map (.int .i64)) [.int .i64 0] (ivs d) rfl
  rw [ivs_len] at this
  exact this
def LAc (w : World) (gp br gn N : Nat) (l : List UInt8) (e : Int) (v : Value) (V : World) : Prop := ∃ k : Nat, k ≤ N ∧ Own V w.heap.size 56 11 v k (cvs (List.replicate k zC)) ∧ RS gp br l e V ∧ Blk V gn 3 #[.int .i64 N] ∧ w.grownBy V (some br)
def LBc (w : World) (gp br N : Nat) (l : List UInt8) (e : Int) (v : Value) (i : Value) (V : World) : Prop := ∃ j : Nat, i = .int .i64 j ∧ j ≤ N ∧ Own V w.heap.size 56 11 v N (cvs (rCs j l e ++ List.replicate (N - j) zC)) ∧ RS gp br (rCl j l e) (rCe j l e) V ∧ w.grownBy V (some br)
set_option maxHeartbeats 4000000 in
set_option maxRecDepth 100000 in
theorem listc_rd {w : World} {gp br : Nat} {l : List UInt8} {e : Int} (h : RS gp br l e w) :
    Calls Tryd.prog 106 #[.slice none 0 0, .func (.func 84) #[] #[.pointer (some ⟨gp, 0, none⟩)], .func (.func 107) #[] #[]] w fun r w' => ∃ (v : Value) (N : Nat), r = .returned v ∧ W.nxV l e 1 = (N : Int) ∧ Own w' w.heap.size 56 11 v N (cvs (rCs N (rl [1] l e) (re [1] l e))) ∧ RS gp br (rCl N (rl [1] l e) (re [1] l e)) (rCe N (rl [1] l e) (re [1] l e)) w' ∧ w.grownBy w' (some br) := by
  obtain ⟨cs', hbr'⟩ := RS.br _ _ _ _ _ h
  have hbl := hbr'.lt
  obtain ⟨n0, n1⟩ := nx1_bd l e
  obtain ⟨N, hN⟩ := Int.eq_ofNat_of_zero_le n0
  rw [hN] at n1
  obtain ⟨l1, hl1⟩ : ∃ x, rl [1] l e = x := ⟨_, rfl⟩
  obtain ⟨e1, he1⟩ : ∃ x, re [1] l e = x := ⟨_, rfl⟩
  rw [hl1, he1]
  have HN := Lib.hid (And.intro hN (And.intro hl1 he1))
  have HS := Lib.hid (h.alloc (.cells #[.int .i64 0] 3))
  have N0 := Blk.new w 3 #[.int .i64 0]
  have hgn : w.heap.size ≠ br := Nat.ne_of_gt hbl
  clear h hbr' hN hl1 he1 n0
  go_enter Tryd.func106, Tryd.ntmps106
  go_upto_region 3 with (go_at_call 84; (with_reducible refine (clos_rd 1 HS.out N0 (by decide) (by decide) (by decide) (by decide)).mono ?_); rintro r w1 ⟨rfl, hw1, hg1⟩)
  rw [HN.out.1] at hg1
  have hw1 : RS gp br l1 e1 w1 := by
    have := hw1
    rw [← HN.out.2.1, ← HN.out.2.2]; exact this
  have N1 : Blk w1 w.heap.size 3 #[.int .i64 N] := gblk hg1 (by simpa using N0.set_ 0 (.int .i64 N)) hgn
  have G1 : w.grownBy w1 (some br) := World.grownBy.trans (gset_new (galloc (grefl w br) (.cells #[.int .i64 0] 3)) (Nat.le_refl _)) hg1
  clear hg1 N0 HS
  have hN255 : N ≤ 255 := by omega
  obtain ⟨gn, hgnE⟩ : ∃ gn, w.heap.size = gn := ⟨_, rfl⟩
  have k1 := N1.cell
  have z1 := N1.lt
  obtain ⟨i0, hi, hz0, hz1, hz2⟩ := info_parts infoC
  have HA := Lib.hid (And.intro hw1 (And.intro N1 G1))
  clear hw1 N1 G1 k1 z1 hgnE
  go_loopw [0] (fun v V => LAc w gp br w.heap.size N l1 e1 v V) (fun v _ => N - slen v)
  case atStart => exact ⟨0, by omega, Own.nil_ _ _ _ _, HA.out.1, HA.out.2.1, HA.out.2.2⟩
  case round =>
    obtain ⟨k, hk, hO, hS, hNb, hG⟩ := hrel
    obtain ⟨P3, p3, hv3⟩ := own_slice hO
    subst hv3
    have k1 := hNb.cell
    have z1 := hNb.lt
    by_cases hlt : k < N
    · have hlt' : (k : Int) < (N : Int) := by omega
      have OA := (hO.alloc (.cells #[.int .i64 0, .int .i64 0, .int .i64 0, .int .i64 0, .int .i64 0, .int .i64 0, .int .i64 0, .int .i64 0, .int .i64 0, .int .i64 0, .int .i64 0] 56)).alloc (.cells #[.int .i64 0, .int .i64 0, .int .i64 0, .int .i64 0, .int .i64 0, .int .i64 0, .int .i64 0, .int .i64 0, .int .i64 0, .int .i64 0, .int .i64 0] 56)
      have SA := (hS.alloc (.cells #[.int .i64 0, .int .i64 0, .int .i64 0, .int .i64 0, .int .i64 0, .int .i64 0, .int .i64 0, .int .i64 0, .int .i64 0, .int .i64 0, .int .i64 0] 56)).alloc (.cells #[.int .i64 0, .int .i64 0, .int .i64 0, .int .i64 0, .int .i64 0, .int .i64 0, .int .i64 0, .int .i64 0, .int .i64 0, .int .i64 0, .int .i64 0] 56)
      have NA := (hNb.alloc (.cells #[.int .i64 0, .int .i64 0, .int .i64 0, .int .i64 0, .int .i64 0, .int .i64 0, .int .i64 0, .int .i64 0, .int .i64 0, .int .i64 0, .int .i64 0] 56)).alloc (.cells #[.int .i64 0, .int .i64 0, .int .i64 0, .int .i64 0, .int .i64 0, .int .i64 0, .int .i64 0, .int .i64 0, .int .i64 0, .int .i64 0, .int .i64 0] 56)
      have GA := galloc (galloc hG (.cells #[.int .i64 0, .int .i64 0, .int .i64 0, .int .i64 0, .int .i64 0, .int .i64 0, .int .i64 0, .int .i64 0, .int .i64 0, .int .i64 0, .int .i64 0] 56)) (.cells #[.int .i64 0, .int .i64 0, .int .i64 0, .int .i64 0, .int .i64 0, .int .i64 0, .int .i64 0, .int .i64 0, .int .i64 0, .int .i64 0, .int .i64 0] 56)
      have hsz := GA.size
      have HF := Lib.hid (And.intro OA (And.intro SA (And.intro NA GA)))
      clear hO hS hNb hG SA NA GA
      go_wp2_with (at_builtin; refine wpList_app Tryd.underlying48 hi hz0 hz1 hz2 rfl (by omega) rfl _ _ rfl w.heap.size (.slice P3 k p3) k (cvs (List.replicate k zC)) rfl OA (some ⟨wr.heap.size + 1, 0, none⟩) 1 1 zC.cells rfl (Row.of_blk (Blk.new_at (by simp) 56 #[.int .i64 0, .int .i64 0, .int .i64 0, .int .i64 0, .int .i64 0, .int .i64 0, .int .i64 0, .int .i64 0, .int .i64 0, .int .i64 0, .int .i64 0]) (fun j u hj => by simpa [Chn.cells, zC] using hj)) rfl (by simpa [cvs] using cvs_one [zC]) (by omega) (by omega) hsz ?_; intro v' w' hown hbl' hgrow hob; clear hob; obtain ⟨P4, p4, hv4⟩ := own_slice hown; subst hv4)
      go_roundw
      case rel =>
        obtain ⟨a1, a2, a3, a4⟩ := HF.out
        refine ⟨k + 1, by omega, ?_, a2.grown a1 (by decide) (by decide) (by decide) hgrow, grown_blk a3 hgrow (own_off a1 a3 (by decide)), gtrans2 a4 hgrow (fun k hk => (a1.block_lt hk).1)⟩
        rw [List.replicate_succ', cvs_app]
        simpa [cvs] using hown
      case measure => simp [slen]; omega
    · obtain rfl : k = N := by omega
      have hlt' : ¬ (k : Int) < (k : Int) := by omega
      have HD := Lib.hid (And.intro hO (And.intro hS hG))
      clear hO hS hG hNb HA
      go_wp2_with fail
      clear k1 z1
      go_loopw [24] (fun i V => LBc w gp br k l1 e1 (.slice P3 k p3) i V) (fun i _ => k - (intOf i).toNat)
      case atStart => exact ⟨0, rfl, by omega, by simpa [rCs] using HD.out.1, HD.out.2.1, HD.out.2.2⟩
      case round =>
        obtain ⟨j, rfl, hj, hO, hS, hG⟩ := hrel
        by_cases hlt2 : j < k
        · have hlt3 : (j : Int) < (k : Int) := by omega
          obtain ⟨g, cur, rfl, hcur, hcc⟩ := own_cells hO hlt2
          have e1' : k - j = (k - (j + 1)) + 1 := by omega
          have hx : (rCs j l1 e1 ++ List.replicate (k - j) zC)[j]? = some zC := by
            rw [List.getElem?_append_right (by rw [rCs_len]; exact Nat.le_refl _), rCs_len, Nat.sub_self, e1', List.replicate_succ]; rfl
          have c2 := hcc (j * 11 + 10) _ ((flat_at Chn.cells_len _ j 10 zC hx (by omega)).trans rfl)
          have hsz := (Array.getElem?_eq_some_iff.1 c2).1
          have hgw : w.heap.size ≤ g := (hO.block_lt (g := g) (by simp [Value.ownBlock])).1
          have HF := Lib.hid (And.intro hO (And.intro hS hG))
          clear hO hS hG hcc hx c2
          have hS := HF.out.2.1
          go_wp2_with (go_at_call 107; (with_reducible refine (channel_rd hS hcur hsz).mono ?_); rintro r w2 ⟨rfl, hw2, hg2⟩)
          go_roundw
          case rel =>
            obtain ⟨a1, a2, a3⟩ := HF.out
            obtain ⟨cs2, hbr2⟩ := RS.br _ _ _ _ _ a2
            have hne : br ≠ g := hbr2.ne_ hcur (by decide)
            have o1' := own_sm (rv cw (rCl j l1 e1) (rCe j l1 e1)) (j * 11) a1 (by rw [cvs_len, List.length_append, rCs_len, List.length_replicate, rv_len]; simp [cw]; omega)
            have hg2 : (sm wr g (seq (j * 11) (rv cw (rCl j l1 e1) (rCe j l1 e1)).length) (rv cw (rCl j l1 e1) (rCe j l1 e1))).grownBy w2 (some br) := by rw [rv_len]; exact hg2
            have hbr3 : Blk (sm wr g (seq (j * 11) (rv cw (rCl j l1 e1) (rCe j l1 e1)).length) (rv cw (rCl j l1 e1) (rCe j l1 e1))) br 174 cs2 := (sm_far hne _ _ _).trans hbr2
            have o2' := o1'.grown hg2 (fun q hq => by have := own_off o1' hbr3 (by decide) q hq; simpa using this)
            refine ⟨j + 1, by go_num, by omega, ?_, ?_, World.grownBy.trans (gsm_new hgw _ _ a3) hg2⟩
            · have e2 : rCs j l1 e1 ++ List.replicate (k - j) zC = rCs j l1 e1 ++ zC :: List.replicate (k - (j + 1)) zC := by rw [e1', List.replicate_succ]
              have e3 : j * 11 = (rCs j l1 e1).length * 11 := by rw [rCs_len]
              rw [e2, e3, cvs_mid _ _ _ (rChn_cells _ _)] at o2'
              rw [rCs_snoc]
              exact o2'
            · rw [rCl_snoc, rCe_snoc]; exact hw2
          case measure => simp [intOf]; omega
        · obtain rfl : j = k := by omega
          go_wp2_with fail
          go_ret
          rw [Nat.sub_self, List.replicate_zero, List.append_nil] at hO
          exact ⟨_, j, rfl, HN.out.1, hO, hS, hG⟩
def LAi (w : World) (gp br gn N : Nat) (l : List UInt8) (e : Int) (v : Value) (V : World) : Prop := ∃ k : Nat, k ≤ N ∧ Own V (w.heap.size + 1) 3 1 v k (ivs (List.replicate k (0 : Int))) ∧ RS gp br l e V ∧ Blk V gn 3 #[.int .i64 N] ∧ w.grownBy V (some br)
def LBi (w : World) (gp br N : Nat) (l : List UInt8) (e : Int) (v : Value) (i : Value) (V : World) : Prop := ∃ j : Nat, i = .int .i64 j ∧ j ≤ N ∧ Own V w.heap.size 3 1 v N (ivs (rAs j l e ++ List.replicate (N - j) (0 : Int))) ∧ RS gp br (rAl j l e) (rAe j l e) V ∧ w.grownBy V (some br)
set_option maxHeartbeats 4000000 in
set_option maxRecDepth 100000 in
theorem listi_rd {w : World} {gp br : Nat} {l : List UInt8} {e : Int} (h : RS gp br l e w) :
    Calls Tryd.prog 108 #[.slice none 0 0, .func (.func 84) #[] #[.pointer (some ⟨gp, 0, none⟩)], .func (.func 109) #[] #[]] w fun r w' => ∃ (v : Value) (N : Nat), r = .returned v ∧ W.nxV l e 1 = (N : Int) ∧ Own w' w.heap.size 3 1 v N (ivs (rAs N (rl [1] l e) (re [1] l e))) ∧ RS gp br (rAl N (rl [1] l e) (re [1] l e)) (rAe N (rl [1] l e) (re [1] l e)) w' ∧ w.grownBy w' (some br) := by
  obtain ⟨cs', hbr'⟩ := RS.br _ _ _ _ _ h
  have hbl := hbr'.lt
  obtain ⟨n0, n1⟩ := nx1_bd l e
  obtain ⟨N, hN⟩ := Int.eq_ofNat_of_zero_le n0
  rw [hN] at n1
  obtain ⟨l1, hl1⟩ : ∃ x, rl [1] l e = x := ⟨_, rfl⟩
  obtain ⟨e1, he1⟩ : ∃ x, re [1] l e = x := ⟨_, rfl⟩
  rw [hl1, he1]
  have HN := Lib.hid (And.intro hN (And.intro hl1 he1))
  have HS := Lib.hid (h.alloc (.cells #[.int .i64 0] 3))
  have N0 := Blk.new w 3 #[.int .i64 0]
  have hgn : w.heap.size ≠ br := Nat.ne_of_gt hbl
  clear h hbr' hN hl1 he1 n0
  go_enter Tryd.func108, Tryd.ntmps108
  go_upto_region 3 with (go_at_call 84; (with_reducible refine (clos_rd 1 HS.out N0 (by decide) (by decide) (by decide) (by decide)).mono ?_); rintro r w1 ⟨rfl, hw1, hg1⟩)
  rw [HN.out.1] at hg1
  have hw1 : RS gp br l1 e1 w1 := by
    have := hw1
    rw [← HN.out.2.1, ← HN.out.2.2]; exact this
  have N1 : Blk w1 w.heap.size 3 #[.int .i64 N] := gblk hg1 (by simpa using N0.set_ 0 (.int .i64 N)) hgn
  have G1 : w.grownBy w1 (some br) := World.grownBy.trans (gset_new (galloc (grefl w br) (.cells #[.int .i64 0] 3)) (Nat.le_refl _)) hg1
  clear hg1 N0 HS
  have hN255 : N ≤ 255 := by omega
  obtain ⟨gn, hgnE⟩ : ∃ gn, w.heap.size = gn := ⟨_, rfl⟩
  have k1 := N1.cell
  have z1 := N1.lt
  obtain ⟨i0, hi, hz0, hz1, hz2⟩ := info_parts infoI
  have HA := Lib.hid (And.intro hw1 (And.intro N1 G1))
  clear hw1 N1 G1 k1 z1 hgnE
  go_loopw [0] (fun v V => LAi w gp br w.heap.size N l1 e1 v V) (fun v _ => N - slen v)
  case atStart => exact ⟨0, by omega, Own.nil_ _ _ _ _, HA.out.1, HA.out.2.1, HA.out.2.2⟩
  case round =>
    obtain ⟨k, hk, hO, hS, hNb, hG⟩ := hrel
    obtain ⟨P3, p3, hv3⟩ := own_slice hO
    subst hv3
    have k1 := hNb.cell
    have z1 := hNb.lt
    by_cases hlt : k < N
    · have hlt' : (k : Int) < (N : Int) := by omega
      have OA := hO.alloc (.cells #[.int .i64 0] 3)
      have SA := hS.alloc (.cells #[.int .i64 0] 3)
      have NA := hNb.alloc (.cells #[.int .i64 0] 3)
      have GA := galloc hG (.cells #[.int .i64 0] 3)
      have hsz := NA.lt
      have HF := Lib.hid (And.intro OA (And.intro SA (And.intro NA GA)))
      clear hO hS hNb hG SA NA GA
      go_wp2_with (at_builtin; refine wpList_app Tryd.underlying26 hi hz0 hz1 hz2 rfl (by omega) rfl _ _ rfl (w.heap.size + 1) (.slice P3 k p3) k (ivs (List.replicate k (0 : Int))) rfl OA (some ⟨wr.heap.size, 0, none⟩) 1 1 [.int .i64 0] rfl (Row.of_blk (Blk.new wr 3 #[.int .i64 0]) (fun j u hj => by simpa using hj)) rfl (by simpa [ivs, iv] using ivs_one [(0 : Int)]) (by omega) (by omega) hsz ?_; intro v' w' hown hbl' hgrow hob; clear hob; obtain ⟨P4, p4, hv4⟩ := own_slice hown; subst hv4)
      go_roundw
      case rel =>
        obtain ⟨a1, a2, a3, a4⟩ := HF.out
        refine ⟨k + 1, by omega, ?_, a2.grown a1 (by decide) (by decide) (by decide) hgrow, grown_blk a3 hgrow (fun q hq => by have := (a1.block_lt hq).1; omega), gtrans2 a4 hgrow (fun k hk => Nat.le_of_succ_le (a1.block_lt hk).1)⟩
        rw [List.replicate_succ', ivs_app]
        simpa [ivs, iv] using hown
      case measure => simp [slen]; omega
    · obtain rfl : k = N := by omega
      have hlt' : ¬ (k : Int) < (k : Int) := by omega
      have HD := Lib.hid (And.intro (hO.less (Nat.le_succ _)) (And.intro hS hG))
      clear hO hS hG hNb HA
      go_wp2_with fail
      clear k1 z1
      go_loopw [24] (fun i V => LBi w gp br k l1 e1 (.slice P3 k p3) i V) (fun i _ => k - (intOf i).toNat)
      case atStart => exact ⟨0, rfl, by omega, by simpa [rAs] using HD.out.1, HD.out.2.1, HD.out.2.2⟩
      case round =>
        obtain ⟨j, rfl, hj, hO, hS, hG⟩ := hrel
        by_cases hlt2 : j < k
        · have hlt3 : (j : Int) < (k : Int) := by omega
          obtain ⟨g, cur, rfl, hcur, hcc⟩ := own_cells hO hlt2
          have e1' : k - j = (k - (j + 1)) + 1 := by omega
          have hx : (rAs j l1 e1 ++ List.replicate (k - j) (0 : Int))[j]? = some (0 : Int) := by
            rw [List.getElem?_append_right (by rw [rAs_len]; exact Nat.le_refl _), rAs_len, Nat.sub_self, e1', List.replicate_succ]; rfl
          have c2 := hcc j (.int .i64 0) (by rw [ivs, List.getElem?_map, hx]; rfl)
          have hsz := (Array.getElem?_eq_some_iff.1 c2).1
          have hgw : w.heap.size ≤ g := (hO.block_lt (g := g) (by simp [Value.ownBlock])).1
          have HF := Lib.hid (And.intro hO (And.intro hS hG))
          clear hO hS hG hcc hx c2
          have hS := HF.out.2.1
          go_wp2_with (go_at_call 109; (with_reducible refine (action_rd hS hcur hsz (by decide) (by decide) (by decide)).mono ?_); rintro r w2 ⟨rfl, hw2, hg2⟩)
          go_roundw
          case rel =>
            obtain ⟨a1, a2, a3⟩ := HF.out
            obtain ⟨cs2, hbr2⟩ := RS.br _ _ _ _ _ a2
            have hne : br ≠ g := hbr2.ne_ hcur (by decide)
            have o1' := own_sm [rAct (rAl j l1 e1) (rAe j l1 e1)] j a1 (by rw [ivs_len, List.length_append, rAs_len, List.length_replicate]; simp; omega)
            have hg2 : (sm wr g (seq j 1) [rAct (rAl j l1 e1) (rAe j l1 e1)]).grownBy w2 (some br) := hg2
            have hbr3 : Blk (sm wr g (seq j 1) [rAct (rAl j l1 e1) (rAe j l1 e1)]) br 174 cs2 := (sm_far hne _ _ _).trans hbr2
            have o2' := o1'.grown hg2 (fun q hq => by have := own_off o1' hbr3 (by decide) q hq; simpa using this)
            refine ⟨j + 1, by go_num, by omega, ?_, ?_, World.grownBy.trans (gsm_new hgw _ _ a3) hg2⟩
            · have e2 : rAs j l1 e1 ++ List.replicate (k - j) (0 : Int) = rAs j l1 e1 ++ (0 : Int) :: List.replicate (k - (j + 1)) (0 : Int) := by rw [e1', List.replicate_succ]
              have e3 : j = (rAs j l1 e1).length := (rAs_len _ _ _).symm
              have e4 := ivs_mid (rAs j l1 e1) (List.replicate (k - (j + 1)) 0) (rAct (rAl j l1 e1) (rAe j l1 e1))
              rw [← e3] at e4
              rw [e2, e4] at o2'
              rw [rAs_snoc]
              exact o2'
            · rw [rAl_snoc, rAe_snoc]; exact hw2
          case measure => simp [intOf]; omega
        · obtain rfl : j = k := by omega
          go_wp2_with fail
          go_ret
          rw [Nat.sub_self, List.replicate_zero, List.append_nil] at hO
          exact ⟨_, j, rfl, HN.out.1, hO, hS, hG⟩
end Go.Proofs.YtkhcmgnocbddmaaDoor.T
/- package table, what is read: all of a config's numbers. -/
namespace Go.Proofs.YtkhcmgnocbddmaaDoor.T
open Go.RowKit Go.Proofs.YtkhcmgnocbddmaaDoor.G Go.Proofs.YtkhcmgnocbddmaaDoor.C04

def rdW (l : List UInt8) (e : Int) : List Win × List UInt8 × Int := (rWs (W.nxV l e 1).toNat (rl [1] l e) (re [1] l e), rWl (W.nxV l e 1).toNat (rl [1] l e) (re [1] l e), rWe (W.nxV l e 1).toNat (rl [1] l e) (re [1] l e))
def rdC (l : List UInt8) (e : Int) : List Chn × List UInt8 × Int := (rCs (W.nxV l e 1).toNat (rl [1] l e) (re [1] l e), rCl (W.nxV l e 1).toNat (rl [1] l e) (re [1] l e), rCe (W.nxV l e 1).toNat (rl [1] l e) (re [1] l e))
def rdA (l : List UInt8) (e : Int) : List Int × List UInt8 × Int := (rAs (W.nxV l e 1).toNat (rl [1] l e) (re [1] l e), rAl (W.nxV l e 1).toNat (rl [1] l e) (re [1] l e), rAe (W.nxV l e 1).toNat (rl [1] l e) (re [1] l e))
def rd1 (l : List UInt8) (e : Int) := rdW (rl [1, 1] l e) (re [1, 1] l e)
def rd2 (l : List UInt8) (e : Int) := rdC (rd1 l e).2.1 (rd1 l e).2.2
def rd3 (l : List UInt8) (e : Int) := rdA (rd2 l e).2.1 (rd2 l e).2.2
/-- The config that is read, whatever it is, and what is left of the bytes, and the error. -/
def rCfg (l : List UInt8) (e : Int) : Cfg := ⟨W.nxV l e 1, W.nxV (rl [1] l e) (re [1] l e) 1, (rd1 l e).1, (rd2 l e).1, (rd3 l e).1⟩
def rCfgL (l : List UInt8) (e : Int) : List UInt8 := (rd3 l e).2.1
def rCfgE (l : List UInt8) (e : Int) : Int := (rd3 l e).2.2
theorem RS.far {gp br g i : Nat} {l : List UInt8} {e : Int} {V : World} {t : TypeId} {cs : Array Value} {u : Value} (h : RS gp br l e V) (hB : Blk V g t cs) (t1 : 174 ≠ t) (t2 : 5 ≠ t) (t3 : 123 ≠ t) : RS gp br l e (V.setCell ⟨g, i, none⟩ u) :=
  ⟨h.1.far (p := ⟨g, i, none⟩) (h.1.ne_ hB t3) _, h.2.1.farT hB t1 t2 _ _, h.2.2⟩
theorem RS.ne {gp br g : Nat} {l : List UInt8} {e : Int} {V : World} {t : TypeId} {cs : Array Value} (h : RS gp br l e V) (hB : Blk V g t cs) (t1 : 174 ≠ t) : g ≠ br := by
  obtain ⟨cs', h'⟩ := RS.br _ _ _ _ _ h; exact (h'.ne_ hB t1).symm
theorem own_rd {gp br : Nat} {l : List UInt8} {e : Int} {V V' : World} {B : Nat} {t : TypeId} {m n : Nat} {v : Value} {xs : List Value} (h : RS gp br l e V) (hO : Own V B t m v n xs) (t1 : t ≠ 174) (g : V.grownBy V' (some br)) : Own V' B t m v n xs := by
  obtain ⟨cs', h'⟩ := RS.br _ _ _ _ _ h
  exact hO.grown g (fun q hq => by have := own_off hO h' t1 q hq; simpa using this)
theorem below_gr {B br : Nat} {w V V' : World} (h : Below B w V) (g : V.grownBy V' (some br)) (hB : B ≤ br) (hv : B ≤ V.heap.size) : Below B w V' :=
  h.grown g hv fun k hk => by injection hk with hk; omega
set_option maxHeartbeats 4000000 in
set_option maxRecDepth 100000 in
theorem row_rd {w : World} {B gp br g : Nat} {l : List UInt8} {e : Int} (h : RS gp br l e w) (hB : Blk w g 50 zcfg) (b1 : B ≤ br) (b2 : B ≤ g) :
    Calls Tryd.prog 75 #[.pointer (some ⟨g, 0, none⟩), .func (.func 84) #[] #[.pointer (some ⟨gp, 0, none⟩)]] w fun r w' => ∃ v1 v2 v3, r = .returned (.tuple #[]) ∧ Blk w' g 50 #[.int .i64 (rCfg l e).P, .int .i64 (rCfg l e).F, v1, v2, v3] ∧ Own w' B 54 3 v1 (rCfg l e).ws.length (wvs (rCfg l e).ws) ∧ Own w' B 56 11 v2 (rCfg l e).cs.length (cvs (rCfg l e).cs) ∧ Own w' B 3 1 v3 (rCfg l e).ac.length (ivs (rCfg l e).ac) ∧ RS gp br (rCfgL l e) (rCfgE l e) w' ∧ Below B w w' := by
  have hgb := h.ne hB (by decide)
  have hbl : br < w.heap.size := by
    obtain ⟨cs', h'⟩ := RS.br _ _ _ _ _ h; exact h'.lt
  have M1 : Hid (∀ c0 : Nat, Calls Tryd.prog 103 #[.func (.func 84) #[] #[.pointer (some ⟨gp, 0, none⟩)], .slice (some ⟨w.heap.size, 0, none⟩) 2 c0] ((w.alloc (.cells #[.pointer (some ⟨g, 0, none⟩), .pointer (some ⟨g, 1, none⟩)] 118)).drew) (RPost gp br g l e [0, 1] (o1 2) w)) := fun c0 => ones_rn [0, 1] rfl h hB (fun i hi => by simp only [List.mem_cons, List.not_mem_nil, or_false] at hi; rcases hi with rfl | rfl <;> decide) (by decide) (by decide) (by decide) (by simp)
  have HB := Lib.hid hB
  have HS0 := Lib.hid h
  obtain ⟨P, hP⟩ : ∃ x, W.nxV l e 1 = x := ⟨_, rfl⟩
  obtain ⟨F, hF⟩ : ∃ x, W.nxV (rl [1] l e) (re [1] l e) 1 = x := ⟨_, rfl⟩
  obtain ⟨l1, hl1⟩ : ∃ x, rl [1, 1] l e = x := ⟨_, rfl⟩
  obtain ⟨e1, he1⟩ : ∃ x, re [1, 1] l e = x := ⟨_, rfl⟩
  have HP := Lib.hid (And.intro hP (And.intro hF (And.intro hl1 he1)))
  have hlt := hB.lt
  clear h hB hP hF hl1 he1
  go_enter Tryd.func75, Tryd.ntmps75
  go_wp2_with fail
  go_region_held3 (fun _ => True) (trivial) ((go_at_call 103; (with_reducible refine (M1.out _).mono ?_); rintro r w1 ⟨rfl, hw1, hg1⟩))
  have hg1 : (sm w g [0, 1] [P, F]).grownBy w1 (some br) := by
    rw [← HP.out.1, ← HP.out.2.1]; exact hg1
  have hw1 : RS gp br l1 e1 w1 := by
    rw [← HP.out.2.2.1, ← HP.out.2.2.2]; exact hw1
  have B1 : Blk w1 g 50 #[.int .i64 P, .int .i64 F, .slice none 0 0, .slice none 0 0, .slice none 0 0] := gblk hg1 (Blk.sm [0, 1] [P, F] HB.out) hgb
  have L1 : Below B w w1 := below_gr (((Below.refl B w).setCell b2 (.int .i64 P)).setCell b2 (.int .i64 F) : Below B w (sm w g [0, 1] [P, F])) hg1 b1 (by simp [World.setCell]; omega)
  have HL1 := Lib.hid L1
  have s1 := L1.size
  clear hg1 M1 L1 hlt
  have k1 := B1.cell
  have f1 := B1.frozen
  have z1 := B1.lt
  go_upto_region 2 with (go_at_call 104; (with_reducible refine (listw_rd hw1).mono ?_); rintro r w2 ⟨v1, N1, rfl, hn1, ho1, hw2, hg2⟩; obtain ⟨P1, p1, hv1⟩ := own_slice ho1; subst hv1; have B2 := gblk hg2 B1 hgb; clear k1 f1 z1; have k1 := B2.cell; have f1 := B2.frozen; have z1 := B2.lt)
  obtain ⟨l2, hl2⟩ : ∃ x, rWl N1 (rl [1] l1 e1) (re [1] l1 e1) = x := ⟨_, rfl⟩
  obtain ⟨e2, he2⟩ : ∃ x, rWe N1 (rl [1] l1 e1) (re [1] l1 e1) = x := ⟨_, rfl⟩
  obtain ⟨ws, hws⟩ : ∃ x, rWs N1 (rl [1] l1 e1) (re [1] l1 e1) = x := ⟨_, rfl⟩
  rw [hl2, he2] at hw2
  rw [hws] at ho1
  have HN1 := Lib.hid (And.intro hn1 (And.intro hl2 (And.intro he2 hws)))
  have C2 : Blk (w2.setCell ⟨g, 2, none⟩ (.slice P1 N1 p1)) g 50 #[.int .i64 P, .int .i64 F, .slice P1 N1 p1, .slice none 0 0, .slice none 0 0] := by simpa using B2.set_ 2 (.slice P1 N1 p1)
  have O1 := own_st (ho1.less (Nat.le_trans (by omega : B ≤ w.heap.size) s1)) (own_off ho1 B2 (by decide)) 2 (.slice P1 N1 p1)
  have R2 := RS.far (i := 2) (u := .slice P1 N1 p1) hw2 B2 (by decide) (by decide) (by decide)
  have L2 := (below_gr HL1.out hg2 b1 (Nat.le_trans (by omega : B ≤ w.heap.size) s1)).setCell (p := ⟨g, 2, none⟩) b2 (.slice P1 N1 p1)
  generalize w2.setCell ⟨g, 2, none⟩ (.slice P1 N1 p1) = V2 at *
  have HL2 := Lib.hid L2
  have s2 := L2.size
  clear k1 f1 z1 B1 B2 hw1 hw2 ho1 hg2 hn1 hl2 he2 hws L2
  have k1 := C2.cell
  have f1 := C2.frozen
  have z1 := C2.lt
  go_upto_region 3 with (go_at_call 106; (with_reducible refine (listc_rd R2).mono ?_); rintro r w3 ⟨v2, N2, rfl, hn2, ho2, hw3, hg3⟩; obtain ⟨P2, p2, hv2⟩ := own_slice ho2; subst hv2; have B3 := gblk hg3 C2 hgb; clear k1 f1 z1; have k1 := B3.cell; have f1 := B3.frozen; have z1 := B3.lt)
  obtain ⟨l3, hl3⟩ : ∃ x, rCl N2 (rl [1] l2 e2) (re [1] l2 e2) = x := ⟨_, rfl⟩
  obtain ⟨e3, he3⟩ : ∃ x, rCe N2 (rl [1] l2 e2) (re [1] l2 e2) = x := ⟨_, rfl⟩
  obtain ⟨ks, hks⟩ : ∃ x, rCs N2 (rl [1] l2 e2) (re [1] l2 e2) = x := ⟨_, rfl⟩
  rw [hl3, he3] at hw3
  rw [hks] at ho2
  have HN2 := Lib.hid (And.intro hn2 (And.intro hl3 (And.intro he3 hks)))
  have C3 : Blk (w3.setCell ⟨g, 3, none⟩ (.slice P2 N2 p2)) g 50 #[.int .i64 P, .int .i64 F, .slice P1 N1 p1, .slice P2 N2 p2, .slice none 0 0] := by simpa using B3.set_ 3 (.slice P2 N2 p2)
  have Q1 := own_rd R2 O1 (by decide) hg3
  replace Q1 := own_st Q1 (own_off Q1 B3 (by decide)) 3 (.slice P2 N2 p2)
  have Q2 := own_st (ho2.less (Nat.le_trans (by omega : B ≤ w.heap.size) s2)) (own_off ho2 B3 (by decide)) 3 (.slice P2 N2 p2)
  have R3 := RS.far (i := 3) (u := .slice P2 N2 p2) hw3 B3 (by decide) (by decide) (by decide)
  have L3 := (below_gr HL2.out hg3 b1 (Nat.le_trans (by omega : B ≤ w.heap.size) s2)).setCell (p := ⟨g, 3, none⟩) b2 (.slice P2 N2 p2)
  generalize w3.setCell ⟨g, 3, none⟩ (.slice P2 N2 p2) = V3 at *
  have HL3 := Lib.hid L3
  have s3 := L3.size
  clear k1 f1 z1 C2 B3 R2 O1 hw3 ho2 hg3 hn2 hl3 he3 hks L3
  have k1 := C3.cell
  have f1 := C3.frozen
  have z1 := C3.lt
  go_wp2_with (go_at_call 108; (with_reducible refine (listi_rd R3).mono ?_); rintro r w4 ⟨v3, N3, rfl, hn3, ho3, hw4, hg4⟩; obtain ⟨P3, p3, hv3⟩ := own_slice ho3; subst hv3; have B4 := gblk hg4 C3 hgb; clear k1 f1 z1; have k1 := B4.cell; have f1 := B4.frozen; have z1 := B4.lt)
  have C4 : Blk (w4.setCell ⟨g, 4, none⟩ (.slice P3 N3 p3)) g 50 #[.int .i64 P, .int .i64 F, .slice P1 N1 p1, .slice P2 N2 p2, .slice P3 N3 p3] := by simpa using B4.set_ 4 (.slice P3 N3 p3)
  have T1 := own_rd R3 Q1 (by decide) hg4
  replace T1 := own_st T1 (own_off T1 B4 (by decide)) 4 (.slice P3 N3 p3)
  have T2 := own_rd R3 Q2 (by decide) hg4
  replace T2 := own_st T2 (own_off T2 B4 (by decide)) 4 (.slice P3 N3 p3)
  have T3 := own_st (ho3.less (Nat.le_trans (by omega : B ≤ w.heap.size) s3)) (own_off ho3 B4 (by decide)) 4 (.slice P3 N3 p3)
  have R4 := RS.far (i := 4) (u := .slice P3 N3 p3) hw4 B4 (by decide) (by decide) (by decide)
  have L4 := (below_gr HL3.out hg4 b1 (Nat.le_trans (by omega : B ≤ w.heap.size) s3)).setCell (p := ⟨g, 4, none⟩) b2 (.slice P3 N3 p3)
  obtain ⟨q1, q2, q3, q4⟩ := HP.out
  obtain ⟨x1, x2, x3, x4⟩ := HN1.out
  obtain ⟨y1, y2, y3, y4⟩ := HN2.out
  have d1 : rd1 l e = (ws, l2, e2) := by
    rw [rd1, q3, q4, rdW, x1, Int.toNat_natCast, x2, x3, x4]
  have d2 : rd2 l e = (ks, l3, e3) := by
    rw [rd2, d1, rdC, y1, Int.toNat_natCast, y2, y3, y4]
  have d3 : rd3 l e = (rAs N3 (rl [1] l3 e3) (re [1] l3 e3), rAl N3 (rl [1] l3 e3) (re [1] l3 e3), rAe N3 (rl [1] l3 e3) (re [1] l3 e3)) := by
    rw [rd3, d2, rdA, hn3, Int.toNat_natCast]
  have hc : rCfg l e = ⟨P, F, ws, ks, rAs N3 (rl [1] l3 e3) (re [1] l3 e3)⟩ := by rw [rCfg, q1, q2, d1, d2, d3]
  have m1 : ws.length = N1 := by rw [← x4, rWs_len]
  have m2 : ks.length = N2 := by rw [← y4, rCs_len]
  refine bodyPost_end (v := .tuple #[]) (by simp [results, Tryd.results75, go_sem]) rfl ⟨.slice P1 N1 p1, .slice P2 N2 p2, .slice P3 N3 p3, rfl, ?_, ?_, ?_, ?_, ?_, L4⟩
  · rw [hc]; exact C4
  · rw [hc]; simp only [m1]; exact T1
  · rw [hc]; simp only [m2]; exact T2
  · rw [hc]; simp only [rAs_len]; exact T3
  · rw [rCfgL, rCfgE, d3]; exact R4
end Go.Proofs.YtkhcmgnocbddmaaDoor.T
/- table.Decode: the config of any bytes. -/
namespace Go.Proofs.YtkhcmgnocbddmaaDoor.T
open Go.RowKit Go.Proofs.YtkhcmgnocbddmaaDoor.G Go.Proofs.YtkhcmgnocbddmaaDoor.C04

def opE (l : List UInt8) : Int := if W.openE l = 0 then (if (W.openL l).length < 2 then 9 else if W.nxV (W.openL l) 0 1 = 231 ∧ W.nxV (rl [1] (W.openL l) 0) (re [1] (W.openL l) 0) 1 = 1 then 0 else 8) else W.openE l
def OpPost (w : World) (l : List UInt8) (e : Ending) (w' : World) : Prop := Below w.heap.size w w' ∧ ((opE l ≠ 0 ∧ e = .returned (.tuple #[.pointer none, .int .i64 (opE l)])) ∨ (opE l = 0 ∧ ∃ br, e = .returned (.tuple #[.pointer (some ⟨br, 0, none⟩), .int .i64 0]) ∧ w.heap.size ≤ br ∧ W.Rdr w' br (rl [1, 1] (W.openL l) 0) (re [1, 1] (W.openL l) 0)))
set_option maxHeartbeats 2000000 in
set_option maxRecDepth 100000 in
theorem open_rd {w : World} {A : Option Addr} {c : Nat} {l : List UInt8} (hr : W.Rd w A l) (hl : l.length ≤ 2048) (hc : l.length ≤ c) : Calls Tryd.prog 83 #[.slice A l.length c] w (OpPost w l) := by
  have HK := Lib.hid (W.open_any hr hl hc)
  obtain ⟨e0, he0⟩ : ∃ x, W.openE l = x := ⟨_, rfl⟩
  obtain ⟨p, hp⟩ : ∃ x, W.openL l = x := ⟨_, rfl⟩
  have hpl : p.length ≤ 2048 := by rw [← hp]; exact Nat.le_trans (W.openL_length l) hl
  have HE := Lib.hid (And.intro he0 hp)
  clear hr he0 hp
  by_cases h0 : e0 = 0
  · subst h0
    by_cases h2 : p.length < 2
    · have HO : Hid (opE l = 9) := by show opE l = 9; rw [opE, HE.out.1, HE.out.2, if_pos rfl, if_pos h2]
      have t2 : (p.length : Int) < 2 := by omega
      go_enter Tryd.func83, Tryd.ntmps83
      go_wp2_with (first
        | (go_at_call 115; refine HK.out.mono ?_; rintro e w1 ⟨x1, rfl, hx1, hb1⟩; rw [HE.out.1]; rw [HE.out.2] at hx1; obtain ⟨A1, c1, rfl, hr1, _, _, _⟩ := hx1.rd; have HR1 := Lib.hid hr1; clear hr1 hx1)
        | (go_at_call 116; (with_reducible refine (W.read_any HR1.out (Nat.le_trans hpl (by omega))).mono ?_); rintro e w2 ⟨br, rfl, hbr, hrd, hb2⟩; have HRD := Lib.hid hrd; clear hrd)
        | (go_at_call 117; (with_reducible refine (W.left_any HRD.out).mono ?_); rintro e w' ⟨rfl, rfl⟩))
      go_ret2
      exact ⟨bt hb1 hb2, .inl ⟨by rw [HO.out]; decide, by rw [HO.out]; rfl⟩⟩
    · have t2 : ¬ (p.length : Int) < 2 := by omega
      obtain ⟨y0, hy0⟩ : ∃ y, W.nxV p 0 1 = y := ⟨_, rfl⟩
      obtain ⟨y1, hy1⟩ : ∃ y, W.nxV (rl [1] p 0) (re [1] p 0) 1 = y := ⟨_, rfl⟩
      have HO : Hid (opE l = if y0 = 231 ∧ y1 = 1 then 0 else 8) := by show opE l = _; rw [opE, HE.out.1, HE.out.2, if_pos rfl, if_neg h2, hy0, hy1]
      have HY := Lib.hid (And.intro hy0 hy1)
      clear hy0 hy1
      go_enter Tryd.func83, Tryd.ntmps83
      go_upto_region 7 with (first
        | (go_at_call 115; refine HK.out.mono ?_; rintro e w1 ⟨x1, rfl, hx1, hb1⟩; rw [HE.out.1]; rw [HE.out.2] at hx1; obtain ⟨A1, c1, rfl, hr1, _, _, _⟩ := hx1.rd; have HR1 := Lib.hid hr1; clear hr1 hx1)
        | (go_at_call 116; (with_reducible refine (W.read_any HR1.out (Nat.le_trans hpl (by omega))).mono ?_); rintro e w2 ⟨br, rfl, hbr, hrd, hb2⟩; have HRD := Lib.hid hrd; clear hrd)
        | (go_at_call 117; (with_reducible refine (W.left_any HRD.out).mono ?_); rintro e w' ⟨rfl, rfl⟩))
      have HBB : Below w.heap.size w w2 := bt hb1 hb2
      have hbw : w.heap.size ≤ br := Nat.le_trans hb1.size hbr
      by_cases c0 : y0 = 231
      · subst c0
        by_cases c1' : y1 = 1
        · subst c1'
          go_wp2_with (first
            | (go_at_call 85; (with_reducible refine (W.next_any HRD.out (Nat.le_trans hpl (by omega)) 1).mono ?_); rintro r w3 ⟨rfl, hr3, hg3⟩; rw [HY.out.1]; have HR3 := Lib.hid hr3; have hl3 := Nat.le_trans (W.nxL_length p 0 1) hpl; clear hr3 HRD)
            | (go_at_call 85; (with_reducible refine (W.next_any HR3.out (Nat.le_trans hl3 (by omega)) 1).mono ?_); rintro r w4 ⟨rfl, hr4, hg4⟩; have hv : W.nxV (W.nxL p 0 1) (W.nxE p 0 1) 1 = 1 := HY.out.2; rw [hv]; have HR4 := Lib.hid hr4; clear hr4))
          go_ret2
          refine ⟨gbelow (gbelow HBB hg3 hbw) hg4 hbw, .inr ⟨by rw [HO.out]; simp, br, rfl, hbw, ?_⟩⟩
          rw [HE.out.2]; exact HR4.out
        · have t1 : (y1 != 1) = true := by simpa using c1'
          have HC := Lib.hid c1'
          clear c1'
          go_wp2_with (first
            | (go_at_call 85; (with_reducible refine (W.next_any HRD.out (Nat.le_trans hpl (by omega)) 1).mono ?_); rintro r w3 ⟨rfl, hr3, hg3⟩; rw [HY.out.1]; have HR3 := Lib.hid hr3; have hl3 := Nat.le_trans (W.nxL_length p 0 1) hpl; clear hr3 HRD)
            | (go_at_call 85; (with_reducible refine (W.next_any HR3.out (Nat.le_trans hl3 (by omega)) 1).mono ?_); rintro r w4 ⟨rfl, hr4, hg4⟩; have hv : W.nxV (W.nxL p 0 1) (W.nxE p 0 1) 1 = y1 := HY.out.2; rw [hv]; clear hr4))
          go_ret2
          have ho : opE l = 8 := by rw [HO.out, if_neg (fun h => HC.out h.2)]
          exact ⟨gbelow (gbelow HBB hg3 hbw) hg4 hbw, .inl ⟨by rw [ho]; decide, by rw [ho]; rfl⟩⟩
      · have t1 : (y0 != 231) = true := by simpa using c0
        have HC := Lib.hid c0
        clear c0
        go_wp2_with (go_at_call 85; (with_reducible refine (W.next_any HRD.out (Nat.le_trans hpl (by omega)) 1).mono ?_); rintro r w3 ⟨rfl, hr3, hg3⟩; rw [HY.out.1]; clear hr3)
        go_ret2
        have ho : opE l = 8 := by rw [HO.out, if_neg (fun h => HC.out h.1)]
        exact ⟨gbelow HBB hg3 hbw, .inl ⟨by rw [ho]; decide, by rw [ho]; rfl⟩⟩
  · have HO : Hid (opE l = e0) := by show opE l = e0; rw [opE, HE.out.1, if_neg h0]
    have t0 : (e0 != 0) = true := by simpa using h0
    have HN := Lib.hid h0
    clear h0
    go_enter Tryd.func83, Tryd.ntmps83
    go_wp2_with (go_at_call 115; refine HK.out.mono ?_; rintro e w1 ⟨x1, rfl, hx1, hb1⟩; rw [HE.out.1]; clear hx1)
    go_ret2
    exact ⟨hb1, .inl ⟨by rw [HO.out]; exact HN.out, by rw [HO.out]; rfl⟩⟩
end Go.Proofs.YtkhcmgnocbddmaaDoor.T
