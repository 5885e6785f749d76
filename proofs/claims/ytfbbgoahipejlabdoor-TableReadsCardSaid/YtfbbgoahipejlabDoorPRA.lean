/- Texts laid together: PR, PR2. -/
import Derived.Test.YtfbbgoahipejlabDoorPW6
/- package table, what is read: the closure that reads a number, and numbers of one byte, one behind the other. -/
namespace Go.Proofs.YtfbbgoahipejlabDoor.T
open Go.RowKit Go.Proofs.YtfbbgoahipejlabDoor.G Go.Proofs.YtfbbgoahipejlabDoor.C04

/-- A reader in block br, and a variable that points to it in block gp. -/
def RS (gp br : Nat) (l : List UInt8) (e : Int) (V : World) : Prop := Blk V gp 95 #[.pointer (some ⟨br, 0, none⟩)] ∧ W.Rdr V br l e ∧ l.length ≤ 2048
theorem RS.br (gp br : Nat) (l : List UInt8) (e : Int) (V : World) (h : RS gp br l e V) : ∃ cs, Blk V br 161 cs := by
  obtain ⟨_, ⟨A, c, h2⟩, _⟩ := h; exact ⟨_, h2.head⟩
theorem RS.below {gp br : Nat} {l : List UInt8} {e : Int} {w w' : World} (h : RS gp br l e w) (hb : Below w.heap.size w w') : RS gp br l e w' := ⟨h.1.bel hb, h.2.1.below hb, h.2.2⟩
theorem RS.alloc {gp br : Nat} {l : List UInt8} {e : Int} {w : World} (h : RS gp br l e w) (o : Obj) : RS gp br l e (w.alloc o) := h.below (b01 _ _)
theorem RS.drew {gp br : Nat} {l : List UInt8} {e : Int} {w : World} (h : RS gp br l e w) : RS gp br l e w.drew := ⟨h.1, h.2.1.drewN 1, h.2.2⟩
theorem gset {w W : World} {br b i : Nat} {t : TypeId} {cs : Array Value} {u : Value} (hB : Blk w b t cs) (hn : b ≠ br) (hg : w.grownBy W (some br)) : (w.setCell ⟨b, i, none⟩ u).grownBy (W.setCell ⟨b, i, none⟩ u) (some br) := by
  refine ⟨hg.os, hg.tape, hg.output, by simpa [World.setCell] using hg.size, fun k hlt hk => ?_⟩
  have hlt' : k < w.heap.size := by simpa [World.setCell] using hlt
  by_cases e : k = b
  · subst e
    exact ((gblk hg hB hn).set_ i u).trans (hB.set_ i u).symm
  · rw [Below.heap_setCell W _ _ k (fun h => e h), Below.heap_setCell w _ _ k (fun h => e h)]
    exact hg.block k hlt' hk
set_option maxHeartbeats 1000000 in
set_option maxRecDepth 100000 in
theorem clos_rd {w : World} {gp br b i : Nat} {t : TypeId} {cs : Array Value} {l : List UInt8} {e : Int} (n : Int) (h : RS gp br l e w) (hB : Blk w b t cs) (hi : i < cs.size) (t1 : 161 ≠ t) (t2 : 5 ≠ t) (t3 : 95 ≠ t) :
    Calls Tryd.prog 60 #[.int .i64 n, .pointer (some ⟨b, i, none⟩), .pointer (some ⟨gp, 0, none⟩)] w fun r w' => r = .returned (.tuple #[]) ∧ RS gp br (W.nxL l e n) (W.nxE l e n) w' ∧ (w.setCell ⟨b, i, none⟩ (.int .i64 (W.nxV l e n))).grownBy w' (some br) := by
  have hbr : b ≠ br := by
    obtain ⟨cs', h'⟩ := RS.br _ _ _ _ _ h
    exact (h'.ne_ hB t1).symm
  have hgb : gp ≠ br := by
    obtain ⟨cs', h'⟩ := RS.br _ _ _ _ _ h
    exact h.1.ne_ h' (by decide)
  have HS := Lib.hid h
  have HBB := Lib.hid hB
  have HT := Lib.hid (And.intro t1 (And.intro t2 t3))
  have HR := Lib.hid h.2.1
  have HL : Hid (l.length ≤ 4096) := Nat.le_trans h.2.2 (by omega)
  have k0 := h.1.cell 0
  clear h hB t1 t2 t3
  go_enter Tryd.func60, Tryd.ntmps60
  go_wp2_with (go_at_call 61; (with_reducible refine (W.next_any HR.out HL.out n).mono ?_); rintro r w1 ⟨rfl, hr1, hg1⟩; have B1 := gblk hg1 HBB.out hbr; have c1 := (B1.cell i).trans (Array.getElem?_eq_getElem hi); have f1 := B1.frozen i; have z1 := B1.lt)
  refine bodyPost_end (v := .tuple #[]) (by simp [results, Tryd.results60, go_sem]) rfl ⟨rfl, ?_, gset HBB.out hbr hg1⟩
  refine ⟨(gblk hg1 HS.out.1 hgb).far (p := ⟨b, i, none⟩) ((gblk hg1 HS.out.1 hgb).ne_ B1 HT.out.2.2) _, hr1.farT B1 HT.out.1 HT.out.2.1 _ _, Nat.le_trans (W.nxL_length _ _ _) HS.out.2.2⟩
end Go.Proofs.YtfbbgoahipejlabDoor.T
/- package table, what is read: numbers of one byte, one behind the other. -/
namespace Go.Proofs.YtfbbgoahipejlabDoor.T
open Go.RowKit Go.Proofs.YtfbbgoahipejlabDoor.G Go.Proofs.YtfbbgoahipejlabDoor.C04

def sm (V : World) (b : Nat) : List Nat → List Int → World
  | i :: is, y :: ys => sm (V.setCell ⟨b, i, none⟩ (.int .i64 y)) b is ys
  | _, _ => V
def sc (cs : Array Value) : List Nat → List Int → Array Value
  | i :: is, y :: ys => sc (cs.setIfInBounds i (.int .i64 y)) is ys
  | _, _ => cs
theorem sc_size : ∀ (is : List Nat) (ys : List Int) (cs : Array Value), (sc cs is ys).size = cs.size
  | i :: is, y :: ys, cs => by rw [sc, sc_size is ys]; simp
  | [], [], _ => rfl
  | [], _ :: _, _ => rfl
  | _ :: _, [], _ => rfl
theorem Blk.sm {b : Nat} {t : TypeId} : ∀ (is : List Nat) (ys : List Int) {V : World} {cs : Array Value}, Blk V b t cs → Blk (sm V b is ys) b t (sc cs is ys)
  | i :: is, y :: ys, _, _, h => Blk.sm is ys (h.set_ i _)
  | [], [], _, _, h => h
  | [], _ :: _, _, _, h => h
  | _ :: _, [], _, _, h => h
theorem sm_far {b g : Nat} (hn : g ≠ b) : ∀ (is : List Nat) (ys : List Int) (V : World), (sm V b is ys).heap[g]? = V.heap[g]?
  | i :: is, y :: ys, V => by rw [T.sm, sm_far hn is ys, Below.heap_setCell V _ _ g hn]
  | [], [], _ => rfl
  | [], _ :: _, _ => rfl
  | _ :: _, [], _ => rfl
theorem sm_size {b : Nat} : ∀ (is : List Nat) (ys : List Int) (V : World), (sm V b is ys).heap.size = V.heap.size
  | i :: is, y :: ys, V => by rw [T.sm, sm_size is ys]; simp [World.setCell]
  | [], [], _ => rfl
  | [], _ :: _, _ => rfl
  | _ :: _, [], _ => rfl
theorem sm_snoc {b i : Nat} {y : Int} : ∀ (is : List Nat) (ys : List Int) (V : World), is.length = ys.length → sm V b (is ++ [i]) (ys ++ [y]) = (sm V b is ys).setCell ⟨b, i, none⟩ (.int .i64 y)
  | i' :: is, y' :: ys, V, h => by simp only [List.cons_append, T.sm]; exact sm_snoc is ys _ (by simpa using h)
  | [], [], _, _ => rfl
  | [], _ :: _, _, h => by simp at h
  | _ :: _, [], _, h => by simp at h
theorem sm_grow {b br : Nat} {t : TypeId} (hn : b ≠ br) : ∀ (is : List Nat) (ys : List Int) {w V : World} {cs : Array Value}, Blk w b t cs → w.grownBy V (some br) → (sm w b is ys).grownBy (sm V b is ys) (some br)
  | i :: is, _ :: ys, _, _, _, h, g => sm_grow hn is ys (h.set_ i _) (gset h hn g)
  | [], [], _, _, _, _, g => g
  | [], _ :: _, _, _, _, _, g => g
  | _ :: _, [], _, _, _, _, g => g
def rv : List Int → List UInt8 → Int → List Int
  | [], _, _ => []
  | n :: ns, l, e => W.nxV l e n :: rv ns (W.nxL l e n) (W.nxE l e n)
def rl : List Int → List UInt8 → Int → List UInt8
  | [], l, _ => l
  | n :: ns, l, e => rl ns (W.nxL l e n) (W.nxE l e n)
def re : List Int → List UInt8 → Int → Int
  | [], _, e => e
  | n :: ns, l, e => re ns (W.nxL l e n) (W.nxE l e n)
theorem rv_snoc (n : Int) : ∀ (ns : List Int) (l : List UInt8) (e : Int), rv (ns ++ [n]) l e = rv ns l e ++ [W.nxV (rl ns l e) (re ns l e) n]
  | [], _, _ => rfl
  | m :: ns, l, e => by simp only [List.cons_append, rv, rl, re]; rw [rv_snoc n ns]
theorem rl_snoc (n : Int) : ∀ (ns : List Int) (l : List UInt8) (e : Int), rl (ns ++ [n]) l e = W.nxL (rl ns l e) (re ns l e) n
  | [], _, _ => rfl
  | m :: ns, l, e => by simp only [List.cons_append, rl, re]; rw [rl_snoc n ns]
theorem re_snoc (n : Int) : ∀ (ns : List Int) (l : List UInt8) (e : Int), re (ns ++ [n]) l e = W.nxE (rl ns l e) (re ns l e) n
  | [], _, _ => rfl
  | m :: ns, l, e => by simp only [List.cons_append, rl, re]; rw [re_snoc n ns]
theorem rv_len : ∀ (ns : List Int) (l : List UInt8) (e : Int), (rv ns l e).length = ns.length
  | [], _, _ => rfl
  | m :: ns, l, e => by simp only [rv, List.length_cons]; rw [rv_len ns]
abbrev o1 (k : Nat) : List Int := List.replicate k 1
theorem o1_succ (j : Nat) : o1 (j + 1) = o1 j ++ [1] := List.replicate_succ'
def RInv (w : World) (gp br b : Nat) (l : List UInt8) (e : Int) (is : List Nat) (i : Value) (V : World) : Prop := ∃ j : Nat, i = .int .i64 j ∧ j ≤ is.length ∧ RS gp br (rl (o1 j) l e) (re (o1 j) l e) V ∧ (sm w b (is.take j) (rv (o1 j) l e)).grownBy V (some br)
def RPost (gp br b : Nat) (l : List UInt8) (e : Int) (is : List Nat) (ns : List Int) (w : World) (r : Ending) (w' : World) : Prop := r = .returned (.tuple #[]) ∧ RS gp br (rl ns l e) (re ns l e) w' ∧ (sm w b is (rv ns l e)).grownBy w' (some br)
set_option maxHeartbeats 1000000 in
theorem ones_rd {w : World} {gp br b c k : Nat} {t : TypeId} {cs : Array Value} {A : Option Addr} {l : List UInt8} {e : Int} (is : List Nat) (hk : is.length = k) (h : RS gp br l e w) (hB : Blk w b t cs) (hi : ∀ i ∈ is, i < cs.size) (t1 : 161 ≠ t) (t2 : 5 ≠ t) (t3 : 95 ≠ t) (hr : Row w A (is.map (ptr b))) (hA : ∀ b' o, A = some ⟨b', o, none⟩ → b' ≠ br ∧ b' ≠ b) (hx : is.length ≤ 100) :
    Calls Tryd.prog 97 #[.func (.func 60) #[] #[.pointer (some ⟨gp, 0, none⟩)], .slice A k c] w (RPost gp br b l e is (o1 k) w) := by
  subst hk
  have hbr : b ≠ br := by
    obtain ⟨cs', h'⟩ := RS.br _ _ _ _ _ h
    exact (h'.ne_ hB t1).symm
  have HR := Lib.hid hr
  have HA := Lib.hid hA
  have HI := Lib.hid hi
  have HB := Lib.hid hB
  have HS := Lib.hid h
  have HT := Lib.hid (And.intro t1 (And.intro t2 t3))
  clear hr hA hi h hB t1 t2 t3
  go_enter Tryd.func97, Tryd.ntmps97
  go_wp2_with fail
  go_loopw [8] (fun i V => RInv w gp br b l e is i V) (fun i _ => is.length - (intOf i).toNat)
  case atStart => exact ⟨0, rfl, by omega, HS.out, grefl _ _⟩
  case round =>
    obtain ⟨j, rfl, hj, hw, hg⟩ := hrel
    by_cases hlt : j < is.length
    · obtain ⟨i, hij, _⟩ := drop_cons hlt
      obtain ⟨a, o, rfl, ha, hrc⟩ := HR.out (by simp; omega)
      obtain ⟨ha1, ha2⟩ := HA.out a o rfl
      have B1 := gblk hg (Blk.sm (is.take j) (rv (o1 j) l e) HB.out) hbr
      have hcell : (sm w b (is.take j) (rv (o1 j) l e)).cell? ⟨a, o + j, none⟩ = w.cell? ⟨a, o + j, none⟩ := World.cell?_of_block (sm_far ha2 _ _ _)
      have c1 : wr.cell? ⟨a, o + j, none⟩ = some (.pointer (some ⟨b, i, none⟩)) := (gcell hg (by rw [sm_size]; exact ha) ha1).trans (hcell.trans (hrc j _ (by simp [hij, ptr])))
      have hsz : i < (sc cs (is.take j) (rv (o1 j) l e)).size := by rw [sc_size]; exact HI.out i (List.mem_of_getElem? hij)
      have HX := Lib.hid hij
      have HG := Lib.hid hg
      have HW := Lib.hid hw
      have HB1 := Lib.hid B1
      clear hrc hij hg hw B1 hcell
      go_wp2_with (go_at_call 60; (with_reducible refine (clos_rd 1 HW.out HB1.out hsz HT.out.1 HT.out.2.1 HT.out.2.2).mono ?_); rintro r w1 ⟨rfl, hw1, hg1⟩)
      go_roundw
      case rel =>
        refine ⟨j + 1, by go_num, by omega, ?_, ?_⟩
        · rw [o1_succ, rl_snoc, re_snoc]; exact hw1
        · rw [List.take_add_one, HX.out, o1_succ, rv_snoc]
          simp only [Option.toList]
          rw [sm_snoc _ _ _ (by rw [rv_len, List.length_take, List.length_replicate]; omega)]
          exact World.grownBy.trans (gset (Blk.sm _ _ HB.out) hbr HG.out) hg1
      case measure => simp [intOf]; omega
    · obtain rfl : j = is.length := by omega
      go_wp2_with fail
      refine bodyPost_end (v := .tuple #[]) (by simp [results, Tryd.results97, go_sem]) rfl ⟨rfl, hw, ?_⟩
      rw [List.take_of_length_le (Nat.le_refl _)] at hg
      exact hg
theorem ones_rn {w : World} {gp br b c k : Nat} {t : TypeId} {cs : Array Value} {l : List UInt8} {e : Int} (is : List Nat) (hk : is.length = k) (h : RS gp br l e w) (hB : Blk w b t cs) (hi : ∀ i ∈ is, i < cs.size) (t1 : 161 ≠ t) (t2 : 5 ≠ t) (t3 : 95 ≠ t) (hx : is.length ≤ 100) :
    Calls Tryd.prog 97 #[.func (.func 60) #[] #[.pointer (some ⟨gp, 0, none⟩)], .slice (some ⟨w.heap.size, 0, none⟩) k c] ((w.alloc (.cells (is.map (ptr b)).toArray 100)).drew) (RPost gp br b l e is (o1 k) w) := by
  obtain ⟨cs', hbr'⟩ := RS.br _ _ _ _ _ h
  have hbr : b ≠ br := (hbr'.ne_ hB t1).symm
  refine (ones_rd (w := (w.alloc (.cells (is.map (ptr b)).toArray 100)).drew) (c := c) is hk (h.alloc _).drew (hB.alloc _) hi t1 t2 t3 ((Row.of_blk (Blk.new w 100 _) (fun j u hj => by simpa using hj)).drewN 1) (fun b' o e => by injection e with e; injection e with e; subst e; exact ⟨Nat.ne_of_gt hbr'.lt, Nat.ne_of_gt hB.lt⟩) hx).mono ?_
  rintro r w' ⟨rfl, h1, h2⟩
  exact ⟨rfl, h1, World.grownBy.trans (sm_grow hbr _ _ hB (gdrew (galloc (grefl w br) _))) h2⟩
end Go.Proofs.YtfbbgoahipejlabDoor.T
