/- package table, what is read: the closure that reads a number, and numbers of one byte, one behind the other. -/
import Derived.Test.YthkpopphefolmaaDoorPW6
namespace Go.Proofs.YthkpopphefolmaaDoor.T
open Go.RowKit Go.Proofs.YthkpopphefolmaaDoor.G Go.Proofs.YthkpopphefolmaaDoor.C04

/-- A reader in block br, and a variable that points to it in block gp. -/
def RS (gp br : Nat) (l : List UInt8) (e : Int) (V : World) : Prop := Blk V gp 136 #[.pointer (some ⟨br, 0, none⟩)] ∧ W.Rdr V br l e ∧ l.length ≤ 2048
theorem RS.br (gp br : Nat) (l : List UInt8) (e : Int) (V : World) (h : RS gp br l e V) : ∃ cs, Blk V br 187 cs := by
  obtain ⟨_, ⟨A, c, h2⟩, _⟩ := h; exact ⟨_, h2.head⟩
theorem RS.below {gp br : Nat} {l : List UInt8} {e : Int} {w w' : World} (h : RS gp br l e w) (hb : Below w.heap.size w w') : RS gp br l e w' := ⟨h.1.bel hb, h.2.1.below hb, h.2.2⟩
theorem RS.alloc {gp br : Nat} {l : List UInt8} {e : Int} {w : World} (h : RS gp br l e w) (o : Obj) : RS gp br l e (w.alloc o) := h.below (b01 _ _)
theorem RS.drew {gp br : Nat} {l : List UInt8} {e : Int} {w : World} (h : RS gp br l e w) : RS gp br l e w.drew := ⟨h.1, h.2.1.drewN 1, h.2.2⟩
theorem gset {w W : World} {br b i : Nat} {t : TypeId} {cs : Array Value} {u : Value} (hB : Blk w b t cs) (hn : b ≠ br) (hg : w.grownBy W (some br)) : (w.setCell ⟨b, i, none⟩ u).grownBy (W.setCell ⟨b, i, none⟩ u) (some br) := by
  refine ⟨hg.os, hg.tape, hg.output, by simpa [World.setCell] using hg.size, fun k hlt hk => ?_⟩
  have hlt' : k < w.heap.size := by simpa [World.setCell] using hlt
  by_cases e : k = b
  · subst e
    exact ((gblk hg hB hn).set_ i u).trans (hB.set_ i u).symm
  · rw [Below.heap_setCell W _ _ k (fun h => e h), Below.heap_setCell w _ _ k (fun h => e h)]
    exact hg.block k hlt' hk
set_option maxHeartbeats 1000000 in
set_option maxRecDepth 100000 in
theorem clos_rd {w : World} {gp br b i : Nat} {t : TypeId} {cs : Array Value} {l : List UInt8} {e : Int} (n : Int) (h : RS gp br l e w) (hB : Blk w b t cs) (hi : i < cs.size) (t1 : 187 ≠ t) (t2 : 5 ≠ t) (t3 : 136 ≠ t) :
    Calls Tryd.prog 90 #[.int .i64 n, .pointer (some ⟨b, i, none⟩), .pointer (some ⟨gp, 0, none⟩)] w fun r w' => r = .returned (.tuple #[]) ∧ RS gp br (W.nxL l e n) (W.nxE l e n) w' ∧ (w.setCell ⟨b, i, none⟩ (.int .i64 (W.nxV l e n))).grownBy w' (some br) := by
  have hbr : b ≠ br := by
    obtain ⟨cs', h'⟩ := RS.br _ _ _ _ _ h
    exact (h'.ne_ hB t1).symm
  have hgb : gp ≠ br := by
    obtain ⟨cs', h'⟩ := RS.br _ _ _ _ _ h
    exact h.1.ne_ h' (by decide)
  have HS := Lib.hid h
  have HBB := Lib.hid hB
  have HT := Lib.hid (And.intro t1 (And.intro t2 t3))
  have HR := Lib.hid h.2.1
  have HL : Hid (l.length ≤ 4096) := Nat.le_trans h.2.2 (by omega)
  have k0 := h.1.cell 0
  clear h hB t1 t2 t3
  go_enter Tryd.func90, Tryd.ntmps90
  go_wp2_with (go_at_call 91; (with_reducible refine (W.next_any HR.out HL.out n).mono ?_); rintro r w1 ⟨rfl, hr1, hg1⟩; have B1 := gblk hg1 HBB.out hbr; have c1 := (B1.cell i).trans (Array.getElem?_eq_getElem hi); have f1 := B1.frozen i; have z1 := B1.lt)
  refine bodyPost_end (v := .tuple #[]) (by simp [results, Tryd.results90, go_sem]) rfl ⟨rfl, ?_, gset HBB.out hbr hg1⟩
  refine ⟨(gblk hg1 HS.out.1 hgb).far (p := ⟨b, i, none⟩) ((gblk hg1 HS.out.1 hgb).ne_ B1 HT.out.2.2) _, hr1.farT B1 HT.out.1 HT.out.2.1 _ _, Nat.le_trans (W.nxL_length _ _ _) HS.out.2.2⟩
end Go.Proofs.YthkpopphefolmaaDoor.T
