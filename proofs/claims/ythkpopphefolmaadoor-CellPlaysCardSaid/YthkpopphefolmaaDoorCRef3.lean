/- The document's own answers for package cell: Write. -/
import Derived.Test.YthkpopphefolmaaDoorCRef2
namespace Go.Proofs.YthkpopphefolmaaDoor.Cell
open Go.RowKit Go.Proofs.YthkpopphefolmaaDoor.G

theorem Lst.far28 {w : World} {B r o : Nat} {v : Value} {l : List Int} {cs : Array Value} (h : Lst w B v l) (hb : Blk w r 28 cs) (u : Value) : Lst (w.setCell ⟨r, o, none⟩ u) B v l := by
  refine ⟨h.1, ?_⟩
  rcases h.2 with h0 | ⟨g, cap, cur, hv, hB, hh, rest⟩
  · exact .inl h0
  · refine .inr ⟨g, cap, cur, hv, hB, ?_, rest⟩
    have hne : g ≠ r := Blk.ne_ (t := 3) (cs := cur) hh hb (by decide)
    exact (Below.heap_setCell w ⟨r, o, none⟩ u g hne).trans hh
theorem Lst.alloc {w : World} {B : Nat} {v : Value} {l : List Int} (h : Lst w B v l) (o : Obj) : Lst (w.alloc o) B v l := h.block fun k _ hk => Below.heap_alloc w o k hk
/-- What the document's Write and Reset answer: the list, the count, a code. -/
def WPost (w : World) (B : Nat) (l : List Int) (c code : Int) (e : Ending) (w' : World) : Prop :=
  ∃ v', e = .returned (.tuple #[.agg #[v', .int .i64 c], .int .i64 code]) ∧ Lst w' B v' l ∧ Below w.heap.size w w'
set_option maxHeartbeats 1000000 in
theorem rwrite_any {w : World} {B : Nat} {v : Value} {l : List Int} (hv : Lst w B v l) (hB : B ≤ w.heap.size) (hl : l.length ≤ 4096) (c : Int) (c0 : 0 ≤ c) (c1 : c ≤ 1099511627776) (i x : Int) :
    Calls Tryd.prog 24 #[.agg #[v, .int .i64 c], .int .i64 i, .int .i64 x] w (WPost w B (swL l i x) (swN l i x c) (whyC l i x)) := by
  obtain ⟨A, ca, rfl, _, _⟩ := lst_rd hv
  have e1 : (w.alloc (.cells #[.slice A l.length ca, .int .i64 c] 28)).heap.size = w.heap.size + 1 := by simp
  have e2 : ((w.alloc (.cells #[.slice A l.length ca, .int .i64 c] 28)).alloc (.cells #[.slice none 0 0, .int .i64 0] 28)).heap.size = w.heap.size + 2 := by simp
  have b2 := Blk.new (w.alloc (.cells #[.slice A l.length ca, .int .i64 c] 28)) 28 #[.slice none 0 0, .int .i64 0]
  rw [e1] at b2
  have hv2 := (hv.alloc (.cells #[.slice A l.length ca, .int .i64 c] 28)).alloc (.cells #[.slice none 0 0, .int .i64 0] 28)
  have hbw := ((Below.refl w.heap.size w).alloc (Nat.le_refl _) (.cells #[.slice A l.length ca, .int .i64 c] 28)).alloc (by simp) (.cells #[.slice none 0 0, .int .i64 0] 28)
  have E2 := Lib.hid e2
  clear e1 e2
  go_enter Tryd.func24, Tryd.ntmps24
  go_wp2_with fail
  refine (rswap_any hv2 (by rw [E2.out]; omega) hl c c0 c1 i x).mono ?_
  rintro e w1 ⟨v', rfl, hv', hb⟩
  have b3 := b2.below hb (by rw [E2.out]; omega)
  have z := b3.lt
  have hbw1 := hbw.trans (hb.mono (by rw [E2.out]; omega))
  generalize swN l i x c = c' at *
  generalize swV l i x = y at *
  generalize whyC l i x = code at *
  generalize swL l i x = l' at *
  have d4 : w1.cell? ⟨w.heap.size + 1, 0, none⟩ = some (.slice none 0 0) := b3.cell 0
  have d5 : w1.cell? ⟨w.heap.size + 1, 1, none⟩ = some (.int .i64 0) := b3.cell 1
  have d6 := b3.frozen 0
  have d7 := b3.frozen 1
  have hfin : WPost w B l' c' code (.returned (.tuple #[.agg #[v', .int .i64 c'], .int .i64 code])) (((w1.setCell ⟨w.heap.size + 1, 0, none⟩ v').setCell ⟨w.heap.size + 1, 1, none⟩ (.int .i64 c')).alloc (.cells #[v', .int .i64 c'] 28)) := by
    have hz : ∀ (p : Addr) (u : Value) (w : World), (w.setCell p u).heap.size = w.heap.size := fun p u w => by simp [World.setCell]
    exact ⟨v', rfl, ((hv'.far28 b3 v').far28 (b3.set_ 0 v') (.int .i64 c')).alloc _, ((hbw1.setCell (p := ⟨w.heap.size + 1, 0, none⟩) (by show w.heap.size ≤ w.heap.size + 1; omega) v').setCell (p := ⟨w.heap.size + 1, 1, none⟩) (by show w.heap.size ≤ w.heap.size + 1; omega) (.int .i64 c')).alloc (by rw [hz, hz]; omega) _⟩
  obtain ⟨A', ca', rfl, _, _⟩ := lst_rd hv'
  have HF := Lib.hid hfin; clear hfin
  clear hv hv2 hv' hb b2 b3 hbw hbw1
  go_wp2
  refine bodyPost_ret (v := .tuple #[.agg #[.slice A' l'.length ca', .int .i64 c'], .int .i64 code]) (by simp [results, Tryd.results24, go_sem, d4, d5, z]) rfl ?_
  exact HF.out
end Go.Proofs.YthkpopphefolmaaDoor.Cell
