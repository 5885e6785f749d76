/- A register of four slots: Write, Read: the walks. -/
import Derived.Test.YthkpopphefolmaaDoorFCalls2
namespace Go.Proofs.YthkpopphefolmaaDoor.F4
open Go.RowKit Go.Proofs.YthkpopphefolmaaDoor.G Go.Proofs.YthkpopphefolmaaDoor.Cell
attribute [local go_sem ↓] Go.wp_at_zero Go.wp_at_succ
set_option maxRecDepth 100000
variable {w w' : World} {br bm gm rb tb pb qb : Nat} {wa : WA} {ra : RA} {s : St} {c : Int} {F : Nat → Prop} {x : Wr} {y : Rr}

theorem write_nil (v : Value) (w : World) : Calls Tryd.prog 56 #[.pointer none, v] w fun e w' => e = .returned (.int .i64 3) ∧ w = w' := by
  go_enter Tryd.func56, Tryd.ntmps56
  go_wp2
  go_ret
  exact ⟨rfl, rfl⟩
theorem write_len {A : Option Addr} {cp n : Nat} (h : Reg w br bm gm wa ra s c F) (hn : n ≠ s.W) :
    Calls Tryd.prog 56 #[P br, .slice A n cp] w fun e w' => e = .returned (.int .i64 3) ∧ Below w.heap.size w w' := by
  have k0 := h.head.cell
  have t0 : ((n : Int) != (s.W : Int)) = true := by rw [bne_iff_ne]; omega
  clear h hn
  unfold P at k0 ⊢
  go_enter Tryd.func56, Tryd.ntmps56
  go_wp2
  go_ret
  exact ⟨rfl, Below.refl _ _⟩
theorem write_bad {A : Option Addr} {cp : Nat} {l : List Int} (h : Reg w br bm gm wa ra s c F) (hE : Et w) (hr : Row w A (iv' l)) (hl : l.length = s.W) (hW : s.W ≤ 6) (hok : allOk l = false) :
    Calls Tryd.prog 56 #[P br, .slice A l.length cp] w fun e w' => e = .returned (.int .i64 3) ∧ Below w.heap.size w w' := by
  have k0 := h.head.cell
  have HA := Lib.hid (are_any (cp := cp) hE hr (by omega))
  rw [← hl] at k0
  rw [hok] at HA
  clear h hE hr hl hok
  unfold P at k0 ⊢
  go_enter Tryd.func56, Tryd.ntmps56
  go_wp2_with (go_at_call 100; refine HA.out.mono ?_; rintro e w1 ⟨rfl, hb⟩)
  go_ret
  exact ⟨rfl, hb⟩
theorem write_busy {A : Option Addr} {cp : Nat} {l : List Int} (h : Reg w br bm gm wa ra s c F) (hE : Et w) (hr : Row w A (iv' l)) (hl : l.length = s.W) (hW : s.W ≤ 6) (hok : allOk l = true) (hx : s.wr = some x) :
    Calls Tryd.prog 56 #[P br, .slice A l.length cp] w fun e w' => e = .returned (.int .i64 1) ∧ Below w.heap.size w w' := by
  have hh := h.head
  rw [← hl, wpt_some hx] at hh
  have k0 := hh.cell
  have HH := Lib.hid hh
  have HA := Lib.hid (are_any (cp := cp) hE hr (by omega))
  rw [hok] at HA
  clear h hE hr hl hok hh hx
  unfold P at k0 ⊢
  go_enter Tryd.func56, Tryd.ntmps56
  go_wp2_with (go_at_call 100; refine HA.out.mono ?_; rintro e w1 ⟨rfl, hb⟩; have k1 := (HH.out.bel hb).cell)
  go_ret
  exact ⟨rfl, hb⟩
def WPost (br bm gm : Nat) (s : St) (c : Int) (F : Nat → Prop) (w : World) (e : Ending) (w' : World) : Prop := e = .returned (.int .i64 0) ∧ ∃ wa ra, Reg w' br bm gm wa ra s c (Gr F w.heap.size) ∧ Only F w w'
theorem Gr.mono {n m : Nat} (h : n ≤ m) : ∀ b, Gr F m b → Gr F n b := fun b hb => hb.elim .inl fun h2 => .inr (Nat.le_trans h h2)
theorem write_ok_ {A : Option Addr} {cp : Nat} {l : List Int} (h : Reg w br bm gm wa ra s c F) (hE : Et w) (hr : Row w A (iv' l)) (hl : l.length = s.W) (hW : s.W ≤ 6) (hcp : l.length ≤ cp) (hcp2 : cp ≤ 9223372036854775807) (hok : allOk l = true) (hx : s.wr = none) :
    Calls Tryd.prog 56 #[P br, .slice A l.length cp] w (WPost br bm gm { s with wr := some ⟨0, l, 0, 0⟩ } c F w) := by
  have hh := h.head
  rw [← hl, wpt_none hx] at hh
  have k0 := hh.cell
  have HH := Lib.hid hh
  have HA := Lib.hid (are_any (cp := cp) hE hr (by omega))
  rw [hok] at HA
  have HR := Lib.hid h
  have HRow := Lib.hid hr
  have HL := Lib.hid hl
  have hl6 : l.length ≤ 6 := by omega
  clear h hE hr hl hok hh hx
  unfold P at k0 ⊢
  go_enter Tryd.func56, Tryd.ntmps56
  go_upto_region 5 with (go_at_call 100; refine HA.out.mono ?_; rintro e w1 ⟨rfl, hb⟩; have k1 := (HH.out.bel hb).cell)
  have HB := Lib.hid hb
  have HH1 := Lib.hid (HH.out.bel hb)
  have HW := Lib.hid (wacc_any (br := br) (HRow.out.below hb) hl6 hcp hcp2)
  unfold P at HW
  clear k0 k1
  go_wp2_with (go_at_call 101; refine HW.out.mono ?_; rintro e w2 ⟨rb, pb, qb, L, cn, ps, rfl, hm⟩; have HM := Lib.hid hm; have hz := (HH1.out.bel hm.wp.bl).lt; have k2 := ((HH1.out.bel hm.wp.bl).alloc (.cells #[.slice (some ⟨L, 0, none⟩) (4 + l.length) cn, .slice none 0 0] 159)).cell; have f2 := ((HH1.out.bel hm.wp.bl).alloc (.cells #[.slice (some ⟨L, 0, none⟩) (4 + l.length) cn, .slice none 0 0] 159)).frozen; clear hm)
  go_ret
  obtain ⟨wa', ra', r1, r2⟩ := (HR.out.below HB.out).wnew HL.out HM.out
  rw [World.setCell_alloc_past _ _ _ _ hz] at r1 r2
  exact ⟨rfl, wa', ra', r1.mono (Gr.mono HB.out.size), (Only.of_below HB.out).trans_ r2⟩
/-! ### Read -/
theorem read_nil (w : World) : Calls Tryd.prog 58 #[.pointer none] w fun e w' => e = .returned (.int .i64 1) ∧ w = w' := by
  go_enter Tryd.func58, Tryd.ntmps58
  go_wp2
  go_ret
  exact ⟨rfl, rfl⟩
theorem read_busy (h : Reg w br bm gm wa ra s c F) (hy : s.rd = some y) : Calls Tryd.prog 58 #[P br] w fun e w' => e = .returned (.int .i64 1) ∧ w = w' := by
  have hh := h.head
  rw [rpt_some hy] at hh
  have k0 := hh.cell
  clear h hh hy
  unfold P at k0 ⊢
  go_enter Tryd.func58, Tryd.ntmps58
  go_wp2
  go_ret
  exact ⟨rfl, rfl⟩
theorem read_ok_ (h : Reg w br bm gm wa ra s c F) (hW : s.W ≤ 6) (hy : s.rd = none) : Calls Tryd.prog 58 #[P br] w (WPost br bm gm { s with rd := some ⟨0, 0, 0, List.replicate s.W 0⟩ } c F w) := by
  obtain ⟨wa', h', hwh⟩ := h.trim_w
  have hh := h'.head
  rw [rpt_none hy] at hh
  have k0 := hh.cell
  have hz0 := hh.lt
  have HH := Lib.hid hh
  have HR := Lib.hid h'
  have HWH := Lib.hid hwh
  obtain ⟨W, hWW⟩ : ∃ W, s.W = W := ⟨_, rfl⟩
  have HWW := Lib.hid hWW
  rw [hWW] at k0 hW HH
  have hmk := make_run W (by omega) W rfl w
  have b1 := b01 w (.cells (ints (zs W)) 3)
  have HT := Lib.hid (Blk.new w 3 (ints (zs W)))
  have HH1 := Lib.hid (HH.out.alloc (.cells (ints (zs W)) 3))
  have HB := Lib.hid b1
  obtain ⟨g, hg⟩ : ∃ g, w.heap.size = g := ⟨_, rfl⟩
  have HG := Lib.hid hg
  rw [hg] at hmk HT hz0
  obtain ⟨w1, hw1⟩ : ∃ w1, w.alloc (.cells (ints (zs W)) 3) = w1 := ⟨_, rfl⟩
  rw [hw1] at hmk HT HH1 HB
  have HK := Lib.hid (racc_any (w := w1) (br := br) (tg := g) hW)
  unfold P at HK
  clear h h' hh hy hwh hWW hg b1 hw1
  unfold P at k0 ⊢
  have k1 := HH1.out.cell
  unfold P at k1
  go_enter Tryd.func58, Tryd.ntmps58
  go_wp2_with (go_at_call 102; refine HK.out.mono ?_; rintro e w2 ⟨rb, tb, pb, qb, L, cn, ps, rfl, hm⟩; have HM := Lib.hid hm; have hz := (HH1.out.bel hm.rp.bl).lt; have k2 := ((HH1.out.bel hm.rp.bl).alloc (.cells #[.slice (some ⟨L, 0, none⟩) (3 + W) cn, .slice (some ⟨g, 0, none⟩) W W] 159)).cell; have f2 := ((HH1.out.bel hm.rp.bl).alloc (.cells #[.slice (some ⟨L, 0, none⟩) (3 + W) cn, .slice (some ⟨g, 0, none⟩) W W] 159)).frozen; clear hm)
  go_ret
  have e1 := HWW.out
  have e2 := HG.out
  have HM' := HM.out
  have HT' := HT.out
  subst e1
  obtain ⟨ra', r1, r2⟩ := (HR.out.below HB.out).rnew (B := g) (Nat.le_refl _) (by rw [← e2]; exact HR.out.head.lt) (by rw [← e2]; exact HWH.out) HT' HM'
  rw [World.setCell_alloc_past _ _ _ _ hz] at r1 r2
  have e3 : Gr F w.heap.size = Gr F g := by rw [e2]
  exact ⟨rfl, wa', ra', by rw [e3]; exact r1, (Only.of_below HB.out).trans_ r2⟩
end Go.Proofs.YthkpopphefolmaaDoor.F4
