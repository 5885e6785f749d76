/- A register of three slots: Write, Read. -/
import Derived.Test.YtppmfmgmlicefabDoorVCalls
namespace Go.Proofs.YtppmfmgmlicefabDoor.T3
open Go.RowKit Go.Proofs.YtppmfmgmlicefabDoor.G Go.Proofs.YtppmfmgmlicefabDoor.Cell
attribute [local go_sem ↓] Go.wp_at_zero Go.wp_at_succ
set_option maxRecDepth 100000
variable {w w' : World} {br bm gm : Nat} {wa : WA} {ra : RA} {s : St} {c : Int} {F : Nat → Prop} {x : Wr} {y : Rr}

theorem Lw.bel {g W : Nat} {l : List Int} (h : Lw w g W l) (hb : Below w.heap.size w w') : Lw w' g W l := by
  obtain ⟨cs, h1, h2⟩ := h
  exact ⟨cs, h1.bel hb, h2⟩
theorem Lw.set_ {g W : Nat} {l : List Int} (h : Lw w g W l) {b : Nat} (hn : g ≠ b) (i : Nat) (u : Value) : Lw (w.setCell ⟨b, i, none⟩ u) g W l := by
  obtain ⟨cs, h1, h2⟩ := h
  exact ⟨cs, h1.far (p := ⟨b, i, none⟩) hn u, h2⟩
/-- A new write's blocks. -/
theorem Reg.wnew {w1 : World} {l : List Int} {g cap : Nat} (h : Reg w br bm gm wa ra s c F) (hb : Below w.heap.size w w1) (hL : Lw w1 g s.W l) (hg : w.heap.size ≤ g) (hcap : s.W ≤ cap) (hcap2 : cap ≤ 9223372036854775807) :
    Reg ((w1.alloc (.cells #[.int .i64 0, .slice (some ⟨g, 0, none⟩) s.W cap] 114)).setCell ⟨br, 4, none⟩ (.pointer (some ⟨w1.heap.size, 0, none⟩))) br bm gm ⟨w1.heap.size, g, cap⟩ ra { s with wr := some ⟨0, l⟩ } c (Gr F w.heap.size) ∧
      Only F w ((w1.alloc (.cells #[.int .i64 0, .slice (some ⟨g, 0, none⟩) s.W cap] 114)).setCell ⟨br, 4, none⟩ (.pointer (some ⟨w1.heap.size, 0, none⟩))) := by
  have hrun := Blk.new w1 114 #[.int .i64 0, .slice (some ⟨g, 0, none⟩) s.W cap]
  obtain ⟨Z, hZ⟩ : ∃ Z, (.cells #[.int .i64 0, .slice (some ⟨g, 0, none⟩) s.W cap] 114 : Obj) = Z := ⟨_, rfl⟩
  rw [hZ] at hrun ⊢
  have hbZ : Below w.heap.size w (w1.alloc Z) := ba1 hb Z
  have h2 := h.below hbZ
  obtain ⟨n1, n2, n3⟩ := h2.offm
  have hsz := hb.size
  have l1 := h.head.lt
  have l2 := h.mem.words.lt
  have hne : g ≠ br := by omega
  have hO : Only (fun b => b = br) (w1.alloc Z) ((w1.alloc Z).setCell ⟨br, 4, none⟩ (.pointer (some ⟨w1.heap.size, 0, none⟩))) := Only.set_ (F := fun b => b = br) (Only.refl _ _) rfl 4 _
  refine ⟨⟨h2.hd_.set_ 4 _, ⟨h2.mem.head.far (p := ⟨br, 4, none⟩) (Ne.symm n1) _, h2.mem.words.far (p := ⟨br, 4, none⟩) (Ne.symm n2) _⟩, ⟨.inl h.own.1, .inl h.own.2.1, .inl h.own.2.2⟩, fun z e => ?_, fun _ => ⟨.inr hsz, .inr hg, by show g ≠ gm; omega, hcap, hcap2⟩, fun z e => ?_, fun e => ?_, fun _ e => ?_⟩, (Only.of_below hbZ).set_ h.own.1 4 _⟩
  · obtain rfl := Option.some.inj e
    exact ⟨hrun.far (p := ⟨br, 4, none⟩) (by show w1.heap.size ≠ br; omega) _, (hL.bel (b01 _ _)).set_ hne 4 _⟩
  · exact (h2.rd z e).only hO (h2.offr e).1 (h2.offr e).2.2.2.1
  · exact ⟨.inl (h.ro e).u, .inl (h.ro e).t, (h.ro e).tg⟩
  · obtain ⟨z, hz⟩ := Option.ne_none_iff_exists'.1 e
    have r1 := (h.rd z hz).run.lt
    have r2 := (h.rd z hz).t.lt
    exact ⟨by show w1.heap.size ≠ ra.u; omega, by show g ≠ ra.t; omega⟩
/-- A new read's blocks. -/
theorem Reg.rnew {w1 : World} {l : List Int} {g : Nat} (h : Reg w br bm gm wa ra s c F) (hb : Below w.heap.size w w1) (hL : Blk w1 g 3 (ints l)) (hg : w.heap.size ≤ g) :
    Reg ((w1.alloc (.cells #[.int .i64 (-2), .slice (some ⟨g, 0, none⟩) s.W s.W] 114)).setCell ⟨br, 5, none⟩ (.pointer (some ⟨w1.heap.size, 0, none⟩))) br bm gm wa ⟨w1.heap.size, g⟩ { s with rd := some ⟨0, l⟩ } c (Gr F w.heap.size) ∧
      Only F w ((w1.alloc (.cells #[.int .i64 (-2), .slice (some ⟨g, 0, none⟩) s.W s.W] 114)).setCell ⟨br, 5, none⟩ (.pointer (some ⟨w1.heap.size, 0, none⟩))) := by
  have hrun := Blk.new w1 114 #[.int .i64 (-2), .slice (some ⟨g, 0, none⟩) s.W s.W]
  obtain ⟨Z, hZ⟩ : ∃ Z, (.cells #[.int .i64 (-2), .slice (some ⟨g, 0, none⟩) s.W s.W] 114 : Obj) = Z := ⟨_, rfl⟩
  rw [hZ] at hrun ⊢
  have hbZ : Below w.heap.size w (w1.alloc Z) := ba1 hb Z
  have h2 := h.below hbZ
  obtain ⟨n1, n2, n3⟩ := h2.offm
  have hsz := hb.size
  have l1 := h.head.lt
  have l2 := h.mem.words.lt
  have hne : g ≠ br := by omega
  have hO : Only (fun b => b = br) (w1.alloc Z) ((w1.alloc Z).setCell ⟨br, 5, none⟩ (.pointer (some ⟨w1.heap.size, 0, none⟩))) := Only.set_ (F := fun b => b = br) (Only.refl _ _) rfl 5 _
  refine ⟨⟨h2.hd_.set_ 5 _, ⟨h2.mem.head.far (p := ⟨br, 5, none⟩) (Ne.symm n1) _, h2.mem.words.far (p := ⟨br, 5, none⟩) (Ne.symm n2) _⟩, ⟨.inl h.own.1, .inl h.own.2.1, .inl h.own.2.2⟩, fun z e => ?_, fun e => ?_, fun z e => ?_, fun _ => ⟨.inr hsz, .inr hg, by show g ≠ gm; omega⟩, fun e _ => ?_⟩, (Only.of_below hbZ).set_ h.own.1 5 _⟩
  · exact (h2.wr z e).only hO (h2.offw e).1 (h2.offw e).2.2.2.1
  · exact ⟨.inl (h.wo e).u, .inl (h.wo e).L, (h.wo e).Lg, (h.wo e).cap, (h.wo e).cap2⟩
  · obtain rfl := Option.some.inj e
    exact ⟨hrun.far (p := ⟨br, 5, none⟩) (by show w1.heap.size ≠ br; omega) _, (hL.bel (b01 _ _)).far (p := ⟨br, 5, none⟩) hne _⟩
  · obtain ⟨z, hz⟩ := Option.ne_none_iff_exists'.1 e
    have r1 := (h.wr z hz).run.lt
    have r2 := (h.wr z hz).list.lt
    exact ⟨by show wa.u ≠ w1.heap.size; omega, by show wa.L ≠ g; omega⟩
/-! ### Write -/
theorem write_len {A : Option Addr} {cp n : Nat} (h : Reg w br bm gm wa ra s c F) (hn : n ≠ s.W) :
    Calls Tryd.prog 33 #[P br, .slice A n cp] w fun e w' => e = .returned (.int .i64 3) ∧ w = w' := by
  have k0 := h.hd_.cell
  have t0 : ((n : Int) != (s.W : Int)) = true := by rw [bne_iff_ne]; omega
  clear h hn
  unfold P at k0 ⊢
  go_enter Tryd.func33, Tryd.ntmps33
  go_wp2
  go_ret
  exact ⟨rfl, rfl⟩
theorem write_bad {A : Option Addr} {cp : Nat} {l : List Int} (h : Reg w br bm gm wa ra s c F) (hr : Row w A (iv' l)) (hl : l.length = s.W) (hW : s.W ≤ 6) (hok : allOk l = false) :
    Calls Tryd.prog 33 #[P br, .slice A l.length cp] w fun e w' => e = .returned (.int .i64 3) ∧ w = w' := by
  have k0 := h.hd_.cell
  have HA := Lib.hid (has_any (cp := cp) hr (by omega))
  rw [← hl] at k0
  rw [hok] at HA
  clear h hr hl hok
  unfold P at k0 ⊢
  go_enter Tryd.func33, Tryd.ntmps33
  go_wp2_with (go_at_call 76; refine HA.out.mono ?_; rintro e w1 ⟨rfl, rfl⟩)
  go_ret
  exact ⟨rfl, rfl⟩
theorem write_busy {A : Option Addr} {cp : Nat} {l : List Int} (h : Reg w br bm gm wa ra s c F) (hr : Row w A (iv' l)) (hl : l.length = s.W) (hW : s.W ≤ 6) (hok : allOk l = true) (hx : s.wr = some x) :
    Calls Tryd.prog 33 #[P br, .slice A l.length cp] w fun e w' => e = .returned (.int .i64 1) ∧ w = w' := by
  have hh := h.hd_
  rw [← hl, wpt_some hx] at hh
  have k0 := hh.cell
  have HA := Lib.hid (has_any (cp := cp) hr (by omega))
  rw [hok] at HA
  clear h hr hl hok hh hx
  unfold P at k0 ⊢
  go_enter Tryd.func33, Tryd.ntmps33
  go_wp2_with (go_at_call 76; refine HA.out.mono ?_; rintro e w1 ⟨rfl, rfl⟩)
  go_ret
  exact ⟨rfl, rfl⟩
def WPost (br bm gm : Nat) (s : St) (c : Int) (F : Nat → Prop) (w : World) (e : Ending) (w' : World) : Prop := e = .returned (.int .i64 0) ∧ ∃ wa ra, Reg w' br bm gm wa ra s c (Gr F w.heap.size) ∧ Only F w w'
theorem write_ok_ {A : Option Addr} {cp : Nat} {l : List Int} (h : Reg w br bm gm wa ra s c F) (hr : Row w A (iv' l)) (hl : l.length = s.W) (hW1 : 1 ≤ s.W) (hW : s.W ≤ 6) (hok : allOk l = true) (hx : s.wr = none) :
    Calls Tryd.prog 33 #[P br, .slice A l.length cp] w (WPost br bm gm { s with wr := some ⟨0, l⟩ } c F w) := by
  have hh := h.hd_
  rw [← hl, wpt_none hx] at hh
  have k0 := hh.cell
  have HH := Lib.hid hh
  have HA := Lib.hid (has_any (cp := cp) hr (by omega))
  rw [hok] at HA
  have HC := Lib.hid (clone2_any (cp := cp) hr (by omega) (by omega))
  have HR := Lib.hid h
  have HL := Lib.hid hl
  clear h hr hl hok hh hx
  unfold P at k0 ⊢
  go_enter Tryd.func33, Tryd.ntmps33
  go_wp2_with (first | (go_at_call 76; refine HA.out.mono ?_; rintro e w1 ⟨rfl, rfl⟩) | (go_at_call 78; refine HC.out.mono ?_; rintro e w1 ⟨g, cap, rfl, hL, hg, hc1, hc2, hb⟩; have HB := Lib.hid hb; have HLw := Lib.hid (And.intro hL (And.intro hg (And.intro hc1 hc2))); have hz := (HH.out.bel hb).lt; have k2 := ((HH.out.bel hb).alloc (.cells #[.int .i64 0, .slice (some ⟨g, 0, none⟩) l.length cap] 114)).cell; have f2 := ((HH.out.bel hb).alloc (.cells #[.int .i64 0, .slice (some ⟨g, 0, none⟩) l.length cap] 114)).frozen; unfold P at k2; clear hL hg hb))
  go_ret
  obtain ⟨q1, q2, q3, q4⟩ := HLw.out
  have hl := HL.out
  rw [hl] at q1 q3
  obtain ⟨r1, r2⟩ := HR.out.wnew HB.out q1 q2 q3 q4
  rw [World.setCell_alloc_past _ _ _ _ hz] at r1 r2
  rw [hl]
  exact ⟨rfl, _, _, r1, r2⟩
/-! ### Read -/
theorem read_busy (h : Reg w br bm gm wa ra s c F) (hy : s.rd = some y) : Calls Tryd.prog 35 #[P br] w fun e w' => e = .returned (.int .i64 1) ∧ w = w' := by
  have hh := h.hd_
  rw [rpt_some hy] at hh
  have k0 := hh.cell
  clear h hh hy
  unfold P at k0 ⊢
  go_enter Tryd.func35, Tryd.ntmps35
  go_wp2
  go_ret
  exact ⟨rfl, rfl⟩
theorem read_ok_ (h : Reg w br bm gm wa ra s c F) (hW : s.W ≤ 6) (hy : s.rd = none) : Calls Tryd.prog 35 #[P br] w (WPost br bm gm { s with rd := some ⟨0, List.replicate s.W 0⟩ } c F w) := by
  have hh := h.hd_
  rw [rpt_none hy] at hh
  have k0 := hh.cell
  have hz0 := hh.lt
  have f0 := hh.frozen
  have HR := Lib.hid h
  obtain ⟨W, hWW⟩ : ∃ W, s.W = W := ⟨_, rfl⟩
  have HWW := Lib.hid hWW
  rw [hWW] at k0 hW hh
  have hmk := make_run W (by omega) W rfl w
  have k1 := (hh.alloc (.cells (ints (zs W)) 3)).cell
  have k2 := ((hh.alloc (.cells (ints (zs W)) 3)).alloc (.cells #[.int .i64 (-2), .slice (some ⟨w.heap.size, 0, none⟩) W W] 114)).cell
  have f1 := (hh.alloc (.cells (ints (zs W)) 3)).frozen
  have f2 := ((hh.alloc (.cells (ints (zs W)) 3)).alloc (.cells #[.int .i64 (-2), .slice (some ⟨w.heap.size, 0, none⟩) W W] 114)).frozen
  clear h hh hy hWW
  unfold P at k0 k1 k2 ⊢
  go_enter Tryd.func35, Tryd.ntmps35
  go_wp2_with fail
  go_ret
  have e1 := HWW.out
  subst e1
  obtain ⟨r1, r2⟩ := HR.out.rnew (l := zs s.W) (b01 w (.cells (ints (zs s.W)) 3)) (Blk.new w 3 (ints (zs s.W))) (Nat.le_refl _)
  rw [World.setCell_alloc_past _ _ _ _ (by simp; omega), World.setCell_alloc_past _ _ _ _ (by omega)] at r1 r2
  have e2 : (w.alloc (.cells (ints (zs s.W)) 3)).heap.size = w.heap.size + 1 := World.size_alloc _ _
  rw [e2] at r1 r2
  exact ⟨rfl, _, _, r1, r2⟩
end Go.Proofs.YtppmfmgmlicefabDoor.T3
