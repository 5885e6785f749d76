/- The document's own Lanes, by value: Sweep: a contract. -/
import Derived.Test.YtfbbgoahipejlaaQL3
namespace Go.Proofs.Ytfbbgoahipejlaa.L10
open Go.RowKit Go.Proofs.Ytfbbgoahipejlaa.G Go.Sort
set_option maxRecDepth 100000
variable {w w' : World} {b L P : Nat} {r : Value} {d : List MV}
structure Swp (B : Nat) (w V : World) (x y : Value) (F G : List MV) : Prop where
  og : Own V B 58 5 x F.length (mvs F)
  os : Own V B 58 5 y G.length (mvs G)
  ne : ∀ q, x.ownBlock = some q → y.ownBlock ≠ some q
  bl : Below B w V
theorem Swp.swap {B : Nat} {V : World} {x y : Value} {F G : List MV} (h : Swp B w V x y F G) : Swp B w V y x G F := ⟨h.os, h.og, fun q hq h2 => h.ne q h2 hq, h.bl⟩
theorem Swp.below {B : Nat} {V V' : World} {x y : Value} {F G : List MV} (h : Swp B w V x y F G) (hb : Below V.heap.size V V') (hB : B ≤ V.heap.size) : Swp B w V' x y F G := ⟨h.og.below hb, h.os.below hb, h.ne, h.bl.trans (hb.mono hB)⟩
theorem Swp.add {B : Nat} {V V' : World} {x y x' : Value} {F G : List MV} (h : Swp B w V x y F G) {m : MV} (ho : Own V' B 58 5 x' (F.length + 1) (mvs F ++ m.cells)) (hb : Below B V V') (hg : V.grownBy V' x.ownBlock) (hob : x'.ownBlock = x.ownBlock ∨ x'.ownBlock = some V.heap.size) : Swp B w V' x' y (F ++ [m]) G := by
  refine ⟨by rw [List.length_append, mvs_snoc]; exact ho, h.os.grown hg fun q hq he => h.ne q he.symm hq, fun q hq => ?_, h.bl.trans hb⟩
  rcases hob with e | e
  · exact h.ne q (by rw [← e]; exact hq)
  · intro hs
    obtain ⟨_, cur, hc⟩ := h.os.block_lt hs
    have := hc.lt
    rw [e] at hq; injection hq with hq; omega
def RsPost (w : World) (L P : Int) (rest out : List MV) (e : Ending) (w' : World) : Prop := ∃ A c A' c', e = .returned (.tuple #[rLv L P (.slice A rest.length c), .slice A' out.length c']) ∧ Own w' w.heap.size 58 5 (.slice A rest.length c) rest.length (mvs rest) ∧ Own w' w.heap.size 58 5 (.slice A' out.length c') out.length (mvs out) ∧ Below w.heap.size w w'
set_option maxHeartbeats 4000000 in
theorem rsweep_any {A : Option Addr} {c : Nat} (L P : Int) (hr : Row w A (mvs d)) (hd : d.length ≤ 1000) (now : Int) : Calls Try.prog 37 #[.agg #[.int .i64 L, .int .i64 P, .slice A d.length c], .int .i64 now] w (RsPost w L P (d.filter fun m => !late now m.lt) (d.filter fun m => late now m.lt)) := by
  obtain ⟨i0, hi, hz0, hz1, hz2⟩ := info_parts infoM
  have HR := Lib.hid hr
  have b1 := ba1 (b01 w (.cells #[.int .i64 L, .int .i64 P, .slice A d.length c] 53)) (.cells #[.int .i64 0, .int .i64 0, .slice none 0 0] 53)
  have HN := Lib.hid ((Blk.new w 53 #[.int .i64 L, .int .i64 P, .slice A d.length c]).alloc (.cells #[.int .i64 0, .int .i64 0, .slice none 0 0] 53))
  have HN2 := Lib.hid (Blk.new (w.alloc (.cells #[.int .i64 L, .int .i64 P, .slice A d.length c] 53)) 53 #[.int .i64 0, .int .i64 0, .slice none 0 0])
  have HB0 := Lib.hid b1
  clear hr b1
  go_enter Try.func37, Try.ntmps37
  go_wp2_with fail
  obtain ⟨kx, hkx⟩ : ∃ kx, w.heap.size = kx := ⟨_, rfl⟩
  have hs1 : (w.alloc (.cells #[.int .i64 L, .int .i64 P, .slice A d.length c] 53)).heap.size = kx + 1 := by rw [World.size_alloc, hkx]
  rw [hs1] at HN2
  have HK := Lib.hid hkx
  rw [hkx] at HN ⊢
  clear hkx hs1
  generalize (w.alloc (.cells #[.int .i64 L, .int .i64 P, .slice A d.length c] 53)).alloc (.cells #[.int .i64 0, .int .i64 0, .slice none 0 0] 53) = w1 at *
  go_loopw [6, 7, 8] (fun rv ov i V => ∃ k : Nat, i = .int .i64 k ∧ k ≤ d.length ∧ Swp w1.heap.size w1 V rv ov ((d.take k).filter fun m => !late now m.lt) ((d.take k).filter fun m => late now m.lt)) (fun _ _ i _ => d.length - (intOf i).toNat)
  case atStart => exact ⟨0, rfl, Nat.zero_le _, Own.nil_ _ _ _ _, Own.nil_ _ _ _ _, fun q hq => by simp [Value.ownBlock] at hq, Below.refl _ _⟩
  case round =>
    obtain ⟨k, rfl, hk, hw⟩ := hrel
    obtain ⟨A1, c1, rfl, hx1⟩ := hw.og.row
    obtain ⟨A2, c2, rfl, hx2⟩ := hw.os.row
    clear hx1 hx2
    have HW := Lib.hid hw
    have k2 := (HN.out.bel hw.bl).cell 2
    simp only [List.getElem?_toArray, List.getElem?_cons_zero, List.getElem?_cons_succ] at k2
    by_cases hlt : k < d.length
    · have hl1 : (k : Int) < d.length := by omega
      obtain ⟨y, hy⟩ : ∃ y, d[k]? = some y := ⟨_, List.getElem?_eq_getElem hlt⟩
      obtain ⟨g, o, rfl, _, s0, s1, s2, s3, s4⟩ := row_msg (HR.out.below (bt HB0.out hw.bl)) hy
      have C := Lib.hid (rlate_any y now wr)
      unfold MV.val at C
      have hf1 : ((d.take k).filter fun m => !late now m.lt).length ≤ 1000 := Nat.le_trans (List.length_filter_le _ _) (by rw [List.length_take]; omega)
      have hf2 : ((d.take k).filter fun m => late now m.lt).length ≤ 1000 := Nat.le_trans (List.length_filter_le _ _) (by rw [List.length_take]; omega)
      obtain ⟨F, hF⟩ : ∃ F, (d.take k).filter (fun m => !late now m.lt) = F := ⟨_, rfl⟩
      obtain ⟨G, hG⟩ : ∃ G, (d.take k).filter (fun m => late now m.lt) = G := ⟨_, rfl⟩
      rw [hF, hG] at HW
      rw [hF] at hf1 ⊢
      rw [hG] at hf2 ⊢
      have hnx : (d.take (k + 1)).filter (fun m => !late now m.lt) = F ++ (if (!late now y.lt) = true then [y] else []) ∧ (d.take (k + 1)).filter (fun m => late now m.lt) = G ++ (if late now y.lt = true then [y] else []) := by
        rw [take_snoc hy, List.filter_append, List.filter_append, hF, hG, List.filter_cons, List.filter_cons]; exact ⟨rfl, rfl⟩
      have HF := Lib.hid hnx
      have HY := Lib.hid hy
      clear hw hy hF hG hnx
      cases hc : late now y.lt with
      | true =>
        rw [hc] at HF C
        simp only [Bool.not_true, Bool.false_eq_true, if_false, if_true, List.append_nil] at HF
        clear hc
        go_wp2_with fail
        refine C.out.mono ?_
        rintro e w5 ⟨rfl, hb5⟩
        have HB5 := Lib.hid (HW.out.bl.trans (hb5.mono HW.out.bl.size))
        have k2 := (HN.out.bel HB5.out).cell 2
        simp only [List.getElem?_toArray, List.getElem?_cons_zero, List.getElem?_cons_succ] at k2
        obtain ⟨g', o', e, _, s0, s1, s2, s3, s4⟩ := row_msg (HR.out.below (bt HB0.out HB5.out)) HY.out
        injection e with e
        injection e with e1 e2
        subst e1 e2
        have HW5 := Lib.hid ((HW.out.below hb5 HW.out.bl.size).below (b01 w5 (.cells #[.slice y.a y.ws.length y.c, .int .i64 y.ln, .int .i64 y.st, .int .i64 y.lt, .int .i64 y.sq] 58)) HB5.out.size)
        have HRo := Lib.hid (row_one w5 y)
        clear hb5 C
        have HSz : Hid (w1.heap.size ≤ (w5.alloc (.cells #[.slice y.a y.ws.length y.c, .int .i64 y.ln, .int .i64 y.st, .int .i64 y.lt, .int .i64 y.sq] 58)).heap.size) := HW5.out.bl.size
        go_wp2_with (at_builtin; go_must (refine wpList_app Try.underlying51 hi hz0 hz1 hz2 rfl (by decide) rfl (.tmp 25) (.tmp 31) rfl w1.heap.size (.slice A2 G.length c2) G.length (mvs G) rfl HW5.out.os (some ⟨w5.heap.size, 0, none⟩) 1 1 y.cells rfl HRo.out rfl (MV.one y) (by omega) (by decide) HSz.out ?_; intro v' w6 ho5 hb5 hg5 hob5; have H6 := Lib.hid ((HW5.out.swap.add ho5 hb5 hg5 hob5).swap); clear ho5 hb5 hg5 hob5))
        go_roundw
        case rel =>
          refine ⟨k + 1, by go_num, by omega, ?_⟩
          rw [HF.out.1, HF.out.2]
          exact H6.out
        case measure => simp [intOf] <;> omega
      | false =>
        rw [hc] at HF C
        simp only [Bool.not_false, Bool.false_eq_true, if_false, if_true, List.append_nil] at HF
        clear hc
        go_wp2_with fail
        refine C.out.mono ?_
        rintro e w5 ⟨rfl, hb5⟩
        have HB5 := Lib.hid (HW.out.bl.trans (hb5.mono HW.out.bl.size))
        have k2 := (HN.out.bel HB5.out).cell 2
        simp only [List.getElem?_toArray, List.getElem?_cons_zero, List.getElem?_cons_succ] at k2
        obtain ⟨g', o', e, _, s0, s1, s2, s3, s4⟩ := row_msg (HR.out.below (bt HB0.out HB5.out)) HY.out
        injection e with e
        injection e with e1 e2
        subst e1 e2
        have HW5 := Lib.hid ((HW.out.below hb5 HW.out.bl.size).below (b01 w5 (.cells #[.slice y.a y.ws.length y.c, .int .i64 y.ln, .int .i64 y.st, .int .i64 y.lt, .int .i64 y.sq] 58)) HB5.out.size)
        have HRo := Lib.hid (row_one w5 y)
        clear hb5 C
        have HSz : Hid (w1.heap.size ≤ (w5.alloc (.cells #[.slice y.a y.ws.length y.c, .int .i64 y.ln, .int .i64 y.st, .int .i64 y.lt, .int .i64 y.sq] 58)).heap.size) := HW5.out.bl.size
        go_wp2_with (at_builtin; go_must (refine wpList_app Try.underlying51 hi hz0 hz1 hz2 rfl (by decide) rfl (.tmp 33) (.tmp 39) rfl w1.heap.size (.slice A1 F.length c1) F.length (mvs F) rfl HW5.out.og (some ⟨w5.heap.size, 0, none⟩) 1 1 y.cells rfl HRo.out rfl (MV.one y) (by omega) (by decide) HSz.out ?_; intro v' w6 ho5 hb5 hg5 hob5; have H6 := Lib.hid (HW5.out.add ho5 hb5 hg5 hob5); clear ho5 hb5 hg5 hob5))
        go_roundw
        case rel =>
          refine ⟨k + 1, by go_num, by omega, ?_⟩
          rw [HF.out.1, HF.out.2]
          exact H6.out
        case measure => simp [intOf] <;> omega
    · obtain rfl : k = d.length := by omega
      have hkz : ¬ ((d.length : Nat) : Int) < d.length := by omega
      rw [List.take_length] at HW ⊢
      have HN3 := Lib.hid (HN.out.bel hw.bl)
      have HN4 := Lib.hid (HN2.out.bel hw.bl)
      obtain ⟨X, hX⟩ : ∃ X, d.filter (fun m => !late now m.lt) = X := ⟨_, rfl⟩
      obtain ⟨Y, hY⟩ : ∃ Y, d.filter (fun m => late now m.lt) = Y := ⟨_, rfl⟩
      rw [hX, hY] at HW ⊢
      have HXY := Lib.hid (And.intro hX hY)
      have k0 := HN3.out.cell 0
      have k1 := HN3.out.cell 1
      have j0 := HN4.out.cell 0
      have j1 := HN4.out.cell 1
      have j2 := HN4.out.cell 2
      simp only [List.getElem?_toArray, List.getElem?_cons_zero, List.getElem?_cons_succ] at k0 k1 j0 j1 j2
      have f2 := HN3.out.frozen 2
      have e0 := HN4.out.frozen 0
      have e1 := HN4.out.frozen 1
      have e2 := HN4.out.frozen 2
      clear hw hX hY
      go_wp2_with fail
      rw [HXY.out.1, HXY.out.2]
      have N1 := HN4.out.far (p := ⟨kx, 2, none⟩) (by show kx + 1 ≠ kx; omega) (.slice A1 X.length c1)
      have N2 := N1.set_ 0 (.int .i64 L)
      have N3 := N2.set_ 1 (.int .i64 P)
      have hk := HK.out
      refine bodyPost_ret (v := .tuple #[.agg #[.int .i64 L, .int .i64 P, .slice A1 X.length c1], .slice A2 Y.length c2]) (by simp [results, Try.results37, go_sem, *]) rfl ⟨A1, c1, A2, c2, rfl, ?_, ?_, ?_⟩
      · exact ((((HW.out.og.far HN3.out (by decide) 2 _).far N1 (by decide) 0 _).far N2 (by decide) 1 _).far N3 (by decide) 2 _).less HB0.out.size
      · exact ((((HW.out.os.far HN3.out (by decide) 2 _).far N1 (by decide) 0 _).far N2 (by decide) 1 _).far N3 (by decide) 2 _).less HB0.out.size
      · exact ((((bt HB0.out HW.out.bl).setCell (p := ⟨kx, 2, none⟩) (by show w.heap.size ≤ kx; omega) _).setCell (p := ⟨kx + 1, 0, none⟩) (by show w.heap.size ≤ kx + 1; omega) _).setCell (p := ⟨kx + 1, 1, none⟩) (by show w.heap.size ≤ kx + 1; omega) _).setCell (p := ⟨kx + 1, 2, none⟩) (by show w.heap.size ≤ kx + 1; omega) _
end Go.Proofs.Ytfbbgoahipejlaa.L10
