/- The document's own reader of several numbers (take): a contract against the same plain functions as the program's. -/
import Derived.Test.YtfbbgoahipejlabDoorBRef3
import Derived.Test.YtfbbgoahipejlabDoorPRA
import Derived.Deep.DeepMust
import Derived.Deep.DeepCutAuto
import Derived.RegionTactic
import Derived.Deep.RegionHeld3
namespace Go.Proofs.YtfbbgoahipejlabDoor.T
open Go.RowKit Go.Proofs.YtfbbgoahipejlabDoor.G Go.Proofs.YtfbbgoahipejlabDoor.C04
set_option maxRecDepth 100000
theorem ivs_snoc (l : List Int) (k : Int) : ivs (l ++ [k]) = ivs l ++ [.int .i64 k] := by simp only [ivs, List.map_append]; rfl
theorem ivs_one (l : List Int) : ∀ u ∈ ivs l, u.oneCell' = true := by
  intro u hu; obtain ⟨x, _, rfl⟩ := List.mem_map.1 hu; rfl
theorem blk_grown {w w' : World} {g : Nat} {ty : TypeId} {cs : Array Value} {row : Option Nat} (h : Blk w g ty cs) (hb : w.grownBy w' row) (hg : some g ≠ row) : Blk w' g ty cs := (hb.block g h.lt hg).trans h
theorem own_ne {w : World} {B m q g : Nat} {te ty : TypeId} {v : Value} {xs : List Value} {cs : Array Value} (h : Own w B te m v q xs) (hg : Blk w g ty cs) (hne : te ≠ ty) : some g ≠ v.ownBlock := fun e => by
  obtain ⟨_, cur, hc⟩ := Own.block_lt h e.symm
  exact Blk.ne_ hc hg hne rfl
theorem set2_blk {V : World} {g : Nat} {t : TypeId} {u1 u2 u3 v1 v2 : Value} (hb : Blk V g t #[u1, u2, u3]) : Blk ((V.setCell ⟨g, 0, none⟩ v1).setCell ⟨g, 1, none⟩ v2) g t #[v1, v2, u3] := (hb.set_ 0 v1).set_ 1 v2
theorem set2_new {V : World} {g : Nat} {t : TypeId} {u1 u2 v1 v2 : Value} (hb : Blk V g t #[u1, u2]) : Blk ((V.setCell ⟨g, 0, none⟩ v1).setCell ⟨g, 1, none⟩ v2) g t #[v1, v2] := (hb.set_ 0 v1).set_ 1 v2
theorem set3_blk {V : World} {g : Nat} {t : TypeId} {u1 u2 u3 v1 v2 v3 : Value} (hb : Blk V g t #[u1, u2, u3]) : Blk (((V.setCell ⟨g, 0, none⟩ v1).setCell ⟨g, 1, none⟩ v2).setCell ⟨g, 2, none⟩ v3) g t #[v1, v2, v3] := ((hb.set_ 0 v1).set_ 1 v2).set_ 2 v3
theorem set2_own {V : World} {B g m n : Nat} {t t' : TypeId} {v v1 v2 : Value} {xs : List Value} {cs : Array Value} (h : Own V B t m v n xs) (hb : Blk V g t' cs) (hne : t ≠ t') : Own ((V.setCell ⟨g, 0, none⟩ v1).setCell ⟨g, 1, none⟩ v2) B t m v n xs := (h.far hb hne 0 v1).far (hb.set_ 0 v1) hne 1 v2
theorem set3_own {V : World} {B g m n : Nat} {t t' : TypeId} {v v1 v2 v3 : Value} {xs : List Value} {cs : Array Value} (h : Own V B t m v n xs) (hb : Blk V g t' cs) (hne : t ≠ t') : Own (((V.setCell ⟨g, 0, none⟩ v1).setCell ⟨g, 1, none⟩ v2).setCell ⟨g, 2, none⟩ v3) B t m v n xs := (set2_own h hb hne).far ((hb.set_ 0 v1).set_ 1 v2) hne 2 v3
theorem info3 : (Tryd.prog.info? 3).map (fun i => (i.zero, i.size, i.bytes)) = some (some (.int .i64 0), 1, 8) := by kernel_rfl
def TakePost (w0 w : World) (l : List UInt8) (e : Int) (ws : List Int) (r : Ending) (w' : World) : Prop := ∃ A c v, r = .returned (.agg #[.slice A (rl ws l e).length c, .int .i64 (re ws l e), v]) ∧ W.Rd w0 A (rl ws l e) ∧ (rl ws l e).length ≤ c ∧ c ≤ 9223372036854775807 ∧ Own w' w.heap.size 3 1 v ws.length (ivs (rv ws l e)) ∧ Below w.heap.size w w'
def InvT (w0 w : World) (l : List UInt8) (e : Int) (ws : List Int) (i : Value) (V : World) : Prop := ∃ (j : Nat) (A : Option Addr) (c : Nat) (v y0 y1 y2 : Value), i = .int .i64 j ∧ j ≤ ws.length ∧ Blk V (w.heap.size + 1) 111 #[y0, y1, y2] ∧ Blk V w.heap.size 111 #[.slice A (rl (ws.take j) l e).length c, .int .i64 (re (ws.take j) l e), v] ∧ W.Rd w0 A (rl (ws.take j) l e) ∧ (rl (ws.take j) l e).length ≤ c ∧ c ≤ 9223372036854775807 ∧ Own V w.heap.size 3 1 v j (ivs (rv (ws.take j) l e)) ∧ Below w.heap.size w V
set_option maxHeartbeats 4000000 in
theorem rtake_any {w0 w : World} {A AW : Option Addr} {c cw : Nat} {l : List UInt8} {e : Int} {ws : List Int} (hb0 : Below w0.heap.size w0 w) (hr : W.Rd w0 A l) (hc : l.length ≤ c) (hc1 : c ≤ 9223372036854775807) (hw : Row w AW (ivs ws)) (hn : ws.length ≤ 20) :
    Calls Tryd.prog 65 #[.agg #[.slice A l.length c, .int .i64 e, .slice none 0 0], .slice AW ws.length cw] w (TakePost w0 w l e ws) := by
  obtain ⟨i0, hi, hz0, hz1, hz2⟩ := info_parts info3
  have HX := Lib.hid ((Blk.new w 111 #[.slice A l.length c, .int .i64 e, .slice none 0 0]).alloc (.cells #[.slice none 0 0, .int .i64 0, .slice none 0 0] 111))
  have HY := Lib.hid (Blk.new_at (w := w.alloc (.cells #[.slice A l.length c, .int .i64 e, .slice none 0 0] 111)) (n := w.heap.size + 1) (by simp) 111 #[.slice none 0 0, .int .i64 0, .slice none 0 0])
  have HW := Lib.hid (ba1 (b01 w (.cells #[.slice A l.length c, .int .i64 e, .slice none 0 0] 111)) (.cells #[.slice none 0 0, .int .i64 0, .slice none 0 0] 111))
  have HR := Lib.hid hr
  have HB0 := Lib.hid hb0
  have HRW := Lib.hid hw
  clear hr hw hb0
  go_enter Tryd.func65, Tryd.ntmps65
  go_wp2_with fail
  go_loopw [5] (fun i V => InvT w0 w l e ws i V) (fun i _ => ws.length - (intOf i).toNat)
  case atStart => exact ⟨0, A, c, _, _, _, _, rfl, by omega, HY.out, HX.out, HR.out, hc, hc1, Own.nil_ _ _ _ _, HW.out⟩
  case round =>
    obtain ⟨j, A1, c1, v, y0, y1, y2, rfl, hj, hy, hb, hrd, hc2, hcm2, ho, hB⟩ := hrel
    obtain ⟨Av, cv, rfl, _⟩ := Own.row ho
    obtain ⟨l1, hl1⟩ : ∃ x, rl (ws.take j) l e = x := ⟨_, rfl⟩
    obtain ⟨e1, he1⟩ : ∃ x, re (ws.take j) l e = x := ⟨_, rfl⟩
    obtain ⟨xs, hxs⟩ : ∃ x, rv (ws.take j) l e = x := ⟨_, rfl⟩
    rw [hl1, he1] at hb
    rw [hl1] at hrd hc2
    rw [hxs] at ho
    have HQ := Lib.hid (And.intro hl1 (And.intro he1 hxs))
    have HO := Lib.hid ho
    have HB := Lib.hid hB
    have HRd := Lib.hid hrd
    have HC := Lib.hid (And.intro hc2 hcm2)
    clear hl1 he1 hxs ho hB hrd HX HY HW hc2 hcm2 hc hc1 HR
    have k0 := hb.cell
    have f0 := hb.frozen
    have z0 := hb.lt
    have HBx := Lib.hid hb
    have HBy := Lib.hid hy
    clear hb hy
    by_cases hlt : j < ws.length
    · obtain ⟨x, hx⟩ : ∃ x, ws[j]? = some x := ⟨_, List.getElem?_eq_getElem hlt⟩
      obtain ⟨bb, o, rfl, hbb, q⟩ := row_int (HRW.out.below HB.out) hx
      have f1 : (j : Int) < ws.length := by omega
      have HBL : Hid (∀ V, Below wr.heap.size wr V → Below wr.heap.size wr V ∧ V.cell? ⟨bb, o + j, none⟩ = some (.int .i64 x) ∧ ∀ i, V.cell? ⟨w.heap.size, i, none⟩ = (#[.slice A1 l1.length c1, .int .i64 e1, .slice Av j cv] : Array Value)[i]?) := fun V hV =>
        ⟨hV, (hV.cell (p := ⟨bb, o + j, none⟩) hbb).trans q, (HBx.out.bel hV).cell⟩
      have S0 : Below wr.heap.size wr wr.drew := (Below.refl _ _).drew
      clear k0 f0
      go_upto_region 4 with fail
      have HGv : Hid (∀ V, Below wr.heap.size wr V → Calls Tryd.prog 110 #[.agg #[.slice A1 l1.length c1, .int .i64 e1], .int .i64 x] V (W.RNextPost w0 V (W.nxL l1 e1 x) (W.nxE l1 e1 x) (W.nxV l1 e1 x))) := fun V hV => W.rnext_any (w0 := w0) HRd.out (HRd.out.below (bt HB0.out (bt HB.out hV))) HC.out.1 HC.out.2 x
      have het : ws.take (j + 1) = ws.take j ++ [x] := by rw [List.take_add_one, hx]; rfl
      have HE : Hid (rl (ws.take (j + 1)) l e = W.nxL l1 e1 x ∧ re (ws.take (j + 1)) l e = W.nxE l1 e1 x ∧ rv (ws.take (j + 1)) l e = xs ++ [W.nxV l1 e1 x]) := by
        show _ ∧ _ ∧ _
        rw [het, rl_snoc, re_snoc, rv_snoc, HQ.out.1, HQ.out.2.1, HQ.out.2.2]; exact ⟨rfl, rfl, rfl⟩
      generalize W.nxL l1 e1 x = l2 at *
      generalize W.nxE l1 e1 x = e2 at *
      generalize W.nxV l1 e1 x = y at *
      have S1 : Below wr.heap.size wr (wr.alloc (.cells #[.slice none 0 0, .int .i64 0] 109)).drew := (b01 wr _).drew
      have HN8 : Hid (Blk (wr.alloc (.cells #[.slice none 0 0, .int .i64 0] 109)).drew wr.heap.size 109 #[.slice none 0 0, .int .i64 0]) := Blk.new wr _ _
      have HST : Hid (∀ V a b', Below wr.heap.size wr V → Below wr.heap.size wr ((V.setCell ⟨wr.heap.size, 0, none⟩ a).setCell ⟨wr.heap.size, 1, none⟩ b')) := fun V a b' hV => (hV.setCell (Nat.le_refl _) _).setCell (Nat.le_refl _) _
      clear hx het
      go_region_held3 (fun V => Below wr.heap.size wr V ∧ V.cell? ⟨bb, o + j, none⟩ = some (.int .i64 x) ∧ ∀ i, V.cell? ⟨w.heap.size, i, none⟩ = (#[.slice A1 l1.length c1, .int .i64 e1, .slice Av j cv] : Array Value)[i]?) (first | (with_reducible exact HBL.out _ S0) | (with_reducible exact HBL.out _ (ba1 S0 _)) | (with_reducible exact HBL.out _ S1) | (with_reducible exact HBL.out _ (HST.out _ _ _ S0)) | fail)
        (first
          | (go_at_call 110; (with_reducible refine (HGv.out _ S0).mono ?_); rintro r w10 ⟨A2, c2, rfl, hr2, hc2, hm2, hb10⟩; have S0 := bt S0 hb10; have HP := Lib.hid (And.intro hr2 (And.intro hc2 hm2)))
          | (go_at_call 110; (with_reducible refine (HGv.out _ S1).mono ?_); rintro r w10 ⟨A2, c2, rfl, hr2, hc2, hm2, hb10⟩; have S0 := bt S1 hb10; have HP := Lib.hid (And.intro hr2 (And.intro hc2 hm2)); have HN9 := Lib.hid (HN8.out.bel hb10); have k9 := HN9.out.cell; have j9 := HN9.out.frozen)
          | fail)
      · have HX9 := Lib.hid (HBx.out.bel (ba1 S0 (.cells #[.slice A2 l2.length c2, .int .i64 e2] 109)))
        have HY9 := Lib.hid (HBy.out.bel (ba1 S0 (.cells #[.slice A2 l2.length c2, .int .i64 e2] 109)))
        have HO9 := Lib.hid (HO.out.below (ba1 S0 (.cells #[.slice A2 l2.length c2, .int .i64 e2] 109)))
        have HW9 := Lib.hid (bt HB.out (ba1 S0 (.cells #[.slice A2 l2.length c2, .int .i64 e2] 109)))
        have HB9 := Lib.hid (Blk.new w10 109 #[.slice A2 l2.length c2, .int .i64 e2])
        clear HBx HBy HO HB
        clear S0 S1 HBL HGv HN8 HST hr2 q
        generalize w10.heap.size = g8 at *
        generalize w10.alloc (.cells #[.slice A2 l2.length c2, .int .i64 e2] 109) = V9 at *
        have kx := HB9.out.cell
        have kb := HX9.out.cell
        have fb := HX9.out.frozen
        have zb := HX9.out.lt
        go_upto_region 6 with fail
        have HX10 := Lib.hid (set2_blk (v1 := .slice A2 l2.length c2) (v2 := .int .i64 e2) HX9.out)
        have HY10 := Lib.hid ((HY9.out.far (p := ⟨w.heap.size, 0, none⟩) (by show w.heap.size + 1 ≠ w.heap.size; omega) (.slice A2 l2.length c2)).far (p := ⟨w.heap.size, 1, none⟩) (by show w.heap.size + 1 ≠ w.heap.size; omega) (.int .i64 e2))
        have HO10 := Lib.hid (set2_own (v1 := .slice A2 l2.length c2) (v2 := .int .i64 e2) HO9.out HX9.out (by decide))
        have HW10 := Lib.hid ((HW9.out.setCell (p := ⟨w.heap.size, 0, none⟩) (Nat.le_refl _) (.slice A2 l2.length c2)).setCell (p := ⟨w.heap.size, 1, none⟩) (Nat.le_refl _) (.int .i64 e2))
        clear HX9 HY9 HO9 HW9 HB9 kx kb fb zb
        generalize (V9.setCell ⟨w.heap.size, 0, none⟩ (.slice A2 l2.length c2)).setCell ⟨w.heap.size, 1, none⟩ (.int .i64 e2) = V10 at *
        have kb := HX10.out.cell
        have N1 := b01 V10 (.cells #[.int .i64 y] 3)
        have HO11 := Lib.hid (Own.below HO10.out N1)
        have HX11 := Lib.hid (HX10.out.bel N1)
        have HY11 := Lib.hid (HY10.out.bel N1)
        have HW11 := Lib.hid (bt HW10.out N1)
        have hs3 : w.heap.size ≤ (V10.alloc (.cells #[.int .i64 y] 3)).heap.size := HW11.out.size
        have HRow : Hid (Row (V10.alloc (.cells #[.int .i64 y] 3)) (some ⟨V10.heap.size, 0, none⟩) [.int .i64 y]) := Row.of_blk (Blk.new V10 3 _) fun j u hj => by simpa using hj
        clear N1 HO10 HX10 HY10 HW10
        go_wp2_with (at_builtin; go_must (refine wpList_app Tryd.underlying28 hi hz0 hz1 hz2 rfl (by omega) rfl (.tmp 27) (.tmp 29) rfl w.heap.size (.slice Av j cv) j (ivs xs) rfl HO11.out (some ⟨V10.heap.size, 0, none⟩) 1 1 _ rfl HRow.out rfl (ivs_one [y]) (by omega) (by omega) hs3 ?_); intro v' w5 ho5 hb5 hg5 hob5; clear hob5; obtain ⟨Av5, cv5, rfl, hrw5⟩ := Own.row ho5; clear hrw5; have HX5 := Lib.hid (blk_grown HX11.out hg5 (own_ne HO11.out HX11.out (by decide))); have HY5 := Lib.hid (blk_grown HY11.out hg5 (own_ne HO11.out HY11.out (by decide))); have f5 := HX5.out.frozen; have k5 := HX5.out.cell; have z5 := HX5.out.lt)
        go_roundw
        case rel =>
          refine ⟨j + 1, A2, c2, .slice Av5 (j + 1) cv5, y0, y1, y2, by go_num, by omega, HY5.out.far (p := ⟨w.heap.size, 2, none⟩) (by show w.heap.size + 1 ≠ w.heap.size; omega) _, ?_, by rw [HE.out.1]; exact HP.out.1, by rw [HE.out.1]; exact HP.out.2.1, HP.out.2.2, ?_, (HW11.out.trans hb5).setCell (p := ⟨w.heap.size, 2, none⟩) (Nat.le_refl _) _⟩
          · rw [HE.out.1, HE.out.2.1]; simpa using HX5.out.set_ 2 (.slice Av5 (j + 1) cv5)
          · rw [HE.out.2.2, ivs_snoc]; exact Own.far ho5 HX5.out (by decide) 2 (.slice Av5 (j + 1) cv5)
        case measure => simp [intOf]; omega
      · have HX9 := Lib.hid (HBx.out.bel (HST.out w10 (.slice A2 l2.length c2) (.int .i64 e2) S0))
        have HY9 := Lib.hid (HBy.out.bel (HST.out w10 (.slice A2 l2.length c2) (.int .i64 e2) S0))
        have HO9 := Lib.hid (HO.out.below (HST.out w10 (.slice A2 l2.length c2) (.int .i64 e2) S0))
        have HW9 := Lib.hid (bt HB.out (HST.out w10 (.slice A2 l2.length c2) (.int .i64 e2) S0))
        have HB9 := Lib.hid (set2_new (v1 := .slice A2 l2.length c2) (v2 := .int .i64 e2) HN9.out)
        clear HBx HBy HO HB HN9 k9 j9
        clear S0 S1 HBL HGv HN8 HST hr2 q
        generalize (w10.setCell ⟨wr.heap.size, 0, none⟩ (.slice A2 l2.length c2)).setCell ⟨wr.heap.size, 1, none⟩ (.int .i64 e2) = V9 at *
        have kx := HB9.out.cell
        have kb := HX9.out.cell
        have fb := HX9.out.frozen
        have zb := HX9.out.lt
        go_upto_region 6 with fail
        have HX10 := Lib.hid (set2_blk (v1 := .slice A2 l2.length c2) (v2 := .int .i64 e2) HX9.out)
        have HY10 := Lib.hid ((HY9.out.far (p := ⟨w.heap.size, 0, none⟩) (by show w.heap.size + 1 ≠ w.heap.size; omega) (.slice A2 l2.length c2)).far (p := ⟨w.heap.size, 1, none⟩) (by show w.heap.size + 1 ≠ w.heap.size; omega) (.int .i64 e2))
        have HO10 := Lib.hid (set2_own (v1 := .slice A2 l2.length c2) (v2 := .int .i64 e2) HO9.out HX9.out (by decide))
        have HW10 := Lib.hid ((HW9.out.setCell (p := ⟨w.heap.size, 0, none⟩) (Nat.le_refl _) (.slice A2 l2.length c2)).setCell (p := ⟨w.heap.size, 1, none⟩) (Nat.le_refl _) (.int .i64 e2))
        clear HX9 HY9 HO9 HW9 HB9 kx kb fb zb
        generalize (V9.setCell ⟨w.heap.size, 0, none⟩ (.slice A2 l2.length c2)).setCell ⟨w.heap.size, 1, none⟩ (.int .i64 e2) = V10 at *
        have kb := HX10.out.cell
        have N1 := b01 V10 (.cells #[.int .i64 y] 3)
        have HO11 := Lib.hid (Own.below HO10.out N1)
        have HX11 := Lib.hid (HX10.out.bel N1)
        have HY11 := Lib.hid (HY10.out.bel N1)
        have HW11 := Lib.hid (bt HW10.out N1)
        have hs3 : w.heap.size ≤ (V10.alloc (.cells #[.int .i64 y] 3)).heap.size := HW11.out.size
        have HRow : Hid (Row (V10.alloc (.cells #[.int .i64 y] 3)) (some ⟨V10.heap.size, 0, none⟩) [.int .i64 y]) := Row.of_blk (Blk.new V10 3 _) fun j u hj => by simpa using hj
        clear N1 HO10 HX10 HY10 HW10
        go_wp2_with (at_builtin; go_must (refine wpList_app Tryd.underlying28 hi hz0 hz1 hz2 rfl (by omega) rfl (.tmp 27) (.tmp 29) rfl w.heap.size (.slice Av j cv) j (ivs xs) rfl HO11.out (some ⟨V10.heap.size, 0, none⟩) 1 1 _ rfl HRow.out rfl (ivs_one [y]) (by omega) (by omega) hs3 ?_); intro v' w5 ho5 hb5 hg5 hob5; clear hob5; obtain ⟨Av5, cv5, rfl, hrw5⟩ := Own.row ho5; clear hrw5; have HX5 := Lib.hid (blk_grown HX11.out hg5 (own_ne HO11.out HX11.out (by decide))); have HY5 := Lib.hid (blk_grown HY11.out hg5 (own_ne HO11.out HY11.out (by decide))); have f5 := HX5.out.frozen; have k5 := HX5.out.cell; have z5 := HX5.out.lt)
        go_roundw
        case rel =>
          refine ⟨j + 1, A2, c2, .slice Av5 (j + 1) cv5, y0, y1, y2, by go_num, by omega, HY5.out.far (p := ⟨w.heap.size, 2, none⟩) (by show w.heap.size + 1 ≠ w.heap.size; omega) _, ?_, by rw [HE.out.1]; exact HP.out.1, by rw [HE.out.1]; exact HP.out.2.1, HP.out.2.2, ?_, (HW11.out.trans hb5).setCell (p := ⟨w.heap.size, 2, none⟩) (Nat.le_refl _) _⟩
          · rw [HE.out.1, HE.out.2.1]; simpa using HX5.out.set_ 2 (.slice Av5 (j + 1) cv5)
          · rw [HE.out.2.2, ivs_snoc]; exact Own.far ho5 HX5.out (by decide) 2 (.slice Av5 (j + 1) cv5)
        case measure => simp [intOf]; omega
    · obtain rfl : j = ws.length := by omega
      rw [List.take_length] at HQ
      have k1 := HBy.out.cell
      have f1 := HBy.out.frozen
      have z1 := HBy.out.lt
      have kb := HBx.out.cell
      have ke := (set3_blk (v1 := .slice A1 l1.length c1) (v2 := .int .i64 e1) (v3 := .slice Av ws.length cv) HBy.out).cell
      have HO2 := Lib.hid (set3_own (v1 := .slice A1 l1.length c1) (v2 := .int .i64 e1) (v3 := .slice Av ws.length cv) HO.out HBy.out (by decide))
      have HE2 : Hid (Below w.heap.size w (((wr.setCell ⟨w.heap.size + 1, 0, none⟩ (.slice A1 l1.length c1)).setCell ⟨w.heap.size + 1, 1, none⟩ (.int .i64 e1)).setCell ⟨w.heap.size + 1, 2, none⟩ (.slice Av ws.length cv))) :=
        ((HB.out.setCell (by show w.heap.size ≤ w.heap.size + 1; omega) _).setCell (by show w.heap.size ≤ w.heap.size + 1; omega) _).setCell (by show w.heap.size ≤ w.heap.size + 1; omega) _
      go_wp2_with fail
      refine bodyPost_ret (v := .agg #[.slice A1 l1.length c1, .int .i64 e1, .slice Av ws.length cv]) (by simp [results, Tryd.results65, go_sem, ke]) rfl ⟨A1, c1, .slice Av ws.length cv, by rw [HQ.out.1, HQ.out.2.1], ?_, by rw [HQ.out.1]; exact HC.out.1, HC.out.2, ?_, HE2.out⟩
      · rw [HQ.out.1]; exact HRd.out
      · rw [HQ.out.2.2]; exact HO2.out
end Go.Proofs.YtfbbgoahipejlabDoor.T
