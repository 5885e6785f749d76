/- The document's own pool: Let: a contract. -/
import Derived.Test.YtppmfmgmlicefaaPR9f
namespace Go.Proofs.Ytppmfmgmlicefaa.P9
open Go.RowKit Go.Proofs.Ytppmfmgmlicefaa.G
set_option maxRecDepth 100000
variable {w w' : World} {b n : Nat} {s : SS} {t : Nat → Int} {c : Int}
/-- The box of the pool, the block of what is answered, the list. -/
structure LS (w V : World) (n : Nat) (s : SS) (t : Nat → Int) (A1 A2 A3 : Option Addr) (c1 c2 c3 : Nat) (v : Value) (l : List Int) : Prop where
  box : Blk V w.heap.size 29 #[.slice A1 n c1, .slice A2 n c2, .slice A3 n c3]
  res : Blk V (w.heap.size + 1) 29 #[.slice none 0 0, .slice none 0 0, .slice none 0 0]
  rs : RS V A1 A2 A3 n s t
  lst : Lst V w.heap.size v l
  bel : Below w.heap.size w V
theorem LS.below {V V' : World} {A1 A2 A3 : Option Addr} {c1 c2 c3 : Nat} {v : Value} {l : List Int} (h : LS w V n s t A1 A2 A3 c1 c2 c3 v l) (hb : Below V.heap.size V V') : LS w V' n s t A1 A2 A3 c1 c2 c3 v l :=
  ⟨h.box.bel hb, h.res.bel hb, h.rs.below hb, Own.below h.lst hb, bt h.bel hb⟩
theorem ls_set {V : World} {s' : SS} {D1 D2 D3 F1 F2 F3 : Option Addr} {e1 e2 e3 f1 f2 f3 : Nat} {v : Value} {l : List Int} (h : LS w V n s t D1 D2 D3 e1 e2 e3 v l) (hr : RS V F1 F2 F3 n s' t) :
    LS w (((V.setCell ⟨w.heap.size, 0, none⟩ (.slice F1 n f1)).setCell ⟨w.heap.size, 1, none⟩ (.slice F2 n f2)).setCell ⟨w.heap.size, 2, none⟩ (.slice F3 n f3)) n s' t F1 F2 F3 f1 f2 f3 v l := by
  have b1 := h.box.set_ 0 (.slice F1 n f1)
  have b2 := b1.set_ 1 (.slice F2 n f2)
  have b3 := b2.set_ 2 (.slice F3 n f3)
  have hn : ∀ i, w.heap.size + 1 ≠ (⟨w.heap.size, i, none⟩ : Addr).block := fun i => by show w.heap.size + 1 ≠ w.heap.size; omega
  have hle : ∀ i, w.heap.size ≤ (⟨w.heap.size, i, none⟩ : Addr).block := fun i => Nat.le_refl _
  exact ⟨b3, ((h.res.far (hn 0) _).far (hn 1) _).far (hn 2) _, ((hr.far h.box 0 _).far b1 1 _).far b2 2 _,
    ((Own.far h.lst h.box (by decide) 0 _).far b1 (by decide) 1 _).far b2 (by decide) 2 _, ((h.bel.setCell (hle 0) _).setCell (hle 1) _).setCell (hle 2) _⟩
theorem set3_blk {V : World} {g : Nat} {u1 u2 u3 v1 v2 v3 : Value} (hb : Blk V g 29 #[u1, u2, u3]) : Blk (((V.setCell ⟨g, 0, none⟩ v1).setCell ⟨g, 1, none⟩ v2).setCell ⟨g, 2, none⟩ v3) g 29 #[v1, v2, v3] := ((hb.set_ 0 v1).set_ 1 v2).set_ 2 v3
theorem set3_rs {V : World} {g : Nat} {A1 A2 A3 : Option Addr} {u1 u2 u3 v1 v2 v3 : Value} (hb : Blk V g 29 #[u1, u2, u3]) (h : RS V A1 A2 A3 n s t) : RS (((V.setCell ⟨g, 0, none⟩ v1).setCell ⟨g, 1, none⟩ v2).setCell ⟨g, 2, none⟩ v3) A1 A2 A3 n s t :=
  ((h.far hb 0 v1).far (hb.set_ 0 v1) 1 v2).far ((hb.set_ 0 v1).set_ 1 v2) 2 v3
def InvRL (w : World) (n : Nat) (s : SS) (t : Nat → Int) (l : List Nat) (v : Value) (i : Value) (V : World) : Prop :=
  ∃ (k : Nat) (A1 A2 A3 : Option Addr) (c1 c2 c3 : Nat), i = .int .i64 k ∧ k ≤ l.length ∧ LS w V n (part s l k) t A1 A2 A3 c1 c2 c3 v (l.map Int.ofNat)
theorem part_gst (s : SS) {n k j : Nat} {v : Int} (hj : (allN n s (some v))[k]? = some j) : gst n (part s (allN n s (some v)) k) (j : Int) v = part s (allN n s (some v)) (k + 1) := by
  have hm := mem_allN.1 (List.mem_of_getElem? hj)
  have hnot : j ∉ (allN n s (some v)).take k := by
    intro hin
    obtain ⟨i, hi, he⟩ := List.getElem_of_mem hin
    have hi' : i < k ∧ i < (allN n s (some v)).length := by rw [List.length_take] at hi; omega
    have hk := (List.getElem?_eq_some_iff.1 hj)
    obtain ⟨hk1, hk2⟩ := hk
    rw [List.getElem_take] at he
    have := List.pairwise_iff_getElem.1 (allN_up n s (some v)) i k hi'.2 hk1 hi'.1
    omega
  have hp : part s (allN n s (some v)) k j = some v := by unfold part; rw [if_neg hnot]; exact hm.2
  have ej : ((j : Int)).toNat = j := by omega
  have hi : 0 ≤ (j : Int) ∧ (j : Int) < n := by have := hm.1; omega
  have eg : gcode n (part s (allN n s (some v)) k) (j : Int) v = 0 := by unfold gcode; rw [if_pos hi, ej, hp]; simp
  rw [part_succ s hj]; unfold gst; rw [eg, if_pos rfl, ej]
def RlPost (w : World) (n : Nat) (s : SS) (t : Nat → Int) (m : Nat) (e : Ending) (w' : World) : Prop :=
  ∃ v, e = .returned (.tuple #[v, .int .i64 (m : Int)]) ∧ Rf w' v n s t ∧ Below w.heap.size w w'
set_option maxHeartbeats 4000000 in
theorem rlet_any {A1 A2 A3 : Option Addr} {c1 c2 c3 : Nat} (h : RS w A1 A2 A3 n s t) (hn : n ≤ 64) (v : Int) : Calls Try.prog 18 #[.agg #[.slice A1 n c1, .slice A2 n c2, .slice A3 n c3], .int .i64 v] w (RlPost w n (letS n s v) t (all n s (some v)).length) := by
  obtain ⟨q0, q1, q2, q3⟩ := rs_two w #[.slice A1 n c1, .slice A2 n c2, .slice A3 n c3] #[.slice none 0 0, .slice none 0 0, .slice none 0 0] 29
  have HRS := Lib.hid (h.below q2)
  have HQ := Lib.hid (And.intro q0 (And.intro q1 q2))
  have HOf := Lib.hid (rof_any (c1 := c1) (c2 := c2) (c3 := c3) HRS.out hn v)
  have HE := Lib.hid (part_all s n v)
  have HL0 := Lib.hid (all_len' n s (some v))
  have HG : Hid (∀ (k j : Nat), (allN n s (some v))[k]? = some j → gst n (part s (allN n s (some v)) k) (j : Int) v = part s (allN n s (some v)) (k + 1)) := fun k j hj => part_gst s hj
  have hll := all_len n s (some v)
  clear h q0 q1 q2 q3
  go_enter Try.func18, Try.ntmps18
  go_wp2_with fail
  refine HOf.out.mono ?_
  rintro e w1 ⟨u, rfl, hl, hb1⟩
  obtain ⟨A, cp, rfl, hrow, hcp, hq⟩ := Own.row hl
  clear hrow hq
  rw [HL0.out] at hll hcp ⊢
  have HL : Hid (Lst w1 w.heap.size (.slice A (allN n s (some v)).length cp) ((allN n s (some v)).map Int.ofNat)) := by
    have h2 : w.heap.size ≤ ((w.alloc (.cells #[.slice A1 n c1, .slice A2 n c2, .slice A3 n c3] 29)).alloc (.cells #[.slice none 0 0, .slice none 0 0, .slice none 0 0] 29)).heap.size := HQ.out.2.2.size
    have h3 := Own.less hl h2
    unfold all at h3
    rw [List.length_map] at h3
    show Own _ _ _ _ _ _ _
    rw [List.length_map]; exact h3
  clear hl
  have HLS : Hid (InvRL w n s t (allN n s (some v)) (.slice A (allN n s (some v)).length cp) (.int .i64 0) w1) := ⟨0, A1, A2, A3, c1, c2, c3, rfl, Nat.zero_le _, HQ.out.1.bel hb1, HQ.out.2.1.bel hb1, by rw [part_zero]; exact HRS.out.below hb1, HL.out, bt HQ.out.2.2 hb1⟩
  clear hb1 HRS HQ HOf HL
  generalize allN n s (some v) = l at *
  go_wp2_with fail
  go_loopw [7] (fun i V => InvRL w n s t l (.slice A l.length cp) i V) (fun i _ => l.length - (intOf i).toNat)
  case atStart => exact HLS.out
  case round =>
    obtain ⟨k, D1, D2, D3, e1, e2, e3, rfl, hk, hls⟩ := hrel
    have HLS2 := Lib.hid hls
    clear HLS hls
    by_cases hlt : k < l.length
    · obtain ⟨j, hj⟩ : ∃ j, l[k]? = some j := ⟨_, List.getElem?_eq_getElem hlt⟩
      have HGj := Lib.hid (HG.out k j hj)
      have hj2 : (l.map Int.ofNat)[k]? = some (j : Int) := by rw [List.getElem?_map, hj]; rfl
      obtain ⟨bb, o, rfl, hbb, hc⟩ := lst_at HLS2.out.lst hj2
      have f1 : (k : Int) < l.length := by omega
      have HBL : Hid (∀ V, Below wr.heap.size wr V → Below wr.heap.size wr V ∧ V.cell? ⟨bb, o + k, none⟩ = some (.int .i64 (j : Int)) ∧ ∀ i, V.cell? ⟨w.heap.size, i, none⟩ = (#[.slice D1 n e1, .slice D2 n e2, .slice D3 n e3] : Array Value)[i]?) := fun V hV =>
        ⟨hV, (hV.cell (p := ⟨bb, o + k, none⟩) hbb).trans hc, (HLS2.out.box.bel hV).cell⟩
      have S0 : Below wr.heap.size wr wr.drew := (Below.refl _ _).drew
      clear hj hj2
      go_upto_region 5 with fail
      have HGv : Hid (∀ V, Below wr.heap.size wr V → Calls Try.prog 16 #[.agg #[.slice D1 n e1, .slice D2 n e2, .slice D3 n e3], .int .i64 (j : Int), .int .i64 v] V (RgPost V n (gst n (part s l k) (j : Int) v) t (gcode n (part s l k) (j : Int) v))) := fun V hV => rgive_any (HLS2.out.rs.below hV) hn (j : Int) v
      generalize gcode n (part s l k) (j : Int) v = gc at *
      rw [HGj.out] at HGv
      have S1 : Below wr.heap.size wr (wr.alloc (.cells #[.slice none 0 0, .slice none 0 0, .slice none 0 0] 29)).drew := (b01 wr _).drew
      have HN8 : Hid (Blk (wr.alloc (.cells #[.slice none 0 0, .slice none 0 0, .slice none 0 0] 29)).drew wr.heap.size 29 #[.slice none 0 0, .slice none 0 0, .slice none 0 0]) := Blk.new wr _ _
      have HST : Hid (∀ V a b' c', Below wr.heap.size wr V → Below wr.heap.size wr (((V.setCell ⟨wr.heap.size, 0, none⟩ a).setCell ⟨wr.heap.size, 1, none⟩ b').setCell ⟨wr.heap.size, 2, none⟩ c')) := fun V a b' c' hV => ((hV.setCell (Nat.le_refl _) _).setCell (Nat.le_refl _) _).setCell (Nat.le_refl _) _
      go_region_held3 (fun V => Below wr.heap.size wr V ∧ V.cell? ⟨bb, o + k, none⟩ = some (.int .i64 (j : Int)) ∧ ∀ i, V.cell? ⟨w.heap.size, i, none⟩ = (#[.slice D1 n e1, .slice D2 n e2, .slice D3 n e3] : Array Value)[i]?) (first | (with_reducible exact HBL.out _ S0) | (with_reducible exact HBL.out _ (ba1 S0 _)) | (with_reducible exact HBL.out _ S1) | (with_reducible exact HBL.out _ (HST.out _ _ _ _ S0)) | fail)
        (first
          | (go_at_call 16; (with_reducible refine (HGv.out _ S0).mono ?_); rintro e w10 ⟨v', rfl, ⟨F1, F2, F3, f1', f2', f3', rfl, hrs⟩, hb10⟩; have S0 := bt S0 hb10; have HRs := Lib.hid hrs)
          | (go_at_call 16; (with_reducible refine (HGv.out _ S1).mono ?_); rintro e w10 ⟨v', rfl, ⟨F1, F2, F3, f1', f2', f3', rfl, hrs⟩, hb10⟩; have S0 := bt S1 hb10; have HRs := Lib.hid hrs; have HN9 := Lib.hid (HN8.out.bel hb10); have k9 := HN9.out.cell; have j9 := HN9.out.frozen)
          | fail)
      · have HL9 := Lib.hid (HLS2.out.below (ba1 S0 (.cells #[.slice F1 n f1', .slice F2 n f2', .slice F3 n f3'] 29)))
        have HR9 := Lib.hid (HRs.out.below (b01 w10 (.cells #[.slice F1 n f1', .slice F2 n f2', .slice F3 n f3'] 29)))
        have HB9 := Lib.hid (Blk.new w10 29 #[.slice F1 n f1', .slice F2 n f2', .slice F3 n f3'])
        clear S0 S1 HRs HBL HGv HN8 HST hrs hc
        generalize w10.heap.size = g8 at *
        generalize w10.alloc (.cells #[.slice F1 n f1', .slice F2 n f2', .slice F3 n f3'] 29) = V9 at *
        have kx := HB9.out.cell
        have kb := HL9.out.box.cell
        have fb := HL9.out.box.frozen
        have HEN := Lib.hid (ls_set (f1 := f1') (f2 := f2') (f3 := f3') HL9.out HR9.out)
        go_wp2_with fail
        go_roundw
        case rel => exact ⟨k + 1, F1, F2, F3, f1', f2', f3', by go_num, by omega, HEN.out⟩
        case measure => simp [intOf]; omega
      · have HL9 := Lib.hid (HLS2.out.below (HST.out w10 (.slice F1 n f1') (.slice F2 n f2') (.slice F3 n f3') S0))
        have HR9 := Lib.hid (set3_rs (v1 := .slice F1 n f1') (v2 := .slice F2 n f2') (v3 := .slice F3 n f3') HN9.out HRs.out)
        have HB9 := Lib.hid (set3_blk (v1 := .slice F1 n f1') (v2 := .slice F2 n f2') (v3 := .slice F3 n f3') HN9.out)
        clear S0 S1 HRs HBL HGv HN8 HST hrs hc HN9 k9 j9
        generalize ((w10.setCell ⟨wr.heap.size, 0, none⟩ (.slice F1 n f1')).setCell ⟨wr.heap.size, 1, none⟩ (.slice F2 n f2')).setCell ⟨wr.heap.size, 2, none⟩ (.slice F3 n f3') = V9 at *
        have kx := HB9.out.cell
        have kb := HL9.out.box.cell
        have fb := HL9.out.box.frozen
        have HEN := Lib.hid (ls_set (f1 := f1') (f2 := f2') (f3 := f3') HL9.out HR9.out)
        go_wp2_with fail
        go_roundw
        case rel => exact ⟨k + 1, F1, F2, F3, f1', f2', f3', by go_num, by omega, HEN.out⟩
        case measure => simp [intOf]; omega
    · obtain rfl : k = l.length := by omega
      have kb := HLS2.out.box.cell
      have kr := HLS2.out.res.cell
      have fr := HLS2.out.res.frozen
      have HE1 := Lib.hid (set3_rs (v1 := .slice D1 n e1) (v2 := .slice D2 n e2) (v3 := .slice D3 n e3) HLS2.out.res HLS2.out.rs)
      have ke := (set3_blk (v1 := .slice D1 n e1) (v2 := .slice D2 n e2) (v3 := .slice D3 n e3) HLS2.out.res).cell
      have HE2 : Hid (Below w.heap.size w (((wr.setCell ⟨w.heap.size + 1, 0, none⟩ (.slice D1 n e1)).setCell ⟨w.heap.size + 1, 1, none⟩ (.slice D2 n e2)).setCell ⟨w.heap.size + 1, 2, none⟩ (.slice D3 n e3))) :=
        ((HLS2.out.bel.setCell (by show w.heap.size ≤ w.heap.size + 1; omega) _).setCell (by show w.heap.size ≤ w.heap.size + 1; omega) _).setCell (by show w.heap.size ≤ w.heap.size + 1; omega) _
      go_wp2_with fail
      refine bodyPost_ret (v := .tuple #[.agg #[.slice D1 n e1, .slice D2 n e2, .slice D3 n e3], .int .i64 (l.length : Int)]) (by simp [results, Try.results18, go_sem, ke]) rfl ⟨_, by rw [HL0.out], ⟨_, _, _, _, _, _, rfl, ?_⟩, HE2.out⟩
      rw [← HE.out]; exact HE1.out
end Go.Proofs.Ytppmfmgmlicefaa.P9
