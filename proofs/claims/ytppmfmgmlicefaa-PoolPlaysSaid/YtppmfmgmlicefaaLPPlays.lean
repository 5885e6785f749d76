/- The walk of PoolPlays. -/
import Derived.Test.YtppmfmgmlicefaaPR9g
import Derived.Deep.DeepCutAuto
import Derived.Deep.CutRange
import Derived.Deep.DrawnRows
namespace Go.Proofs.Ytppmfmgmlicefaa.poolPlays
open Go.RowKit Go.Proofs.Ytppmfmgmlicefaa.G Go.Proofs.Ytppmfmgmlicefaa.P9
attribute [local go_sem ↓] Go.wp_at_zero Go.wp_at_succ
set_option maxRecDepth 100000
variable {w w' V V' : World} {b g n : Nat} {s s' : SS} {t t' : Nat → Int} {c : Int} {A : Option Addr} {l : List Sp} {A1 A2 A3 : Option Addr} {c1 c2 c3 : Nat}
/-- Both pools as they lie: the program's in block b, the document's lists told by block g. -/
structure Tw (w V : World) (b g n : Nat) (s : SS) (t : Nat → Int) (s' : SS) (t' : Nat → Int) (c : Int) (A1 A2 A3 : Option Addr) (c1 c2 c3 : Nat) : Prop where
  pl : Pl V b n s t c
  box : Blk V g 29 #[.slice A1 n c1, .slice A2 n c2, .slice A3 n c3]
  rs : RS V A1 A2 A3 n s' t'
  bel : Below w.heap.size w V
  hb : w.heap.size ≤ b
  hg : w.heap.size ≤ g
theorem Tw.below (h : Tw w V b g n s t s' t' c A1 A2 A3 c1 c2 c3) (hb : Below V.heap.size V V') : Tw w V' b g n s t s' t' c A1 A2 A3 c1 c2 c3 := ⟨h.pl.below hb, h.box.bel hb, h.rs.below hb, bt h.bel hb, h.hb, h.hg⟩
theorem row_ob {A : Option Addr} {xs : List Value} {ty : TypeId} (h : Row V A xs) (hy : ∀ bb o, A = some ⟨bb, o, none⟩ → ∃ cur, Blk V bb ty cur) (hp : Pl V b n s t c) (ho : Ob b V V') (hne : ty ≠ 60) : Row V' A xs := fun h0 => by
  obtain ⟨bb, o, e, hb, hc⟩ := h h0
  obtain ⟨cur, h1⟩ := hy bb o e
  obtain ⟨cs, h2, _⟩ := hp.blk
  refine ⟨bb, o, e, Nat.lt_of_lt_of_le hb ho.size, fun j u hj => ?_⟩
  rw [World.cell?_of_block (ho.block bb hb (h1.ne_ h2 hne))]
  exact hc j u hj
theorem ex_ob {A : Option Addr} {ty : TypeId} (hy : ∀ bb o, A = some ⟨bb, o, none⟩ → ∃ cur, Blk V bb ty cur) (hp : Pl V b n s t c) (ho : Ob b V V') (hne : ty ≠ 60) : ∀ bb o, A = some ⟨bb, o, none⟩ → ∃ cur, Blk V' bb ty cur := fun bb o e => by
  obtain ⟨cur, h1⟩ := hy bb o e
  obtain ⟨cs, h2, _⟩ := hp.blk
  exact ⟨cur, Ob.blk h1 ho (h1.ne_ h2 hne)⟩
/-- Behind a call on the program's pool. -/
theorem Tw.pool {s2 : SS} {t2 : Nat → Int} {c2' : Int} (h : Tw w V b g n s t s' t' c A1 A2 A3 c1 c2 c3) (hp : Pl V' b n s2 t2 c2') (ho : Ob b V V') : Tw w V' b g n s2 t2 s' t' c2' A1 A2 A3 c1 c2 c3 := by
  obtain ⟨cs, h2, _⟩ := h.pl.blk
  exact ⟨hp, Ob.blk h.box ho (h.box.ne_ h2 (by decide)),
    ⟨row_ob h.rs.r1 h.rs.y1 h.pl ho (by decide), row_ob h.rs.r2 h.rs.y2 h.pl ho (by decide), row_ob h.rs.r3 h.rs.y3 h.pl ho (by decide), ex_ob h.rs.y1 h.pl ho (by decide), ex_ob h.rs.y2 h.pl ho (by decide), ex_ob h.rs.y3 h.pl ho (by decide)⟩,
    Ob.to_below h.bel ho h.bel.size h.hb, h.hb, h.hg⟩
/-- The document's pool is stored anew. -/
theorem Tw.ref {s2 : SS} {t2 : Nat → Int} {F1 F2 F3 : Option Addr} {f1 f2 f3 : Nat} (h : Tw w V b g n s t s' t' c A1 A2 A3 c1 c2 c3) (hr : RS V F1 F2 F3 n s2 t2) :
    Tw w (((V.setCell ⟨g, 0, none⟩ (.slice F1 n f1)).setCell ⟨g, 1, none⟩ (.slice F2 n f2)).setCell ⟨g, 2, none⟩ (.slice F3 n f3)) b g n s t s2 t2 c F1 F2 F3 f1 f2 f3 := by
  obtain ⟨cs, h2, h3⟩ := h.pl.blk
  have hn : ∀ i, b ≠ (⟨g, i, none⟩ : Addr).block := fun i => h2.ne_ h.box (by decide)
  have hle : ∀ i, w.heap.size ≤ (⟨g, i, none⟩ : Addr).block := fun i => h.hg
  exact ⟨⟨⟨cs, ((h2.far (hn 0) _).far (hn 1) _).far (hn 2) _, h3⟩, h.pl.n64, h.pl.tb⟩, set3_blk h.box, set3_rs h.box hr, ((h.bel.setCell (hle 0) _).setCell (hle 1) _).setCell (hle 2) _, h.hb, h.hg⟩
theorem Tw.more (h : Tw w V b g n s t s' t' c A1 A2 A3 c1 c2 c3) {c' : Int} (hc : c ≤ c') : Tw w V b g n s t s' t' c' A1 A2 A3 c1 c2 c3 := ⟨h.pl.more hc, h.box, h.rs, h.bel, h.hb, h.hg⟩
def InvP (w : World) (b g n m : Nat) (i : Value) (V : World) : Prop := ∃ (k : Nat) (s : SS) (t : Nat → Int) (A1 A2 A3 : Option Addr) (c1 c2 c3 : Nat), i = .int .i64 k ∧ k ≤ m ∧ Tw w V b g n s t s t k A1 A2 A3 c1 c2 c3
def Mid (w : World) (b g n k q : Nat) (x y z : Int) (sm : Value) (V : World) : Prop := sm = .bool true ∧ Blk V q 33 #[.int .i64 x, .int .i64 y, .int .i64 z] ∧ ∃ (s : SS) (t : Nat → Int) (A1 A2 A3 : Option Addr) (c1 c2 c3 : Nat), Tw w V b g n s t s t (k + 1) A1 A2 A3 c1 c2 c3
theorem lst_below {B : Nat} {v : Value} {l : List Int} (h : Lst V B v l) (hb : Below V.heap.size V V') : Lst V' B v l := Own.below h hb
theorem same_lst {B B' : Nat} {v v' : Value} {l : List Int} (h : Lst V B v l) (h' : Lst V B' v' l) (hl : l.length ≤ 1000) : Calls Try.prog 23 #[v, v'] V fun e w' => e = .returned (.bool true) ∧ Below V.heap.size V w' := by
  obtain ⟨X, x, rfl, r, _⟩ := Own.row h
  obtain ⟨Y, y, rfl, r', _⟩ := Own.row h'
  exact same_yes r r' (by omega)
def InvJ (n : Nat) (W : World) (i : Value) (V : World) : Prop := ∃ j : Nat, i = .int .i64 j ∧ j ≤ n ∧ Below W.heap.size W V
set_option maxHeartbeats 8000000 in
theorem walk {n0 : Int} {cp : Nat} (hr : Row w A (l.flatMap pcell)) (hl : l.length ≤ cp) (hc : cp ≤ 9223372036854775807) :
    Calls Try.prog 3 #[.int .i64 n0, .slice A l.length cp] w fun e w' => e = .returned (.bool true) ∧ Below w.heap.size w w' := by
  have HR := Lib.hid hr
  clear hr
  go_enter Try.func3, Try.ntmps3
  go_wp2_with fail
  refine (lives_any _).mono ?_
  rintro e w1 ⟨rfl, hb1⟩
  have HB1 := Lib.hid hb1
  clear hb1
  go_wp2_with fail
  refine (new_any _ _).mono ?_
  rintro e w2 ⟨b, rfl, hp, hb, hB⟩
  have HP2 := Lib.hid hp
  have HB2 := Lib.hid (bt HB1.out hB)
  have HB : Hid (w.heap.size ≤ b) := Nat.le_trans HB1.out.size hb
  have n64 := hp.n64
  clear hp hb hB HB1
  go_wp2_with fail
  refine (rnew_any _ _).mono ?_
  rintro e w3 ⟨v, rfl, ⟨A1, A2, A3, c1, c2, c3, rfl, hrs⟩, hb3⟩
  have hT : Tw w (w3.alloc (.cells #[.slice A1 (clampS n0) c1, .slice A2 (clampS n0) c2, .slice A3 (clampS n0) c3] 29)) b w3.heap.size (clampS n0) (fun _ => none) (fun _ => 0) (fun _ => none) (fun _ => 0) 0 A1 A2 A3 c1 c2 c3 :=
    ⟨(HP2.out.below hb3).below (b01 _ _), Blk.new _ _ _, hrs.below (b01 _ _), ba1 (bt HB2.out hb3) _, HB.out, (bt HB2.out hb3).size⟩
  have HT := Lib.hid hT
  clear hT hrs hb3 HP2 HB2 HB
  generalize clampS n0 = n at *
  go_upto_region 4 with fail
  generalize hg : w3.heap.size = g at *
  clear hg
  generalize w3.alloc (.cells #[.slice A1 n c1, .slice A2 n c2, .slice A3 n c3] 29) = W0 at *
  go_wp2_with fail
  refine (early_any l.length cp hl hc _).mono ?_
  rintro e w' ⟨⟨c', rfl⟩, rfl⟩
  have hm1 : min l.length 80 ≤ l.length := by omega
  have hm2 : min l.length 80 ≤ 80 := by omega
  generalize min l.length 80 = m at *
  go_wp2_with fail
  go_loopw [7] (fun i V => InvP w b g n m i V) (fun i _ => m - (intOf i).toNat)
  case atStart => exact ⟨0, _, _, A1, A2, A3, c1, c2, c3, rfl, by omega, HT.out⟩
  case round =>
    obtain ⟨k, s, t, D1, D2, D3, e1, e2, e3, rfl, hk, hT⟩ := hrel
    have HT5 := Lib.hid hT
    clear HT hT
    by_cases hlt : k < m
    · obtain ⟨u, hu⟩ : ∃ u, l[k]? = some u := ⟨_, List.getElem?_eq_getElem (by omega)⟩
      obtain ⟨ab, ao, rfl, hab, hc0, hc1, hc2⟩ := sps_at (HR.out.below HT5.out.bel) hu
      obtain ⟨x, y, z⟩ := u
      simp only at hc0 hc1 hc2
      clear hu
      have f1 : (k : Int) < m := by omega
      have N0 := b01 wr (.cells #[.int .i64 x, .int .i64 y, .int .i64 z] 33)
      have HT5b := Lib.hid (HT5.out.below N0)
      have HX := Lib.hid (Blk.new wr 33 #[.int .i64 x, .int .i64 y, .int .i64 z])
      clear N0
      go_wp2_with fail
      refine (kind_any x y z _).mono ?_
      rintro e w6 ⟨rfl, hb6⟩
      have HT6 := Lib.hid (HT5b.out.below hb6)
      have HX6 := Lib.hid (HX.out.bel hb6)
      clear HT5 HT5b HX hb6 hc0 hc1 hc2
      generalize wr.heap.size = q at *
      have kb := HT6.out.box.cell
      have kx0 := HX6.out.cell 0
      have kx1 := HX6.out.cell 1
      have kx2 := HX6.out.cell 2
      simp only [List.getElem?_toArray, List.getElem?_cons_zero, List.getElem?_cons_succ] at kx0 kx1 kx2
      obtain ⟨kd, hkd⟩ : ∃ kd, modU x 4 = kd := ⟨_, rfl⟩
      have hq4 : kd = 0 ∨ kd = 1 ∨ kd = 2 ∨ kd = 3 := by have := modU_bd x 4 (by omega); omega
      rw [hkd]
      clear hkd
      go_upto_block 2 with fail
      go_cut [9] (fun sm V => Mid w b g n k q x y z sm V)
      case first =>
        rcases hq4 with rfl | rfl | rfl | rfl
        · skip
          have hlf := low_or_full s n
          rcases hlf with hf | ⟨kk, hkk⟩
          · skip
            have HF := Lib.hid hf
            clear hf
            go_wp2_with fail
            refine (rtake_full HT6.out.rs n64 z HF.out).mono ?_
            rintro e w7 ⟨v', rfl, ⟨F1, F2, F3, f1', f2', f3', rfl, hrs⟩, hb7⟩
            have HT8 := Lib.hid ((HT6.out.below hb7).below (b01 w7 (.cells #[.slice F1 n f1', .slice F2 n f2', .slice F3 n f3'] 29)))
            have HR8 := Lib.hid (hrs.below (b01 w7 (.cells #[.slice F1 n f1', .slice F2 n f2', .slice F3 n f3'] 29)))
            have HX8 := Lib.hid ((HX6.out.bel hb7).bel (b01 w7 (.cells #[.slice F1 n f1', .slice F2 n f2', .slice F3 n f3'] 29)))
            have k8 := HT8.out.box.cell
            have j8 := HT8.out.box.frozen
            clear hrs hb7 kb kx0 kx1 kx2 HT6 HX6
            go_upto_region 15 with fail
            have HT9 := Lib.hid (HT8.out.ref (f1 := f1') (f2 := f2') (f3 := f3') HR8.out)
            have HX9 := Lib.hid (((HX8.out.far (p := ⟨g, 0, none⟩) (HX8.out.ne_ HT8.out.box (by decide)) (.slice F1 n f1')).far (p := ⟨g, 1, none⟩) (HX8.out.ne_ HT8.out.box (by decide)) (.slice F2 n f2')).far (p := ⟨g, 2, none⟩) (HX8.out.ne_ HT8.out.box (by decide)) (.slice F3 n f3'))
            clear HT8 HR8 HX8 k8 j8
            generalize (((w7.alloc (.cells #[.slice F1 n f1', .slice F2 n f2', .slice F3 n f3'] 29)).setCell ⟨g, 0, none⟩ (.slice F1 n f1')).setCell ⟨g, 1, none⟩ (.slice F2 n f2')).setCell ⟨g, 2, none⟩ (.slice F3 n f3') = W9 at *
            have kx1 := HX9.out.cell 1
            have kx2 := HX9.out.cell 2
            simp only [List.getElem?_toArray, List.getElem?_cons_zero, List.getElem?_cons_succ] at kx1 kx2
            go_wp2_with fail
            refine (take_full HT9.out.pl z HF.out).mono ?_
            rintro e w10 ⟨rfl, hp10, hb10⟩
            have HT10 := Lib.hid ((HT9.out.pool hp10 (Ob.of hb10)).more (show (k : Int) ≤ k + 1 by omega))
            have HX10 := Lib.hid (HX9.out.bel hb10)
            clear hp10 hb10
            have HM : Hid (Mid w b g n k q x y z (.bool true) w10) := ⟨rfl, HX10.out, _, _, _, _, _, _, _, _, HT10.out⟩
            clear kx1 kx2 HT10 HX10 HT9 HX9
            go_wp2_with fail
            go_meet
            exact HM.out
          · skip
            have HF := Lib.hid hkk
            have ht0 := HT6.out.pl.tb kk
            clear hkk
            go_wp2_with fail
            refine (rtake_low HT6.out.rs n64 z HF.out ht0.1 (by have := ht0.2; omega)).mono ?_
            rintro e w7 ⟨v', rfl, ⟨F1, F2, F3, f1', f2', f3', rfl, hrs⟩, hb7⟩
            have HT8 := Lib.hid ((HT6.out.below hb7).below (b01 w7 (.cells #[.slice F1 n f1', .slice F2 n f2', .slice F3 n f3'] 29)))
            have HR8 := Lib.hid (hrs.below (b01 w7 (.cells #[.slice F1 n f1', .slice F2 n f2', .slice F3 n f3'] 29)))
            have HX8 := Lib.hid ((HX6.out.bel hb7).bel (b01 w7 (.cells #[.slice F1 n f1', .slice F2 n f2', .slice F3 n f3'] 29)))
            have k8 := HT8.out.box.cell
            have j8 := HT8.out.box.frozen
            clear hrs hb7 kb kx0 kx1 kx2 HT6 HX6
            go_upto_region 15 with fail
            have HT9 := Lib.hid (HT8.out.ref (f1 := f1') (f2 := f2') (f3 := f3') HR8.out)
            have HX9 := Lib.hid (((HX8.out.far (p := ⟨g, 0, none⟩) (HX8.out.ne_ HT8.out.box (by decide)) (.slice F1 n f1')).far (p := ⟨g, 1, none⟩) (HX8.out.ne_ HT8.out.box (by decide)) (.slice F2 n f2')).far (p := ⟨g, 2, none⟩) (HX8.out.ne_ HT8.out.box (by decide)) (.slice F3 n f3'))
            clear HT8 HR8 HX8 k8 j8
            generalize (((w7.alloc (.cells #[.slice F1 n f1', .slice F2 n f2', .slice F3 n f3'] 29)).setCell ⟨g, 0, none⟩ (.slice F1 n f1')).setCell ⟨g, 1, none⟩ (.slice F2 n f2')).setCell ⟨g, 2, none⟩ (.slice F3 n f3') = W9 at *
            have kx1 := HX9.out.cell 1
            have kx2 := HX9.out.cell 2
            simp only [List.getElem?_toArray, List.getElem?_cons_zero, List.getElem?_cons_succ] at kx1 kx2
            go_wp2_with fail
            refine (take_low HT9.out.pl z HF.out (by omega)).mono ?_
            rintro e w10 ⟨rfl, hp10, ho10⟩
            have HT10 := Lib.hid (HT9.out.pool hp10 ho10)
            have HX10 := Lib.hid (Ob.blk HX9.out ho10 (by obtain ⟨cs, q2, _⟩ := HT9.out.pl.blk; exact HX9.out.ne_ q2 (by decide)))
            clear hp10 ho10
            have HM : Hid (Mid w b g n k q x y z (.bool true) w10) := ⟨rfl, HX10.out, _, _, _, _, _, _, _, _, HT10.out⟩
            clear kx1 kx2 HT10 HX10 HT9 HX9
            go_wp2_with fail
            go_meet
            exact HM.out
        · skip
          have hlf := low_or_full s n
          rcases hlf with hf | ⟨kk, hkk⟩
          · skip
            have HF := Lib.hid hf
            clear hf
            go_wp2_with fail
            refine (rtake_full HT6.out.rs n64 z HF.out).mono ?_
            rintro e w7 ⟨v', rfl, ⟨F1, F2, F3, f1', f2', f3', rfl, hrs⟩, hb7⟩
            have HT8 := Lib.hid ((HT6.out.below hb7).below (b01 w7 (.cells #[.slice F1 n f1', .slice F2 n f2', .slice F3 n f3'] 29)))
            have HR8 := Lib.hid (hrs.below (b01 w7 (.cells #[.slice F1 n f1', .slice F2 n f2', .slice F3 n f3'] 29)))
            have HX8 := Lib.hid ((HX6.out.bel hb7).bel (b01 w7 (.cells #[.slice F1 n f1', .slice F2 n f2', .slice F3 n f3'] 29)))
            have k8 := HT8.out.box.cell
            have j8 := HT8.out.box.frozen
            clear hrs hb7 kb kx0 kx1 kx2 HT6 HX6
            go_upto_region 15 with fail
            have HT9 := Lib.hid (HT8.out.ref (f1 := f1') (f2 := f2') (f3 := f3') HR8.out)
            have HX9 := Lib.hid (((HX8.out.far (p := ⟨g, 0, none⟩) (HX8.out.ne_ HT8.out.box (by decide)) (.slice F1 n f1')).far (p := ⟨g, 1, none⟩) (HX8.out.ne_ HT8.out.box (by decide)) (.slice F2 n f2')).far (p := ⟨g, 2, none⟩) (HX8.out.ne_ HT8.out.box (by decide)) (.slice F3 n f3'))
            clear HT8 HR8 HX8 k8 j8
            generalize (((w7.alloc (.cells #[.slice F1 n f1', .slice F2 n f2', .slice F3 n f3'] 29)).setCell ⟨g, 0, none⟩ (.slice F1 n f1')).setCell ⟨g, 1, none⟩ (.slice F2 n f2')).setCell ⟨g, 2, none⟩ (.slice F3 n f3') = W9 at *
            have kx1 := HX9.out.cell 1
            have kx2 := HX9.out.cell 2
            simp only [List.getElem?_toArray, List.getElem?_cons_zero, List.getElem?_cons_succ] at kx1 kx2
            go_wp2_with fail
            refine (take_full HT9.out.pl z HF.out).mono ?_
            rintro e w10 ⟨rfl, hp10, hb10⟩
            have HT10 := Lib.hid ((HT9.out.pool hp10 (Ob.of hb10)).more (show (k : Int) ≤ k + 1 by omega))
            have HX10 := Lib.hid (HX9.out.bel hb10)
            clear hp10 hb10
            have HM : Hid (Mid w b g n k q x y z (.bool true) w10) := ⟨rfl, HX10.out, _, _, _, _, _, _, _, _, HT10.out⟩
            clear kx1 kx2 HT10 HX10 HT9 HX9
            go_wp2_with fail
            go_meet
            exact HM.out
          · skip
            have HF := Lib.hid hkk
            have ht0 := HT6.out.pl.tb kk
            clear hkk
            go_wp2_with fail
            refine (rtake_low HT6.out.rs n64 z HF.out ht0.1 (by have := ht0.2; omega)).mono ?_
            rintro e w7 ⟨v', rfl, ⟨F1, F2, F3, f1', f2', f3', rfl, hrs⟩, hb7⟩
            have HT8 := Lib.hid ((HT6.out.below hb7).below (b01 w7 (.cells #[.slice F1 n f1', .slice F2 n f2', .slice F3 n f3'] 29)))
            have HR8 := Lib.hid (hrs.below (b01 w7 (.cells #[.slice F1 n f1', .slice F2 n f2', .slice F3 n f3'] 29)))
            have HX8 := Lib.hid ((HX6.out.bel hb7).bel (b01 w7 (.cells #[.slice F1 n f1', .slice F2 n f2', .slice F3 n f3'] 29)))
            have k8 := HT8.out.box.cell
            have j8 := HT8.out.box.frozen
            clear hrs hb7 kb kx0 kx1 kx2 HT6 HX6
            go_upto_region 15 with fail
            have HT9 := Lib.hid (HT8.out.ref (f1 := f1') (f2 := f2') (f3 := f3') HR8.out)
            have HX9 := Lib.hid (((HX8.out.far (p := ⟨g, 0, none⟩) (HX8.out.ne_ HT8.out.box (by decide)) (.slice F1 n f1')).far (p := ⟨g, 1, none⟩) (HX8.out.ne_ HT8.out.box (by decide)) (.slice F2 n f2')).far (p := ⟨g, 2, none⟩) (HX8.out.ne_ HT8.out.box (by decide)) (.slice F3 n f3'))
            clear HT8 HR8 HX8 k8 j8
            generalize (((w7.alloc (.cells #[.slice F1 n f1', .slice F2 n f2', .slice F3 n f3'] 29)).setCell ⟨g, 0, none⟩ (.slice F1 n f1')).setCell ⟨g, 1, none⟩ (.slice F2 n f2')).setCell ⟨g, 2, none⟩ (.slice F3 n f3') = W9 at *
            have kx1 := HX9.out.cell 1
            have kx2 := HX9.out.cell 2
            simp only [List.getElem?_toArray, List.getElem?_cons_zero, List.getElem?_cons_succ] at kx1 kx2
            go_wp2_with fail
            refine (take_low HT9.out.pl z HF.out (by omega)).mono ?_
            rintro e w10 ⟨rfl, hp10, ho10⟩
            have HT10 := Lib.hid (HT9.out.pool hp10 ho10)
            have HX10 := Lib.hid (Ob.blk HX9.out ho10 (by obtain ⟨cs, q2, _⟩ := HT9.out.pl.blk; exact HX9.out.ne_ q2 (by decide)))
            clear hp10 ho10
            have HM : Hid (Mid w b g n k q x y z (.bool true) w10) := ⟨rfl, HX10.out, _, _, _, _, _, _, _, _, HT10.out⟩
            clear kx1 kx2 HT10 HX10 HT9 HX9
            go_wp2_with fail
            go_meet
            exact HM.out
        · skip
          go_wp2_with fail
          refine (rgive_any HT6.out.rs n64 y z).mono ?_
          rintro e w7 ⟨v', rfl, ⟨F1, F2, F3, f1', f2', f3', rfl, hrs⟩, hb7⟩
          generalize hgc : gcode n s y z = gc at *
          have HGC := Lib.hid hgc
          clear hgc
          have HT8 := Lib.hid ((HT6.out.below hb7).below (b01 w7 (.cells #[.slice F1 n f1', .slice F2 n f2', .slice F3 n f3'] 29)))
          have HR8 := Lib.hid (hrs.below (b01 w7 (.cells #[.slice F1 n f1', .slice F2 n f2', .slice F3 n f3'] 29)))
          have HX8 := Lib.hid ((HX6.out.bel hb7).bel (b01 w7 (.cells #[.slice F1 n f1', .slice F2 n f2', .slice F3 n f3'] 29)))
          have k8 := HT8.out.box.cell
          have j8 := HT8.out.box.frozen
          clear hrs hb7 kb kx0 kx1 kx2 HT6 HX6
          go_upto_region 20 with fail
          have HT9 := Lib.hid (HT8.out.ref (f1 := f1') (f2 := f2') (f3 := f3') HR8.out)
          have HX9 := Lib.hid (((HX8.out.far (p := ⟨g, 0, none⟩) (HX8.out.ne_ HT8.out.box (by decide)) (.slice F1 n f1')).far (p := ⟨g, 1, none⟩) (HX8.out.ne_ HT8.out.box (by decide)) (.slice F2 n f2')).far (p := ⟨g, 2, none⟩) (HX8.out.ne_ HT8.out.box (by decide)) (.slice F3 n f3'))
          clear HT8 HR8 HX8 k8 j8
          generalize (((w7.alloc (.cells #[.slice F1 n f1', .slice F2 n f2', .slice F3 n f3'] 29)).setCell ⟨g, 0, none⟩ (.slice F1 n f1')).setCell ⟨g, 1, none⟩ (.slice F2 n f2')).setCell ⟨g, 2, none⟩ (.slice F3 n f3') = W9 at *
          have kx1 := HX9.out.cell 1
          have kx2 := HX9.out.cell 2
          simp only [List.getElem?_toArray, List.getElem?_cons_zero, List.getElem?_cons_succ] at kx1 kx2
          go_wp2_with fail
          refine (give_any HT9.out.pl y z).mono ?_
          rintro e w10 ⟨rfl, hp10, ho10⟩
          rw [HGC.out]
          have HT10 := Lib.hid ((HT9.out.pool hp10 ho10).more (show (k : Int) ≤ k + 1 by omega))
          have HX10 := Lib.hid (Ob.blk HX9.out ho10 (by obtain ⟨cs, q2, _⟩ := HT9.out.pl.blk; exact HX9.out.ne_ q2 (by decide)))
          clear hp10 ho10
          have HM : Hid (Mid w b g n k q x y z (.bool true) w10) := ⟨rfl, HX10.out, _, _, _, _, _, _, _, _, HT10.out⟩
          clear kx1 kx2 HT10 HX10 HT9 HX9
          go_wp2_with fail
          go_meet
          exact HM.out
        · skip
          go_wp2_with fail
          refine (rlet_any HT6.out.rs n64 z).mono ?_
          rintro e w7 ⟨v', rfl, ⟨F1, F2, F3, f1', f2', f3', rfl, hrs⟩, hb7⟩
          generalize hgc : (all n s (some z)).length = gc at *
          have HGC := Lib.hid hgc
          clear hgc
          have HT8 := Lib.hid ((HT6.out.below hb7).below (b01 w7 (.cells #[.slice F1 n f1', .slice F2 n f2', .slice F3 n f3'] 29)))
          have HR8 := Lib.hid (hrs.below (b01 w7 (.cells #[.slice F1 n f1', .slice F2 n f2', .slice F3 n f3'] 29)))
          have HX8 := Lib.hid ((HX6.out.bel hb7).bel (b01 w7 (.cells #[.slice F1 n f1', .slice F2 n f2', .slice F3 n f3'] 29)))
          have k8 := HT8.out.box.cell
          have j8 := HT8.out.box.frozen
          clear hrs hb7 kb kx0 kx1 kx2 HT6 HX6
          go_upto_region 24 with fail
          have HT9 := Lib.hid (HT8.out.ref (f1 := f1') (f2 := f2') (f3 := f3') HR8.out)
          have HX9 := Lib.hid (((HX8.out.far (p := ⟨g, 0, none⟩) (HX8.out.ne_ HT8.out.box (by decide)) (.slice F1 n f1')).far (p := ⟨g, 1, none⟩) (HX8.out.ne_ HT8.out.box (by decide)) (.slice F2 n f2')).far (p := ⟨g, 2, none⟩) (HX8.out.ne_ HT8.out.box (by decide)) (.slice F3 n f3'))
          clear HT8 HR8 HX8 k8 j8
          generalize (((w7.alloc (.cells #[.slice F1 n f1', .slice F2 n f2', .slice F3 n f3'] 29)).setCell ⟨g, 0, none⟩ (.slice F1 n f1')).setCell ⟨g, 1, none⟩ (.slice F2 n f2')).setCell ⟨g, 2, none⟩ (.slice F3 n f3') = W9 at *
          have kx1 := HX9.out.cell 1
          have kx2 := HX9.out.cell 2
          simp only [List.getElem?_toArray, List.getElem?_cons_zero, List.getElem?_cons_succ] at kx1 kx2
          go_wp2_with fail
          refine (let_any HT9.out.pl z).mono ?_
          rintro e w10 ⟨rfl, hp10, ho10⟩
          rw [HGC.out]
          have HT10 := Lib.hid ((HT9.out.pool hp10 ho10).more (show (k : Int) ≤ k + 1 by omega))
          have HX10 := Lib.hid (Ob.blk HX9.out ho10 (by obtain ⟨cs, q2, _⟩ := HT9.out.pl.blk; exact HX9.out.ne_ q2 (by decide)))
          clear hp10 ho10
          have HM : Hid (Mid w b g n k q x y z (.bool true) w10) := ⟨rfl, HX10.out, _, _, _, _, _, _, _, _, HT10.out⟩
          clear kx1 kx2 HT10 HX10 HT9 HX9
          go_wp2_with fail
          go_meet
          exact HM.out
      case rest =>
        obtain ⟨rfl, hx, s, t, D1, D2, D3, e1, e2, e3, hT⟩ := hcut
        have HT7 := Lib.hid hT
        have HX7 := Lib.hid hx
        clear kb kx0 kx1 kx2 HT6 HX6 hT hx
        have hln := all_len n s none
        have hlz := all_len n s (some z)
        have HFr : Hid (∀ V, Below wc.heap.size wc V → Calls Try.prog 20 #[.pointer (some ⟨b, 0, none⟩)] V (IPost V (all n s none).length)) := fun V hV => free_any (HT7.out.pl.below hV)
        have HRf : Hid (∀ V, Below wc.heap.size wc V → Calls Try.prog 21 #[.agg #[.slice D1 n e1, .slice D2 n e2, .slice D3 n e3]] V (IPost V (all n s none).length)) := fun V hV => rfree_any (HT7.out.rs.below hV) n64
        have HLn : Hid (∀ V, Below wc.heap.size wc V → Calls Try.prog 22 #[.pointer (some ⟨b, 0, none⟩)] V fun e w' => e = .returned (.int .i64 n) ∧ Below V.heap.size V w') := fun V hV => len_any (HT7.out.pl.below hV)
        have HOf : Hid (∀ V, Below wc.heap.size wc V → Calls Try.prog 24 #[.pointer (some ⟨b, 0, none⟩), .int .i64 z] V (LstPost V (all n s (some z)))) := fun V hV => of_any (HT7.out.pl.below hV) z
        have HRo : Hid (∀ V, Below wc.heap.size wc V → Calls Try.prog 25 #[.agg #[.slice D1 n e1, .slice D2 n e2, .slice D3 n e3], .int .i64 z] V (LstPost V (all n s (some z)))) := fun V hV => rof_any (HT7.out.rs.below hV) n64 z
        have HS : Hid (∀ V, Below wc.heap.size wc V → Below wc.heap.size wc V ∧ (∀ i, V.cell? ⟨g, i, none⟩ = (#[.slice D1 n e1, .slice D2 n e2, .slice D3 n e3] : Array Value)[i]?) ∧ V.cell? ⟨q, 2, none⟩ = some (.int .i64 z)) := fun V hV => ⟨hV, (HT7.out.box.bel hV).cell, by
          have := (HX7.out.bel hV).cell 2
          simpa using this⟩
        have S0 : Below wc.heap.size wc wc.drew := (Below.refl _ _).drew
        generalize (all n s none).length = mf at *
        generalize all n s (some z) = lz at *
        have HLz : Hid (lz.length ≤ 1000) := by show lz.length ≤ 1000; omega
        go_upto_region 25 with fail
        go_region_held3 (fun V => Below wc.heap.size wc V ∧ (∀ i, V.cell? ⟨g, i, none⟩ = (#[.slice D1 n e1, .slice D2 n e2, .slice D3 n e3] : Array Value)[i]?) ∧ V.cell? ⟨q, 2, none⟩ = some (.int .i64 z)) (first | (with_reducible exact HS.out _ S0) | fail)
          (first
            | (go_at_call 20; (with_reducible refine (HFr.out _ S0).mono ?_); rintro e w10 ⟨rfl, hb10⟩; have S0 := bt S0 hb10)
            | (go_at_call 21; (with_reducible refine (HRf.out _ S0).mono ?_); rintro e w10 ⟨rfl, hb10⟩; have S0 := bt S0 hb10)
            | (go_at_call 22; (with_reducible refine (HLn.out _ S0).mono ?_); rintro e w10 ⟨rfl, hb10⟩; have S0 := bt S0 hb10)
            | (go_at_call 24; (with_reducible refine (HOf.out _ S0).mono ?_); rintro e w10 ⟨v1, rfl, hl1, hb10⟩; have S0 := bt S0 hb10; have HV1 := Lib.hid hl1; clear hl1)
            | (go_at_call 25; (with_reducible refine (HRo.out _ S0).mono ?_); rintro e w10 ⟨v2, rfl, hl2, hb10⟩; have S0 := bt S0 hb10; have HV2 := Lib.hid hl2; have HV1 := Lib.hid (lst_below HV1.out hb10); clear hl2)
            | (go_at_call 23; (with_reducible refine (same_lst HV1.out HV2.out HLz.out).mono ?_); rintro e w10 ⟨rfl, hb10⟩; have S0 := bt S0 hb10)
            | fail)
        have HT8 := Lib.hid (HT7.out.below S0)
        have kb := HT8.out.box.cell
        clear HFr HRf HLn HOf HRo HS HV1 HV2 HLz S0 HT7 HX7 hln hlz
        go_wp2_with fail
        go_loopw [19] (fun i V => InvJ n w10 i V) (fun i _ => n - (intOf i).toNat)
        case atStart => exact ⟨0, rfl, by omega, Below.refl _ _⟩
        case round =>
          obtain ⟨j, rfl, hj, hB⟩ := hrel
          have HT9 := Lib.hid (HT8.out.below hB)
          have HBw := Lib.hid hB
          have kb := HT9.out.box.cell
          clear hB
          by_cases hjn : j < n
          · obtain ⟨bb1, o1, rfl, hbb1, hz1⟩ := row_at HT9.out.rs.r1 (bl_at s hjn)
            obtain ⟨bb2, o2, rfl, hbb2, hz2⟩ := row_at HT9.out.rs.r2 (ol_at s hjn)
            obtain ⟨bb3, o3, rfl, hbb3, hz3⟩ := row_at HT9.out.rs.r3 (tl_at t hjn)
            have HOw := Lib.hid (owner_in HT9.out.pl j hjn)
            have f2 : (j : Int) < n := by omega
            have f3 : (0 : Int) ≤ j := by omega
            go_wp2_with fail
            refine HOw.out.mono ?_
            rintro e w12 ⟨rfl, hb12⟩
            generalize V1 (s j) = vj at *
            generalize B1 (s j) = bj at *
            have HT12 := Lib.hid (HT9.out.below hb12)
            have HTu : Hid (∀ V, Below w12.heap.size w12 V → Calls Try.prog 27 #[.pointer (some ⟨b, 0, none⟩), .int .i64 (j : Int)] V (TuPost V (t j))) := fun V hV => turn_in (HT12.out.pl.below hV) j hjn
            generalize t j = tj at *
            have HS : Hid (∀ V, Below w12.heap.size w12 V → Below w12.heap.size w12 V ∧ (∀ i, V.cell? ⟨g, i, none⟩ = (#[.slice (some ⟨bb1, o1, none⟩) n e1, .slice (some ⟨bb2, o2, none⟩) n e2, .slice (some ⟨bb3, o3, none⟩) n e3] : Array Value)[i]?) ∧ V.cell? ⟨bb1, o1 + j, none⟩ = some (.bool bj) ∧ V.cell? ⟨bb2, o2 + j, none⟩ = some (.int .i64 vj) ∧ V.cell? ⟨bb3, o3 + j, none⟩ = some (.int .i64 tj)) := fun V hV =>
              have h9 := bt hb12 hV
              ⟨hV, (HT12.out.box.bel hV).cell, (h9.cell (p := ⟨bb1, o1 + j, none⟩) hbb1).trans hz1, (h9.cell (p := ⟨bb2, o2 + j, none⟩) hbb2).trans hz2, (h9.cell (p := ⟨bb3, o3 + j, none⟩) hbb3).trans hz3⟩
            have S0 : Below w12.heap.size w12 w12.drew := (Below.refl _ _).drew
            have HB12 := Lib.hid (bt HBw.out hb12)
            clear hz1 hz2 hz3 hbb1 hbb2 hbb3 kb hb12
            have n1 : (vj != vj) = false := by simp
            have n2 : (bj != bj) = false := by simp
            have n3 : (tj != tj) = false := by simp
            go_upto_region 31 with fail
            go_region_held3 (fun V => Below w12.heap.size w12 V ∧ (∀ i, V.cell? ⟨g, i, none⟩ = (#[.slice (some ⟨bb1, o1, none⟩) n e1, .slice (some ⟨bb2, o2, none⟩) n e2, .slice (some ⟨bb3, o3, none⟩) n e3] : Array Value)[i]?) ∧ V.cell? ⟨bb1, o1 + j, none⟩ = some (.bool bj) ∧ V.cell? ⟨bb2, o2 + j, none⟩ = some (.int .i64 vj) ∧ V.cell? ⟨bb3, o3 + j, none⟩ = some (.int .i64 tj)) (first | (with_reducible exact HS.out _ S0) | fail)
              (first
                | (go_at_call 27; (with_reducible refine (HTu.out _ S0).mono ?_); rintro e w14 ⟨rfl, hb14⟩; have S0 := bt S0 hb14)
                | fail)
            have HB14 := Lib.hid (bt HB12.out S0)
            clear HS HTu S0
            go_wp2_with fail
            go_roundw
            case rel => exact ⟨j + 1, by go_num, by omega, HB14.out⟩
            case measure => simp [intOf]; omega
          · obtain rfl : j = n := by omega
            go_wp2_with fail
            go_roundw
            case rel => exact ⟨k + 1, s, t, D1, D2, D3, e1, e2, e3, by go_num, by omega, HT9.out.more (by omega)⟩
            case measure => simp [intOf]; omega
    · obtain rfl : k = m := by omega
      have HBl := Lib.hid HT5.out.bel
      go_wp2_with fail
      go_ret
      exact ⟨rfl, HBl.out⟩
end Go.Proofs.Ytppmfmgmlicefaa.poolPlays
