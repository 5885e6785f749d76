/- The walk of TripleAlone (written by gen_valone.py). -/
import Derived.Test.YtdablfanmlmjkaaDoorVBase
import Derived.BigQuiet
namespace Go.Proofs.YtdablfanmlmjkaaDoor.tripleAlone
open Go.RowKit Go.Proofs.YtdablfanmlmjkaaDoor.G Go.Proofs.YtdablfanmlmjkaaDoor.Cell Go.Proofs.YtdablfanmlmjkaaDoor.T3
attribute [local go_sem ↓] Go.wp_at_zero Go.wp_at_succ
set_option maxRecDepth 100000

/-- How many accesses each made: the writer's just as its count says, the reader's as many or one less. -/
structure AInv (s : St) (m0 m1 : Int) : Prop where
  w : ∀ x, s.wr = some x → m1 = x.k
  r : ∀ y, s.rd = some y → m0 ≤ y.k ∧ (y.k : Int) ≤ m0 + 1
/-- The register, the counts in block gm, and new blocks alone. -/
structure AW (w : World) (gm br : Nat) (s : St) (m0 m1 c : Int) (F : Nat → Prop) : Prop where
  reg : RegX w br s c F
  box : Blk w gm 61 #[.int .i64 m0, .int .i64 m1]
  out : ¬ F gm
  zero : ¬ F 0 ∧ gm ≠ 0
variable {w w' : World} {gm br : Nat} {s : St} {m0 m1 c : Int} {F : Nat → Prop}
theorem AW.set_ {n0 n1 : Int} (h : AW w gm br s m0 m1 c F) (i : Nat) (u : Value) (hb : #[.int .i64 m0, .int .i64 m1].setIfInBounds i u = #[.int .i64 n0, .int .i64 n1]) : AW (w.setCell ⟨gm, i, none⟩ u) gm br s n0 n1 c F ∧ Only (FG F gm) w (w.setCell ⟨gm, i, none⟩ u) :=
  ⟨⟨h.reg.only (G := fun k => k = gm) (Only.set_ (F := fun k => k = gm) (Only.refl _ _) rfl i u) (fun k hk e => h.out (by rw [← e]; exact hk)), by rw [← hb]; exact h.box.set_ i u, h.out, h.zero⟩, Only.set_ (Only.refl _ _) (.inr rfl) i u⟩
theorem AW.below (h : AW w gm br s m0 m1 c F) (hb : Below w.heap.size w w') : AW w' gm br s m0 m1 c F := ⟨h.reg.below hb, h.box.bel hb, h.out, h.zero⟩
theorem AW.call {s' : St} {c' : Int} {F' : Nat → Prop} (h : AW w gm br s m0 m1 c F) (hr : RegX w' br s' c' F') (hm : More F F' w.heap.size) (hO : Only F w w') : AW w' gm br s' m0 m1 c' F' ∧ Only (FG F gm) w w' := by
  refine ⟨⟨hr, Only.blk h.box hO h.out, fun h1 => ?_, fun h1 => ?_, h.zero.2⟩, hO.mono fun k hk => .inl hk⟩
  · rcases hm gm h1 with h2 | h2
    · exact h.out h2
    · have := h.box.lt; omega
  · rcases hm 0 h1 with h2 | h2
    · exact h.zero.1 h2
    · have := h.box.lt; omega
def InvAl (w : World) (gm br : Nat) (W n : Nat) (i : Value) (V : World) : Prop := ∃ (k : Nat) (s : St) (m0 m1 c : Int) (F : Nat → Prop), i = .int .i64 k ∧ k ≤ n ∧ k ≤ 200 ∧ AW V gm br s m0 m1 c F ∧ s.W = W ∧ AInv s m0 m1 ∧ 0 ≤ m0 ∧ m0 ≤ 20 ∧ 0 ≤ m1 ∧ m1 ≤ 20 ∧ c ≤ k ∧ Below w.heap.size w V ∧ (∀ q, F q → w.heap.size ≤ q)
/-- The writer's Step, where one is under way. -/
theorem wstep_k {s : St} {x : Wr} (ok : Ok s) (hx : s.wr = some x) : wDone s = decide (x.k = s.W) ∧ wErr s = 0 ∧ (wStep s).W = s.W ∧ (wStep s).rd = s.rd ∧ (wStep s).wr.isSome = !wDone s ∧ ∀ z, (wStep s).wr = some z → (z.k : Int) = x.k + 1 := by
  have hk := (ok.wr x hx).k
  have hs : wStep s = wNext s x := by simp [wStep, hx]
  have hd : wDone s = decide (x.k = s.W) := by simp [wDone, hx]
  have hE : wErr s = 0 := by simp [wErr, hx]
  refine ⟨hd, hE, ?_⟩
  rw [hs, hd]
  unfold wNext
  split
  · rename_i k0
    refine ⟨rfl, rfl, ?_, fun z e => by obtain rfl := Option.some.inj e; show ((x.k + 1 : Nat) : Int) = x.k + 1; omega⟩
    rw [decide_eq_false (by omega)]; rfl
  · rename_i k0
    refine ⟨rfl, rfl, ?_, fun z e => (by cases e)⟩
    rw [decide_eq_true (by omega)]; rfl
theorem rstep_k {s : St} {y : Rr} (ok : Ok s) (hy : s.rd = some y) : rDone s = decide (y.k = 1 + s.W) ∧ rErr s = 0 ∧ (rStep s).W = s.W ∧ (rStep s).wr = s.wr ∧ (rStep s).rd.isSome = !rDone s ∧ ∀ z, (rStep s).rd = some z → (z.k : Int) = y.k + 1 ∨ (y.k = 0 ∧ z.k = 2) := by
  have hk := (ok.rd y hy).k
  have hw := ok.w1
  have hs : rStep s = rNext s y := by simp [rStep, hy]
  have hd : rDone s = decide (y.k = 1 + s.W) := by simp [rDone, hy]
  have hE : rErr s = 0 := by simp [rErr, hy]
  refine ⟨hd, hE, ?_⟩
  rw [hs, hd]
  unfold rNext
  split
  · rename_i k0
    refine ⟨rfl, rfl, ?_, fun z e => ?_⟩
    · rw [decide_eq_false (by omega)]; rfl
    · obtain rfl := Option.some.inj e
      show (((if nth s.m 0 < 4 then 2 else 1 : Nat)) : Int) = y.k + 1 ∨ (y.k = 0 ∧ (if nth s.m 0 < 4 then 2 else 1) = 2)
      split
      · exact .inr ⟨k0, rfl⟩
      · left; omega
  split
  · rename_i k0 k1
    refine ⟨rfl, rfl, ?_, fun z e => .inl (by obtain rfl := Option.some.inj e; show ((2 : Nat) : Int) = y.k + 1; omega)⟩
    rw [decide_eq_false (by omega)]; rfl
  split
  · rename_i k0 k1 k2
    refine ⟨rfl, rfl, ?_, fun z e => .inl (by obtain rfl := Option.some.inj e; show ((y.k + 1 : Nat) : Int) = y.k + 1; omega)⟩
    rw [decide_eq_false (by omega)]; rfl
  · refine ⟨rfl, rfl, ?_, fun z e => (by cases e)⟩
    rw [decide_eq_true (by omega)]; rfl
set_option maxHeartbeats 4000000 in
theorem walk {w : World} {n : Int} {A : Option Addr} {l : List Bool} {cp : Nat} (hg : Et w) (hn : n ≤ 9223372036854775807) (hr : Row w A (bvs l)) :
    Calls Tryd.prog 6 #[.int .i64 n, .slice A l.length cp] w fun e w' => e = .returned (.bool true) ∧ Below w.heap.size w w' := by
  have HG := Lib.hid hg
  have HR := Lib.hid hr
  clear hg hr
  obtain ⟨W1, W6⟩ := fW_bd n
  obtain ⟨W, hW⟩ : ∃ W, fW n = W := ⟨_, rfl⟩
  have HWn := Lib.hid hW
  rw [hW] at W1 W6
  clear hW
  go_enter Tryd.func6, Tryd.ntmps6
  go_wp2_with fail
  refine (lives_any HG.out).mono ?_
  rintro e w1 ⟨rfl, hb1⟩
  go_wp2_with fail
  refine (rnew_any n hn).mono ?_
  rintro e w2 ⟨br, rfl, hr2, hb2⟩
  have hp := HG.out.pos
  rw [HWn.out] at hr2
  have hsz1 := hb1.size
  have hsz2 := hb2.size
  have h1 := hr2.tight
  obtain ⟨F, hFF⟩ : ∃ F : Nat → Prop, (fun b => w1.heap.size ≤ b ∧ b < w2.heap.size) = F := ⟨_, rfl⟩
  rw [hFF] at h1
  have HA : Hid (AW (w2.alloc (.cells #[.int .i64 0, .int .i64 0] 61)) w2.heap.size br (s0 W) 0 0 0 F) := by
    refine ⟨h1.below (b01 _ _), Blk.new _ _ _, ?_, ?_, by omega⟩
    · rw [← hFF]; exact fun h => absurd h.2 (Nat.lt_irrefl _)
    · rw [← hFF]; exact fun h => absurd h.1 (by omega)
  have HF : Hid (∀ q, F q → w.heap.size ≤ q) := by
    show ∀ q, F q → w.heap.size ≤ q
    rw [← hFF]; exact fun q hq => Nat.le_trans hsz1 hq.1
  have HB : Hid (Below w.heap.size w (w2.alloc (.cells #[.int .i64 0, .int .i64 0] 61))) := ba1 (bt hb1 hb2) _
  have HGM : Hid (w.heap.size ≤ w2.heap.size) := Nat.le_trans hsz1 hsz2
  have HR2 := Lib.hid h1
  unfold P
  clear hr2 hb1 hb2 h1 hFF
  go_wp2_with fail
  refine (rwords_any HR2.out).mono ?_
  rintro e w' ⟨rfl, rfl⟩
  rw [show (s0 W).W = W from rfl]
  obtain ⟨gm, hgm⟩ : ∃ g, w2.heap.size = g := ⟨_, rfl⟩
  rw [hgm] at HA HGM
  go_wp2_with fail
  generalize w2.alloc (.cells #[.int .i64 0, .int .i64 0] 61) = V0 at *
  clear hgm HR2
  go_loopw [8] (fun i V => InvAl w gm br W l.length i V) (fun i _ => l.length - (intOf i).toNat)
  case atStart => exact ⟨0, _, 0, 0, 0, F, rfl, by omega, by omega, HA.out, rfl, ⟨fun x e => (by cases e), fun y e => (by cases e)⟩, by omega, by omega, by omega, by omega, by omega, HB.out, HF.out⟩
  case round =>
    clear HA HF HB
    obtain ⟨k, s, m0, m1, c, F, rfl, hk, hk4, hA, hWs, hI, a0, a1, a2, a3, hck, hB, hF⟩ := hrel
    have HA := Lib.hid hA
    have HI := Lib.hid hI
    have HB := Lib.hid hB
    have HF := Lib.hid hF
    clear hA hI hB hF
    by_cases hlt : k < l.length ∧ k < 200
    · obtain ⟨hlt1, hlt4⟩ := hlt
      obtain ⟨u, hu⟩ : ∃ u, l[k]? = some u := ⟨_, List.getElem?_eq_getElem hlt1⟩
      obtain ⟨ab, ao, rfl, hab, hc0⟩ := bvs_at (HR.out.below HB.out) hu
      cases u with
      | true =>
        cases hx1 : s.wr with
        | none =>
          have eS : s.wr.isSome = false := by rw [hx1]; rfl
          have kb := HA.out.box.cell
          have fb := HA.out.box.frozen
          have T1 := HA.out.set_ (n0 := m0) (n1 := 0) 1 (.int .i64 0) rfl
          obtain ⟨V1, hV1⟩ : ∃ V, wr.setCell ⟨gm, 1, none⟩ (.int .i64 0) = V := ⟨_, rfl⟩
          rw [hV1] at T1
          have HA1 := Lib.hid T1.1
          have HB1 := Lib.hid (below_only HB.out T1.2 HF.out HGM.out)
          have HR1 := Lib.hid (HR.out.below HB1.out)
          obtain ⟨ab1, ao1, eA1, _, hc1⟩ := bvs_at HR1.out hu
          injection eA1 with eA1
          injection eA1 with eA11 eA12
          subst eA11 eA12
          have HBy := Lib.hid (wbusy_any HA.out.reg)
          rw [eS] at HBy
          clear T1 eS
          have hmk := make_run W (by omega) W rfl V1
          have b2 := b01 V1 (.cells (ints (zs W)) 3)
          have HRow : Hid (Row (V1.alloc (.cells (ints (zs W)) 3)) (some ⟨V1.heap.size, 0, none⟩) (iv' (zs W))) := Row.of_blk (Blk.new V1 3 (ints (zs W))) fun j u hj => by unfold ints; rw [List.getElem?_toArray]; exact hj
          have HA2 := Lib.hid (HA1.out.below b2)
          have HB2 := Lib.hid (bt HB1.out b2)
          have hall : allOk (zs W) = true := by
            unfold allOk
            rw [List.all_eq_true]
            intro z hz
            rw [List.eq_of_mem_replicate hz]; rfl
          have eM : may s (zs W) = true := by unfold may; rw [hall, hWs, zs_length]; simp
          have eC : wCode s (zs W) = 0 := by unfold wCode; rw [eM]; simp [hx1]
          have eB : wBegin s (zs W) = { s with wr := some ⟨0, zs W⟩ } := by unfold wBegin; rw [eM]; simp [hx1]
          have HX := Lib.hid (And.intro eC eB)
          have HWW : Hid (s.W = W) := hWs
          have HIr := Lib.hid HI.out.r
          clear eM eC eB hall b2 hx1
          go_wp2_with fail
          refine HBy.out.mono ?_
          rintro e w' ⟨rfl, rfl⟩
          go_upto_region 14 with fail
          clear kb fb
          have k1 := HA1.out.box.cell
          go_wp2_with fail
          have HWr := Lib.hid (wwrite_any (cp := W) HA2.out.reg HRow.out)
          rw [zs_length, HX.out.1, HX.out.2] at HWr
          refine HWr.out.mono ?_
          rintro e w4 ⟨rfl, hr4, hO4⟩
          have T4 := HA2.out.call hr4 (more_gr _ _) hO4
          have HAx := Lib.hid T4.1
          have HBx := Lib.hid (below_only HB2.out T4.2 HF.out HGM.out)
          have hs2 := HB2.out.size
          obtain ⟨Fx, hFx⟩ : ∃ Fx, Gr F (V1.alloc (.cells (ints (zs W)) 3)).heap.size = Fx := ⟨_, rfl⟩
          have HFx : Hid (∀ q, Fx q → w.heap.size ≤ q) := by
            show ∀ q, Fx q → w.heap.size ≤ q
            rw [← hFx]
            exact low_more HF.out (more_gr _ _) hs2
          rw [hFx] at HAx
          clear hr4 hO4 T4 hFx hs2 HWr
          obtain ⟨s1, hs1⟩ : ∃ s1, ({ s with wr := some ⟨0, zs W⟩ } : St) = s1 := ⟨_, rfl⟩
          obtain ⟨x1, hx0⟩ : ∃ x1 : Wr, (⟨0, zs W⟩ : Wr) = x1 := ⟨_, rfl⟩
          have hx1 : s1.wr = some x1 := by rw [← hs1, ← hx0]
          have HW1 : Hid (s1.W = W) := by show s1.W = W; rw [← hs1]; exact HWW.out
          have HI1 : Hid (∀ z, s1.rd = some z → m0 ≤ z.k ∧ (z.k : Int) ≤ m0 + 1) := by show ∀ z, s1.rd = some z → m0 ≤ z.k ∧ (z.k : Int) ≤ m0 + 1; rw [← hs1]; exact HIr.out
          obtain ⟨xk, hxk'⟩ : ∃ z : Int, (0 : Int) = z := ⟨_, rfl⟩
          have hz1 : x1.k = 0 := by rw [← hx0]
          have HLim : Hid (x1.k ≤ W ∧ 0 ≤ xk ∧ xk = x1.k) := by show x1.k ≤ W ∧ 0 ≤ xk ∧ xk = x1.k; rw [hz1, ← hxk']; omega
          rw [hs1, hxk'] at HAx
          clear hs1 hx0 hxk' hz1 HA1 hmk HA2 HRow k1
          obtain ⟨ab2, ao2, eA2, _, hc2⟩ := bvs_at (HR.out.below HBx.out) hu
          injection eA2 with eA2
          injection eA2 with eA21 eA22
          subst eA21 eA22
          have K := wstep_k HAx.out.reg.ok hx1
          rw [HW1.out] at K
          obtain ⟨K1, K2, K4, K5, K3, K6⟩ := K
          have HK6 := Lib.hid (And.intro K4 (And.intro K5 K6))
          clear K4 K5 K6
          have bx : x1.k ≤ W ∧ 0 ≤ xk ∧ xk ≤ 6 := by have := HLim.out; omega
          obtain ⟨D, hD⟩ : ∃ D, wDone s1 = D := ⟨_, rfl⟩
          rw [hD] at K1 K3
          have tD : (xk + 1 == (W : Int) + 1) = D := by
            rw [K1]
            refine Bool.eq_iff_iff.2 ?_
            rw [beq_iff_eq, decide_eq_true_eq]
            have := HLim.out
            omega
          have tD' : (xk == (W : Int)) = D := by
            rw [K1]
            refine Bool.eq_iff_iff.2 ?_
            rw [beq_iff_eq, decide_eq_true_eq]
            have := HLim.out
            omega
          have HKD := Lib.hid (And.intro hD (And.intro K2 K3))
          clear K1 K2 K3 hD
          have kb := HAx.out.box.cell
          have fb := HAx.out.box.frozen
          go_wp2_with fail
          refine (wstep_any HAx.out.reg (by omega)).mono ?_
          rintro e w5 ⟨rfl, hr5, hO5⟩
          rw [HKD.out.1, HKD.out.2.1]
          clear kb fb
          have T5 := HAx.out.call hr5 (More.refl _ _) hO5
          have k5 := T5.1.box.cell
          have f5 := T5.1.box.frozen
          have T6 := T5.1.set_ (n0 := m0) (n1 := xk + 1) 1 (.int .i64 (xk + 1)) rfl
          have HA6 := Lib.hid T6.1
          have HB5 := below_only HBx.out T5.2 HFx.out HGM.out
          have HB6 := Lib.hid (below_only HB5 T6.2 HFx.out HGM.out)
          clear T5 T6 HB5 hr5 hO5
          go_upto_region 19 with fail
          obtain ⟨V6, hV6⟩ : ∃ V, w5.setCell ⟨gm, 1, none⟩ (.int .i64 (xk + 1)) = V := ⟨_, rfl⟩
          rw [hV6] at HA6 HB6 ⊢
          clear hV6 k5 f5
          have k6 := HA6.out.box.cell
          have HBu : Hid (Calls Tryd.prog 24 #[.pointer (some ⟨br, 0, none⟩), .bool true] V6 (BoolPost (!D) V6)) := by
            have := wbusy_any HA6.out.reg
            rw [HKD.out.2.2] at this
            exact this
          obtain ⟨ab', ao', eA, _, hc6⟩ := bvs_at (HR.out.below HB6.out) hu
          injection eA with eA
          injection eA with eA1 eA2
          subst eA1 eA2
          clear hu
          cases D with
          | true =>
            go_wp2_with fail
            refine HBu.out.mono ?_
            rintro e w' ⟨rfl, rfl⟩
            go_wp2_with fail
            go_roundw
            case rel =>
              refine ⟨k + 1, _, _, _, _, Fx, by go_num, by omega, by omega, HA6.out, HK6.out.1, ⟨?_, ?_⟩, by omega, by omega, by omega, by omega, by omega, HB6.out, HFx.out⟩
              · intro z hz; have := HK6.out.2.2 z hz; have := HLim.out; omega
              · intro z hz; rw [HK6.out.2.1] at hz; exact HI1.out z hz
            case measure => simp [intOf]; omega
          | false =>
            go_wp2_with fail
            refine HBu.out.mono ?_
            rintro e w' ⟨rfl, rfl⟩
            go_wp2_with fail
            go_roundw
            case rel =>
              refine ⟨k + 1, _, _, _, _, Fx, by go_num, by omega, by omega, HA6.out, HK6.out.1, ⟨?_, ?_⟩, by omega, by omega, by omega, by omega, by omega, HB6.out, HFx.out⟩
              · intro z hz; have := HK6.out.2.2 z hz; have := HLim.out; omega
              · intro z hz; rw [HK6.out.2.1] at hz; exact HI1.out z hz
            case measure => simp [intOf]; omega
        | some x1 =>
          have hkk := (HA.out.reg.ok.wr x1 hx1).k
          have hm := HI.out.w x1 hx1
          have eS : s.wr.isSome = true := by rw [hx1]; rfl
          obtain ⟨xk, rfl⟩ : ∃ z : Int, z = m1 := ⟨_, rfl⟩
          have HLim : Hid (x1.k ≤ W ∧ 0 ≤ xk ∧ xk = x1.k) := by show x1.k ≤ W ∧ 0 ≤ xk ∧ xk = x1.k; rw [← hWs]; omega
          obtain ⟨s1, hs1⟩ : ∃ s1, s = s1 := ⟨_, rfl⟩
          obtain ⟨Fx, hFx⟩ : ∃ Fx, F = Fx := ⟨_, rfl⟩
          have HW1 : Hid (s1.W = W) := by show s1.W = W; rw [← hs1]; exact hWs
          have HAx : Hid (AW wr gm br s1 m0 xk c Fx) := by show AW wr gm br s1 m0 xk c Fx; rw [← hs1, ← hFx]; exact HA.out
          have HI1 : Hid (∀ z, s1.rd = some z → m0 ≤ z.k ∧ (z.k : Int) ≤ m0 + 1) := by show ∀ z, s1.rd = some z → m0 ≤ z.k ∧ (z.k : Int) ≤ m0 + 1; rw [← hs1]; exact HI.out.r
          have HBx := Lib.hid HB.out
          have HFx : Hid (∀ q, Fx q → w.heap.size ≤ q) := by show ∀ q, Fx q → w.heap.size ≤ q; rw [← hFx]; exact HF.out
          have HBy := Lib.hid (wbusy_any HA.out.reg)
          rw [eS] at HBy
          rw [hs1] at hx1
          clear hkk hm eS hs1 hFx
          go_wp2_with fail
          refine HBy.out.mono ?_
          rintro e w' ⟨rfl, rfl⟩
          go_upto_region 17 with fail
          have K := wstep_k HAx.out.reg.ok hx1
          rw [HW1.out] at K
          obtain ⟨K1, K2, K4, K5, K3, K6⟩ := K
          have HK6 := Lib.hid (And.intro K4 (And.intro K5 K6))
          clear K4 K5 K6
          have bx : x1.k ≤ W ∧ 0 ≤ xk ∧ xk ≤ 6 := by have := HLim.out; omega
          obtain ⟨D, hD⟩ : ∃ D, wDone s1 = D := ⟨_, rfl⟩
          rw [hD] at K1 K3
          have tD : (xk + 1 == (W : Int) + 1) = D := by
            rw [K1]
            refine Bool.eq_iff_iff.2 ?_
            rw [beq_iff_eq, decide_eq_true_eq]
            have := HLim.out
            omega
          have tD' : (xk == (W : Int)) = D := by
            rw [K1]
            refine Bool.eq_iff_iff.2 ?_
            rw [beq_iff_eq, decide_eq_true_eq]
            have := HLim.out
            omega
          have HKD := Lib.hid (And.intro hD (And.intro K2 K3))
          clear K1 K2 K3 hD
          have kb := HAx.out.box.cell
          have fb := HAx.out.box.frozen
          go_wp2_with fail
          refine (wstep_any HAx.out.reg (by omega)).mono ?_
          rintro e w5 ⟨rfl, hr5, hO5⟩
          rw [HKD.out.1, HKD.out.2.1]
          clear kb fb
          have T5 := HAx.out.call hr5 (More.refl _ _) hO5
          have k5 := T5.1.box.cell
          have f5 := T5.1.box.frozen
          have T6 := T5.1.set_ (n0 := m0) (n1 := xk + 1) 1 (.int .i64 (xk + 1)) rfl
          have HA6 := Lib.hid T6.1
          have HB5 := below_only HBx.out T5.2 HFx.out HGM.out
          have HB6 := Lib.hid (below_only HB5 T6.2 HFx.out HGM.out)
          clear T5 T6 HB5 hr5 hO5
          go_upto_region 19 with fail
          obtain ⟨V6, hV6⟩ : ∃ V, w5.setCell ⟨gm, 1, none⟩ (.int .i64 (xk + 1)) = V := ⟨_, rfl⟩
          rw [hV6] at HA6 HB6 ⊢
          clear hV6 k5 f5
          have k6 := HA6.out.box.cell
          have HBu : Hid (Calls Tryd.prog 24 #[.pointer (some ⟨br, 0, none⟩), .bool true] V6 (BoolPost (!D) V6)) := by
            have := wbusy_any HA6.out.reg
            rw [HKD.out.2.2] at this
            exact this
          obtain ⟨ab', ao', eA, _, hc6⟩ := bvs_at (HR.out.below HB6.out) hu
          injection eA with eA
          injection eA with eA1 eA2
          subst eA1 eA2
          clear hu
          cases D with
          | true =>
            go_wp2_with fail
            refine HBu.out.mono ?_
            rintro e w' ⟨rfl, rfl⟩
            go_wp2_with fail
            go_roundw
            case rel =>
              refine ⟨k + 1, _, _, _, _, Fx, by go_num, by omega, by omega, HA6.out, HK6.out.1, ⟨?_, ?_⟩, by omega, by omega, by omega, by omega, by omega, HB6.out, HFx.out⟩
              · intro z hz; have := HK6.out.2.2 z hz; have := HLim.out; omega
              · intro z hz; rw [HK6.out.2.1] at hz; exact HI1.out z hz
            case measure => simp [intOf]; omega
          | false =>
            go_wp2_with fail
            refine HBu.out.mono ?_
            rintro e w' ⟨rfl, rfl⟩
            go_wp2_with fail
            go_roundw
            case rel =>
              refine ⟨k + 1, _, _, _, _, Fx, by go_num, by omega, by omega, HA6.out, HK6.out.1, ⟨?_, ?_⟩, by omega, by omega, by omega, by omega, by omega, HB6.out, HFx.out⟩
              · intro z hz; have := HK6.out.2.2 z hz; have := HLim.out; omega
              · intro z hz; rw [HK6.out.2.1] at hz; exact HI1.out z hz
            case measure => simp [intOf]; omega
      | false =>
        cases hx1 : s.rd with
        | none =>
          have eS : s.rd.isSome = false := by rw [hx1]; rfl
          have kb := HA.out.box.cell
          have fb := HA.out.box.frozen
          have T1 := HA.out.set_ (n0 := 0) (n1 := m1) 0 (.int .i64 0) rfl
          obtain ⟨V1, hV1⟩ : ∃ V, wr.setCell ⟨gm, 0, none⟩ (.int .i64 0) = V := ⟨_, rfl⟩
          rw [hV1] at T1
          have HA1 := Lib.hid T1.1
          have HB1 := Lib.hid (below_only HB.out T1.2 HF.out HGM.out)
          have HR1 := Lib.hid (HR.out.below HB1.out)
          obtain ⟨ab1, ao1, eA1, _, hc1⟩ := bvs_at HR1.out hu
          injection eA1 with eA1
          injection eA1 with eA11 eA12
          subst eA11 eA12
          have HBy := Lib.hid (rbusy_any HA.out.reg)
          rw [eS] at HBy
          clear T1 eS
          have eC : rCode s = 0 := by simp [rCode, hx1]
          have eB : rBegin s = { s with rd := some ⟨0, List.replicate s.W 0⟩ } := by simp [rBegin, hx1]
          have HX := Lib.hid (And.intro eC eB)
          have HWW : Hid (s.W = W) := hWs
          have HIr := Lib.hid HI.out.w
          clear eC eB hx1
          go_wp2_with fail
          refine HBy.out.mono ?_
          rintro e w' ⟨rfl, rfl⟩
          go_upto_region 14 with fail
          clear kb fb
          go_wp2_with fail
          refine (rread_any HA1.out.reg).mono ?_
          rintro e w4 ⟨rfl, hr4, hO4⟩
          rw [HX.out.2] at hr4
          have T4 := HA1.out.call hr4 (more_gr _ _) hO4
          have HAx := Lib.hid T4.1
          have HBx := Lib.hid (below_only HB1.out T4.2 HF.out HGM.out)
          have hs2 := HB1.out.size
          obtain ⟨Fx, hFx⟩ : ∃ Fx, Gr F V1.heap.size = Fx := ⟨_, rfl⟩
          have HFx : Hid (∀ q, Fx q → w.heap.size ≤ q) := by
            show ∀ q, Fx q → w.heap.size ≤ q
            rw [← hFx]
            exact low_more HF.out (more_gr _ _) hs2
          rw [hFx] at HAx
          clear hr4 hO4 T4 hFx hs2
          obtain ⟨s1, hs1⟩ : ∃ s1, ({ s with rd := some ⟨0, List.replicate s.W 0⟩ } : St) = s1 := ⟨_, rfl⟩
          obtain ⟨x1, hx0⟩ : ∃ x1 : Rr, (⟨0, List.replicate s.W 0⟩ : Rr) = x1 := ⟨_, rfl⟩
          have hx1 : s1.rd = some x1 := by rw [← hs1, ← hx0]
          have HW1 : Hid (s1.W = W) := by show s1.W = W; rw [← hs1]; exact HWW.out
          have HI1 : Hid (∀ z, s1.wr = some z → m1 = z.k) := by show ∀ z, s1.wr = some z → m1 = z.k; rw [← hs1]; exact HIr.out
          obtain ⟨xk, hxk'⟩ : ∃ z : Int, (0 : Int) = z := ⟨_, rfl⟩
          have hz1 : x1.k = 0 := by rw [← hx0]
          have HLim : Hid (x1.k ≤ 1 + W ∧ 0 ≤ xk ∧ xk ≤ x1.k ∧ (x1.k : Int) ≤ xk + 1) := by show x1.k ≤ 1 + W ∧ 0 ≤ xk ∧ xk ≤ x1.k ∧ (x1.k : Int) ≤ xk + 1; rw [hz1, ← hxk']; omega
          rw [hs1, hxk'] at HAx
          clear hs1 hx0 hxk' hz1 HA1
          obtain ⟨ab2, ao2, eA2, _, hc2⟩ := bvs_at (HR.out.below HBx.out) hu
          injection eA2 with eA2
          injection eA2 with eA21 eA22
          subst eA21 eA22
          have K := rstep_k HAx.out.reg.ok hx1
          rw [HW1.out] at K
          obtain ⟨K1, K2, K4, K5, K3, K6⟩ := K
          have HK6 := Lib.hid (And.intro K4 (And.intro K5 K6))
          clear K4 K5 K6
          have bx : x1.k ≤ 1 + W ∧ 0 ≤ xk ∧ xk ≤ x1.k ∧ (x1.k : Int) ≤ xk + 1 := by have := HLim.out; exact this
          obtain ⟨D, hD⟩ : ∃ D, rDone s1 = D := ⟨_, rfl⟩
          rw [hD] at K1 K3
          have tD : Hid ((D = true → (W : Int) ≤ xk) ∧ (D = false → xk ≤ (W : Int))) := by
            show (D = true → (W : Int) ≤ xk) ∧ (D = false → xk ≤ (W : Int))
            rw [K1]
            refine ⟨fun h => ?_, fun h => ?_⟩
            · have := of_decide_eq_true h; omega
            · have := of_decide_eq_false h; omega
          have HKD := Lib.hid (And.intro hD (And.intro K2 K3))
          clear K1 K2 K3 hD
          have kb := HAx.out.box.cell
          have fb := HAx.out.box.frozen
          go_wp2_with fail
          refine (rstep_any HAx.out.reg (by omega)).mono ?_
          rintro e w5 ⟨v5, rfl, _, hr5, hO5⟩
          rw [HKD.out.1, HKD.out.2.1]
          clear kb fb
          have T5 := HAx.out.call hr5 (More.refl _ _) hO5
          have k5 := T5.1.box.cell
          have f5 := T5.1.box.frozen
          have T6 := T5.1.set_ (n0 := xk + 1) (n1 := m1) 0 (.int .i64 (xk + 1)) rfl
          have HA6 := Lib.hid T6.1
          have HB5 := below_only HBx.out T5.2 HFx.out HGM.out
          have HB6 := Lib.hid (below_only HB5 T6.2 HFx.out HGM.out)
          clear T5 T6 HB5 hr5 hO5
          go_upto_region 19 with fail
          obtain ⟨V6, hV6⟩ : ∃ V, w5.setCell ⟨gm, 0, none⟩ (.int .i64 (xk + 1)) = V := ⟨_, rfl⟩
          rw [hV6] at HA6 HB6 ⊢
          clear hV6 k5 f5
          have k6 := HA6.out.box.cell
          have HBu : Hid (Calls Tryd.prog 24 #[.pointer (some ⟨br, 0, none⟩), .bool false] V6 (BoolPost (!D) V6)) := by
            have := rbusy_any HA6.out.reg
            rw [HKD.out.2.2] at this
            exact this
          obtain ⟨ab', ao', eA, _, hc6⟩ := bvs_at (HR.out.below HB6.out) hu
          injection eA with eA
          injection eA with eA1 eA2
          subst eA1 eA2
          clear hu
          cases D with
          | true =>
            have tE := tD.out.1 rfl
            go_wp2_with fail
            refine HBu.out.mono ?_
            rintro e w' ⟨rfl, rfl⟩
            go_wp2_with fail
            go_roundw
            case rel =>
              refine ⟨k + 1, _, _, _, _, Fx, by go_num, by omega, by omega, HA6.out, HK6.out.1, ⟨?_, ?_⟩, by omega, by omega, by omega, by omega, by omega, HB6.out, HFx.out⟩
              · intro z hz; rw [HK6.out.2.1] at hz; exact HI1.out z hz
              · intro z hz; have := HK6.out.2.2 z hz; omega
            case measure => simp [intOf]; omega
          | false =>
            have tE := tD.out.2 rfl
            go_wp2_with fail
            refine HBu.out.mono ?_
            rintro e w' ⟨rfl, rfl⟩
            go_wp2_with fail
            go_roundw
            case rel =>
              refine ⟨k + 1, _, _, _, _, Fx, by go_num, by omega, by omega, HA6.out, HK6.out.1, ⟨?_, ?_⟩, by omega, by omega, by omega, by omega, by omega, HB6.out, HFx.out⟩
              · intro z hz; rw [HK6.out.2.1] at hz; exact HI1.out z hz
              · intro z hz; have := HK6.out.2.2 z hz; omega
            case measure => simp [intOf]; omega
        | some x1 =>
          have hkk := (HA.out.reg.ok.rd x1 hx1).k
          have hm := HI.out.r x1 hx1
          have eS : s.rd.isSome = true := by rw [hx1]; rfl
          obtain ⟨xk, rfl⟩ : ∃ z : Int, z = m0 := ⟨_, rfl⟩
          have HLim : Hid (x1.k ≤ 1 + W ∧ 0 ≤ xk ∧ xk ≤ x1.k ∧ (x1.k : Int) ≤ xk + 1) := by show x1.k ≤ 1 + W ∧ 0 ≤ xk ∧ xk ≤ x1.k ∧ (x1.k : Int) ≤ xk + 1; rw [← hWs]; omega
          obtain ⟨s1, hs1⟩ : ∃ s1, s = s1 := ⟨_, rfl⟩
          obtain ⟨Fx, hFx⟩ : ∃ Fx, F = Fx := ⟨_, rfl⟩
          have HW1 : Hid (s1.W = W) := by show s1.W = W; rw [← hs1]; exact hWs
          have HAx : Hid (AW wr gm br s1 xk m1 c Fx) := by show AW wr gm br s1 xk m1 c Fx; rw [← hs1, ← hFx]; exact HA.out
          have HI1 : Hid (∀ z, s1.wr = some z → m1 = z.k) := by show ∀ z, s1.wr = some z → m1 = z.k; rw [← hs1]; exact HI.out.w
          have HBx := Lib.hid HB.out
          have HFx : Hid (∀ q, Fx q → w.heap.size ≤ q) := by show ∀ q, Fx q → w.heap.size ≤ q; rw [← hFx]; exact HF.out
          have HBy := Lib.hid (rbusy_any HA.out.reg)
          rw [eS] at HBy
          rw [hs1] at hx1
          clear hkk hm eS hs1 hFx
          go_wp2_with fail
          refine HBy.out.mono ?_
          rintro e w' ⟨rfl, rfl⟩
          go_upto_region 17 with fail
          have K := rstep_k HAx.out.reg.ok hx1
          rw [HW1.out] at K
          obtain ⟨K1, K2, K4, K5, K3, K6⟩ := K
          have HK6 := Lib.hid (And.intro K4 (And.intro K5 K6))
          clear K4 K5 K6
          have bx : x1.k ≤ 1 + W ∧ 0 ≤ xk ∧ xk ≤ x1.k ∧ (x1.k : Int) ≤ xk + 1 := by have := HLim.out; exact this
          obtain ⟨D, hD⟩ : ∃ D, rDone s1 = D := ⟨_, rfl⟩
          rw [hD] at K1 K3
          have tD : Hid ((D = true → (W : Int) ≤ xk) ∧ (D = false → xk ≤ (W : Int))) := by
            show (D = true → (W : Int) ≤ xk) ∧ (D = false → xk ≤ (W : Int))
            rw [K1]
            refine ⟨fun h => ?_, fun h => ?_⟩
            · have := of_decide_eq_true h; omega
            · have := of_decide_eq_false h; omega
          have HKD := Lib.hid (And.intro hD (And.intro K2 K3))
          clear K1 K2 K3 hD
          have kb := HAx.out.box.cell
          have fb := HAx.out.box.frozen
          go_wp2_with fail
          refine (rstep_any HAx.out.reg (by omega)).mono ?_
          rintro e w5 ⟨v5, rfl, _, hr5, hO5⟩
          rw [HKD.out.1, HKD.out.2.1]
          clear kb fb
          have T5 := HAx.out.call hr5 (More.refl _ _) hO5
          have k5 := T5.1.box.cell
          have f5 := T5.1.box.frozen
          have T6 := T5.1.set_ (n0 := xk + 1) (n1 := m1) 0 (.int .i64 (xk + 1)) rfl
          have HA6 := Lib.hid T6.1
          have HB5 := below_only HBx.out T5.2 HFx.out HGM.out
          have HB6 := Lib.hid (below_only HB5 T6.2 HFx.out HGM.out)
          clear T5 T6 HB5 hr5 hO5
          go_upto_region 19 with fail
          obtain ⟨V6, hV6⟩ : ∃ V, w5.setCell ⟨gm, 0, none⟩ (.int .i64 (xk + 1)) = V := ⟨_, rfl⟩
          rw [hV6] at HA6 HB6 ⊢
          clear hV6 k5 f5
          have k6 := HA6.out.box.cell
          have HBu : Hid (Calls Tryd.prog 24 #[.pointer (some ⟨br, 0, none⟩), .bool false] V6 (BoolPost (!D) V6)) := by
            have := rbusy_any HA6.out.reg
            rw [HKD.out.2.2] at this
            exact this
          obtain ⟨ab', ao', eA, _, hc6⟩ := bvs_at (HR.out.below HB6.out) hu
          injection eA with eA
          injection eA with eA1 eA2
          subst eA1 eA2
          clear hu
          cases D with
          | true =>
            have tE := tD.out.1 rfl
            go_wp2_with fail
            refine HBu.out.mono ?_
            rintro e w' ⟨rfl, rfl⟩
            go_wp2_with fail
            go_roundw
            case rel =>
              refine ⟨k + 1, _, _, _, _, Fx, by go_num, by omega, by omega, HA6.out, HK6.out.1, ⟨?_, ?_⟩, by omega, by omega, by omega, by omega, by omega, HB6.out, HFx.out⟩
              · intro z hz; rw [HK6.out.2.1] at hz; exact HI1.out z hz
              · intro z hz; have := HK6.out.2.2 z hz; omega
            case measure => simp [intOf]; omega
          | false =>
            have tE := tD.out.2 rfl
            go_wp2_with fail
            refine HBu.out.mono ?_
            rintro e w' ⟨rfl, rfl⟩
            go_wp2_with fail
            go_roundw
            case rel =>
              refine ⟨k + 1, _, _, _, _, Fx, by go_num, by omega, by omega, HA6.out, HK6.out.1, ⟨?_, ?_⟩, by omega, by omega, by omega, by omega, by omega, HB6.out, HFx.out⟩
              · intro z hz; rw [HK6.out.2.1] at hz; exact HI1.out z hz
              · intro z hz; have := HK6.out.2.2 z hz; omega
            case measure => simp [intOf]; omega
    · have hx : l.length ≤ k ∨ (k < l.length ∧ 200 ≤ k) := by omega
      clear hlt
      rcases hx with hx | ⟨hx1, hx2⟩
      · go_wp2_with fail
        go_ret
        exact ⟨congrArg (fun b => Ending.returned (.bool b)) (decide_eq_true (by omega)), HB.out⟩
      · go_wp2_with fail
        go_ret
        exact ⟨congrArg (fun b => Ending.returned (.bool b)) (decide_eq_true (by omega)), HB.out⟩
end Go.Proofs.YtdablfanmlmjkaaDoor.tripleAlone
