/- A register of four slots: all accesses of a write, as closures. -/
import Derived.Test.YthkpopphefolmaaDoorFStep3
import Derived.Deep.DeepCutAuto
import Derived.Deep.CutRange
import Derived.Deep.DeepMust
namespace Go.Proofs.YthkpopphefolmaaDoor.F4
open Go.RowKit Go.Proofs.YthkpopphefolmaaDoor.G Go.Proofs.YthkpopphefolmaaDoor.Cell
attribute [local go_sem ↓] Go.wp_at_zero Go.wp_at_succ
set_option maxRecDepth 100000
variable {w w' : World} {br bm gm rb pb qb : Nat} {wa : WA} {ra : RA} {s : St} {c : Int} {F : Nat → Prop} {x : Wr} {y : Rr}

theorem infoF : (Tryd.prog.info? 1).map (fun i => (i.zero, i.size, i.bytes)) = some (some .nilFunc, 1, 8) := by kernel_rfl
def wc1 (rb pb _qb : Nat) : Value := .func (.func 128) #[] #[P rb, P pb]
def wc2 (rb pb qb : Nat) : Value := .func (.func 130) #[] #[P rb, P pb, P qb]
def wc3 (rb pb qb : Nat) (p : Nat × Nat) : Value := .func (.func 131) #[] #[P rb, P pb, P qb, P p.1, P p.2]
def wc4 (rb pb qb : Nat) : Value := .func (.func 134) #[] #[P rb, P pb, P qb]
def wc5 (rb pb _qb : Nat) : Value := .func (.func 135) #[] #[P rb, P pb]
def wcl (rb pb qb : Nat) (ps : List (Nat × Nat)) : List Value := wc1 rb pb qb :: wc2 rb pb qb :: ps.map (wc3 rb pb qb)
theorem wcl_snoc (ps : List (Nat × Nat)) (p : Nat × Nat) : wcl rb pb qb ps ++ [wc3 rb pb qb p] = wcl rb pb qb (ps ++ [p]) := by simp [wcl]
def iv' (l : List Int) : List Value := l.map (Value.int .i64)
theorem iv'_at (l : List Int) {k : Nat} (h : k < l.length) : (iv' l)[k]? = some (.int .i64 (nth l k)) := by simp [iv', nth, h]
theorem row_at {A : Option Addr} {l : List Int} (h : Row w A (iv' l)) {k : Nat} (hk : k < l.length) : ∃ b o : Nat, A = some ⟨b, o, none⟩ ∧ b < w.heap.size ∧ w.cell? ⟨b, o + k, none⟩ = some (.int .i64 (nth l k)) := by
  obtain ⟨b, o, e, hb, hc⟩ := h (by simp [iv']; omega)
  exact ⟨b, o, e, hb, hc k _ (iv'_at l hk)⟩
/-- The variables of each word. -/
def PBs (B : Nat) (l : List Int) (ps : List (Nat × Nat)) (V : World) : Prop := ∀ (j : Nat) (p : Nat × Nat), ps[j]? = some p → B < p.1 ∧ B < p.2 ∧ Blk V p.1 3 #[.int .i64 j] ∧ Blk V p.2 3 #[.int .i64 (nth l j)]
structure WP (w : World) (br rb pb qb : Nat) (V : World) : Prop where
  lo : w.heap.size ≤ rb ∧ rb < pb ∧ pb < qb
  rb : Blk V rb 72 #[P br]
  pb : Blk V pb 3 #[.int .i64 0]
  qb : Blk V qb 3 #[.int .i64 0]
  bl : Below w.heap.size w V
theorem PBs.bel {B : Nat} {l : List Int} {ps : List (Nat × Nat)} {V V' : World} (h : PBs B l ps V) (hb : Below V.heap.size V V') : PBs B l ps V' := fun j p e => by
  obtain ⟨a, b, c, d⟩ := h j p e
  exact ⟨a, b, c.bel hb, d.bel hb⟩
theorem WP.bel {V V' : World} (h : WP w br rb pb qb V) (hb : Below V.heap.size V V') : WP w br rb pb qb V' := ⟨h.lo, h.rb.bel hb, h.pb.bel hb, h.qb.bel hb, bt h.bl hb⟩
theorem Blk.gro {V V' : World} {g : Nat} {t t' : TypeId} {cs : Array Value} {B m n : Nat} {v : Value} {xs : List Value} (h : Blk V g t cs) (ho : Own V B t' m v n xs) (hg : V.grownBy V' v.ownBlock) (ht : t ≠ t') : Blk V' g t cs := by
  refine (hg.block g h.lt fun e => ?_).trans h
  obtain ⟨_, cur, hcur⟩ := ho.block_lt e.symm
  exact h.ne_ hcur ht rfl
theorem PBs.gro {B B' : Nat} {l : List Int} {ps : List (Nat × Nat)} {V V' : World} {m n : Nat} {v : Value} {xs : List Value} (h : PBs B l ps V) (ho : Own V B' 1 m v n xs) (hg : V.grownBy V' v.ownBlock) : PBs B l ps V' := fun j p e => by
  obtain ⟨a, b, c, d⟩ := h j p e
  exact ⟨a, b, Blk.gro c ho hg (by decide), Blk.gro d ho hg (by decide)⟩
theorem WP.gro {V V' : World} {m n : Nat} {v : Value} {xs : List Value} (h : WP w br rb pb qb V) (ho : Own V w.heap.size 1 m v n xs) (hg : V.grownBy V' v.ownBlock) : WP w br rb pb qb V' :=
  ⟨h.lo, Blk.gro h.rb ho hg (by decide), Blk.gro h.pb ho hg (by decide), Blk.gro h.qb ho hg (by decide), h.bl.grown hg h.bl.size fun k hk => (ho.block_lt hk).1⟩
theorem PBs.snoc {B : Nat} {l : List Int} {ps : List (Nat × Nat)} {V : World} {k b1 b2 : Nat} (h : PBs B l ps V) (hk : ps.length = k) (h1 : B < b1) (h2 : B < b2) (c1 : Blk V b1 3 #[.int .i64 k]) (c2 : Blk V b2 3 #[.int .i64 (nth l k)]) : PBs B l (ps ++ [(b1, b2)]) V := fun j p e => by
  rw [List.getElem?_append] at e
  split at e
  · exact h j p e
  · rename_i hj
    have hjk : j = k := by
      by_cases h0 : j - ps.length = 0
      · omega
      · rw [List.getElem?_eq_none (by simp; omega)] at e; cases e
    subst hjk
    rw [hk, Nat.sub_self] at e
    obtain rfl := Option.some.inj e
    exact ⟨h1, h2, c1, c2⟩
def InvWA (w : World) (br rb pb qb : Nat) (l : List Int) (v i : Value) (V : World) : Prop := ∃ (k : Nat) (ps : List (Nat × Nat)), i = .int .i64 k ∧ k ≤ l.length ∧ ps.length = k ∧ Own V w.heap.size 1 1 v (2 + k) (wcl rb pb qb ps) ∧ PBs qb l ps V ∧ WP w br rb pb qb V
/-- What the row of a write's accesses is. -/
structure WMk (w : World) (br : Nat) (l : List Int) (V : World) (rb pb qb L cn : Nat) (ps : List (Nat × Nat)) : Prop where
  len : ps.length = l.length
  row : ∃ cs, Blk V L 1 cs ∧ ∀ (j : Nat) (u : Value), (wcl rb pb qb ps ++ [wc4 rb pb qb, wc5 rb pb qb])[j]? = some u → cs[j]? = some u
  hL : w.heap.size ≤ L
  cap : 4 + l.length ≤ cn
  cap2 : cn ≤ 9223372036854775807
  ps : PBs qb l ps V
  wp : WP w br rb pb qb V
def WMPost (w : World) (br : Nat) (l : List Int) (e : Ending) (w' : World) : Prop := ∃ rb pb qb L cap ps, e = .returned (.slice (some ⟨L, 0, none⟩) (4 + l.length) cap) ∧ WMk w br l w' rb pb qb L cap ps
set_option maxHeartbeats 4000000 in
theorem wacc_any {A : Option Addr} {cp : Nat} {l : List Int} (hr : Row w A (iv' l)) (hl : l.length ≤ 6) (hcp : l.length ≤ cp) (hcp2 : cp ≤ 9223372036854775807) :
    Calls Tryd.prog 101 #[P br, .slice A l.length cp] w (WMPost w br l) := by
  obtain ⟨i0, hi, hz0, hz1, hz2⟩ := info_parts infoF
  have hmf : ∀ (fn : Fn) (first cap : Array Value) (w : World), (Instr.makeFunc fn first cap).run Tryd.prog w = .ok (.func fn first cap) w := fun _ _ _ _ => rfl
  have HR := Lib.hid hr
  clear hr
  have B0 := (((Blk.new w 72 #[P br]).alloc (.cells #[.int .i64 0] 3)).alloc (.cells #[.int .i64 0] 3)).alloc (.cells #[wc1 w.heap.size (w.heap.size + 1) (w.heap.size + 1 + 1), wc2 w.heap.size (w.heap.size + 1) (w.heap.size + 1 + 1)] 1)
  have B1 := ((Blk.new_at (w := w.alloc (.cells #[P br] 72)) (n := w.heap.size + 1) (by simp) 3 #[.int .i64 0]).alloc (.cells #[.int .i64 0] 3)).alloc (.cells #[wc1 w.heap.size (w.heap.size + 1) (w.heap.size + 1 + 1), wc2 w.heap.size (w.heap.size + 1) (w.heap.size + 1 + 1)] 1)
  have B2 := (Blk.new_at (w := (w.alloc (.cells #[P br] 72)).alloc (.cells #[.int .i64 0] 3)) (n := w.heap.size + 1 + 1) (by simp) 3 #[.int .i64 0]).alloc (.cells #[wc1 w.heap.size (w.heap.size + 1) (w.heap.size + 1 + 1), wc2 w.heap.size (w.heap.size + 1) (w.heap.size + 1 + 1)] 1)
  have B3 := Blk.new_at (w := ((w.alloc (.cells #[P br] 72)).alloc (.cells #[.int .i64 0] 3)).alloc (.cells #[.int .i64 0] 3)) (n := w.heap.size + 1 + 1 + 1) (by simp) 1 #[wc1 w.heap.size (w.heap.size + 1) (w.heap.size + 1 + 1), wc2 w.heap.size (w.heap.size + 1) (w.heap.size + 1 + 1)]
  have HB := ba1 (ba1 (ba1 (b01 w (.cells #[P br] 72)) (.cells #[.int .i64 0] 3)) (.cells #[.int .i64 0] 3)) (.cells #[wc1 w.heap.size (w.heap.size + 1) (w.heap.size + 1 + 1), wc2 w.heap.size (w.heap.size + 1) (w.heap.size + 1 + 1)] 1)
  have HP : Hid (WP w br w.heap.size (w.heap.size + 1) (w.heap.size + 1 + 1) ((((w.alloc (.cells #[P br] 72)).alloc (.cells #[.int .i64 0] 3)).alloc (.cells #[.int .i64 0] 3)).alloc (.cells #[wc1 w.heap.size (w.heap.size + 1) (w.heap.size + 1 + 1), wc2 w.heap.size (w.heap.size + 1) (w.heap.size + 1 + 1)] 1))) := ⟨by omega, B0, B1, B2, HB⟩
  have HO : Hid (Own ((((w.alloc (.cells #[P br] 72)).alloc (.cells #[.int .i64 0] 3)).alloc (.cells #[.int .i64 0] 3)).alloc (.cells #[wc1 w.heap.size (w.heap.size + 1) (w.heap.size + 1 + 1), wc2 w.heap.size (w.heap.size + 1) (w.heap.size + 1 + 1)] 1)) w.heap.size 1 1 (.slice (some ⟨w.heap.size + 1 + 1 + 1, 0, none⟩) 2 2) 2 (wcl w.heap.size (w.heap.size + 1) (w.heap.size + 1 + 1) [])) :=
    ⟨rfl, .inr ⟨w.heap.size + 1 + 1 + 1, 2, #[wc1 w.heap.size (w.heap.size + 1) (w.heap.size + 1 + 1), wc2 w.heap.size (w.heap.size + 1) (w.heap.size + 1 + 1)], rfl, by omega, B3, by omega, by simp [maxLen], rfl, rfl⟩⟩
  clear B0 B1 B2 B3 HB
  unfold wc1 wc2 P at HP HO
  unfold P
  go_enter Tryd.func101, Tryd.ntmps101
  go_upto_region 3 with fail
  obtain ⟨b1, e1⟩ : ∃ b, w.heap.size + 1 = b := ⟨_, rfl⟩
  obtain ⟨b2, e2⟩ : ∃ b, w.heap.size + 1 + 1 = b := ⟨_, rfl⟩
  rw [e2, e1] at HP HO ⊢
  obtain ⟨b3, e3⟩ : ∃ b, b2 + 1 = b := ⟨_, rfl⟩
  rw [e3] at HO ⊢
  generalize (((w.alloc (.cells #[.pointer (some ⟨br, 0, none⟩)] 72)).alloc (.cells #[.int .i64 0] 3)).alloc (.cells #[.int .i64 0] 3)).alloc (.cells #[.func (.func 128) #[] #[.pointer (some ⟨w.heap.size, 0, none⟩), .pointer (some ⟨b1, 0, none⟩)], .func (.func 130) #[] #[.pointer (some ⟨w.heap.size, 0, none⟩), .pointer (some ⟨b1, 0, none⟩), .pointer (some ⟨b2, 0, none⟩)]] 1) = V0 at *
  clear e1 e2 e3
  go_wp2_with fail
  go_loopw [7, 15] (fun v i V => InvWA w br w.heap.size b1 b2 l v i V) (fun _ i _ => l.length - (intOf i).toNat)
  case atStart => exact ⟨0, [], rfl, by omega, rfl, HO.out, fun j p e => by simp at e, HP.out⟩
  case round =>
    obtain ⟨k, ps, rfl, hk, hps, ho, hpb, hwp⟩ := hrel
    by_cases hlt : k < l.length
    · obtain ⟨b, o, rfl, hb, hc⟩ := row_at (HR.out.below hwp.bl) hlt
      obtain ⟨A7, c7, rfl, _⟩ := ho.row
      have HO1 := Lib.hid ho
      have HP1 := Lib.hid hpb
      have HW1 := Lib.hid hwp
      clear ho hpb hwp HO HP
      have hqs := HW1.out.qb.lt
      have hsz := HW1.out.bl.size
      go_upto_region 6 with fail
      have N0 := ((Blk.new wr 3 #[.int .i64 (k : Int)]).alloc (.cells #[.int .i64 (nth l k)] 3)).alloc (.cells #[wc3 w.heap.size b1 b2 (wr.heap.size, wr.heap.size + 1)] 1)
      have N1 := (Blk.new_at (w := wr.alloc (.cells #[.int .i64 (k : Int)] 3)) (n := wr.heap.size + 1) (by simp) 3 #[.int .i64 (nth l k)]).alloc (.cells #[wc3 w.heap.size b1 b2 (wr.heap.size, wr.heap.size + 1)] 1)
      have N2 := Blk.new_at (w := (wr.alloc (.cells #[.int .i64 (k : Int)] 3)).alloc (.cells #[.int .i64 (nth l k)] 3)) (n := wr.heap.size + 1 + 1) (by simp) 1 #[wc3 w.heap.size b1 b2 (wr.heap.size, wr.heap.size + 1)]
      have hb3 := ba1 (ba1 (b01 wr (.cells #[.int .i64 (k : Int)] 3)) (.cells #[.int .i64 (nth l k)] 3)) (.cells #[wc3 w.heap.size b1 b2 (wr.heap.size, wr.heap.size + 1)] 1)
      have HO2 := Lib.hid (HO1.out.below hb3)
      have HP2 := Lib.hid ((HP1.out.bel hb3).snoc hps hqs (by omega) N0 N1)
      have HW2 := Lib.hid (HW1.out.bel hb3)
      have hs3 : w.heap.size ≤ (((wr.alloc (.cells #[.int .i64 (k : Int)] 3)).alloc (.cells #[.int .i64 (nth l k)] 3)).alloc (.cells #[wc3 w.heap.size b1 b2 (wr.heap.size, wr.heap.size + 1)] 1)).heap.size := Nat.le_trans hsz hb3.size
      have HRow : Hid (Row (((wr.alloc (.cells #[.int .i64 (k : Int)] 3)).alloc (.cells #[.int .i64 (nth l k)] 3)).alloc (.cells #[wc3 w.heap.size b1 b2 (wr.heap.size, wr.heap.size + 1)] 1)) (some ⟨wr.heap.size + 1 + 1, 0, none⟩) [wc3 w.heap.size b1 b2 (wr.heap.size, wr.heap.size + 1)]) := Row.of_blk N2 fun j u hj => by simpa using hj
      have HCo : Hid (∀ u ∈ [wc3 w.heap.size b1 b2 (wr.heap.size, wr.heap.size + 1)], u.oneCell' = true) := fun u hu => by
        obtain rfl := List.mem_singleton.1 hu; rfl
      clear N0 N1 N2 hb3 HO1 HP1 HW1
      have HCL : Hid (∀ v' w', Own w' w.heap.size 1 1 v' (2 + k + 1) (wcl w.heap.size b1 b2 ps ++ [wc3 w.heap.size b1 b2 (wr.heap.size, wr.heap.size + 1)]) → Own w' w.heap.size 1 1 v' (2 + (k + 1)) (wcl w.heap.size b1 b2 (ps ++ [(wr.heap.size, wr.heap.size + 1)]))) := fun v' w' h => by
        rw [wcl_snoc] at h; exact h
      unfold wc3 P at HO2 HP2 HW2 HRow HCo HCL hs3
      go_wp2_with (at_builtin; go_must (refine wpList_app Tryd.underlying156 hi hz0 hz1 hz2 rfl (by omega) rfl (.tmp 20) (.tmp 22) rfl w.heap.size (.slice A7 (2 + k) c7) (2 + k) (wcl w.heap.size b1 b2 ps) rfl HO2.out (some ⟨wr.heap.size + 1 + 1, 0, none⟩) 1 1 _ rfl HRow.out rfl HCo.out (by omega) (by omega) hs3 ?_); intro v' w5 ho5 hb5 hg5 hob5; clear hob5 hb5)
      go_roundw
      case rel => exact ⟨k + 1, ps ++ [(wr.heap.size, wr.heap.size + 1)], by go_num, by omega, by simp [hps], HCL.out _ _ ho5, HP2.out.gro HO2.out hg5, HW2.out.gro HO2.out hg5⟩
      case measure => simp [intOf]; omega
    · obtain rfl : k = l.length := by omega
      obtain ⟨A7, c7, rfl, _⟩ := ho.row
      have hqs := hwp.qb.lt
      have hsz := hwp.bl.size
      have N2 := Blk.new wr 1 #[wc4 w.heap.size b1 b2, wc5 w.heap.size b1 b2]
      have hb3 := b01 wr (.cells #[wc4 w.heap.size b1 b2, wc5 w.heap.size b1 b2] 1)
      have HO2 := Lib.hid (ho.below hb3)
      have HP2 := Lib.hid (hpb.bel hb3)
      have HW2 := Lib.hid (hwp.bel hb3)
      have hs3 : w.heap.size ≤ (wr.alloc (.cells #[wc4 w.heap.size b1 b2, wc5 w.heap.size b1 b2] 1)).heap.size := Nat.le_trans hsz hb3.size
      have HRow : Hid (Row (wr.alloc (.cells #[wc4 w.heap.size b1 b2, wc5 w.heap.size b1 b2] 1)) (some ⟨wr.heap.size, 0, none⟩) [wc4 w.heap.size b1 b2, wc5 w.heap.size b1 b2]) := Row.of_blk N2 fun j u hj => by simpa using hj
      have HCo : Hid (∀ u ∈ [wc4 w.heap.size b1 b2, wc5 w.heap.size b1 b2], u.oneCell' = true) := fun u hu => by
        simp only [List.mem_cons, List.not_mem_nil, or_false] at hu
        rcases hu with rfl | rfl <;> rfl
      have HEnd : Hid (∀ v' w', Own w' w.heap.size 1 1 v' (2 + l.length + 2) (wcl w.heap.size b1 b2 ps ++ [wc4 w.heap.size b1 b2, wc5 w.heap.size b1 b2]) → PBs b2 l ps w' → WP w br w.heap.size b1 b2 w' → WMPost w br l (.returned v') w') := fun v' w' h hp hw => by
        have hlen : (wcl w.heap.size b1 b2 ps ++ [wc4 w.heap.size b1 b2, wc5 w.heap.size b1 b2]).length = 2 + l.length + 2 := by simp [wcl, hps]; omega
        rcases h.2 with ⟨e, e0⟩ | ⟨g, cap, cur, e, hB, hh, hle, hm, hs, ht⟩
        · omega
        · unfold maxLen at hm
          refine ⟨_, _, _, g, cap, ps, ?_, hps, ⟨cur, hh, fun j u hj => ?_⟩, hB, by omega, by omega, hp, hw⟩
          · rw [e, show 2 + l.length + 2 = 4 + l.length by omega]
          · have hjl : j < 2 + l.length + 2 := by rw [← hlen]; exact (List.getElem?_eq_some_iff.1 hj).1
            rw [← ht, List.getElem?_take, if_pos (by omega)] at hj
            simpa using hj
      clear N2 hb3 ho hpb hwp HO HP
      unfold wc4 wc5 P at HO2 HP2 HW2 HRow HCo HEnd hs3
      go_wp2_with (at_builtin; go_must (refine wpList_app Tryd.underlying156 hi hz0 hz1 hz2 rfl (by omega) rfl (.tmp 25) (.tmp 28) rfl w.heap.size (.slice A7 (2 + l.length) c7) (2 + l.length) (wcl w.heap.size b1 b2 ps) rfl HO2.out (some ⟨wr.heap.size, 0, none⟩) 2 2 _ rfl HRow.out rfl HCo.out (by omega) (by omega) hs3 ?_); intro v' w5 ho5 hb5 hg5 hob5; clear hob5 hb5)
      go_ret
      exact HEnd.out _ _ ho5 (HP2.out.gro HO2.out hg5) (HW2.out.gro HO2.out hg5)
end Go.Proofs.YthkpopphefolmaaDoor.F4
