/- A register of four slots: all accesses of a read, as closures. -/
import Derived.Test.YthkpopphefolmaaDoorFMake
namespace Go.Proofs.YthkpopphefolmaaDoor.F4
open Go.RowKit Go.Proofs.YthkpopphefolmaaDoor.G Go.Proofs.YthkpopphefolmaaDoor.Cell
attribute [local go_sem ↓] Go.wp_at_zero Go.wp_at_succ
set_option maxRecDepth 100000
variable {w w' : World} {br bm gm rb tb pb qb : Nat} {wa : WA} {ra : RA} {s : St} {c : Int} {F : Nat → Prop} {x : Wr} {y : Rr}

def rc1 (rb pb _qb : Nat) : Value := .func (.func 136) #[] #[P rb, P pb]
def rc2 (rb pb _qb : Nat) : Value := .func (.func 137) #[] #[P rb, P pb]
def rc3 (rb pb qb : Nat) : Value := .func (.func 138) #[] #[P rb, P pb, P qb]
def rc4 (rb pb qb tb p : Nat) : Value := .func (.func 139) #[] #[P rb, P pb, P qb, P p, P tb]
def rcl (rb pb qb tb : Nat) (ps : List Nat) : List Value := rc1 rb pb qb :: rc2 rb pb qb :: rc3 rb pb qb :: ps.map (rc4 rb pb qb tb)
theorem rcl_snoc (ps : List Nat) (p : Nat) : rcl rb pb qb tb ps ++ [rc4 rb pb qb tb p] = rcl rb pb qb tb (ps ++ [p]) := by simp [rcl]
/-- The variables of each word. -/
def RBs (B : Nat) (ps : List Nat) (V : World) : Prop := ∀ (j : Nat) (p : Nat), ps[j]? = some p → B < p ∧ Blk V p 3 #[.int .i64 j]
structure RP (w : World) (br : Nat) (T : Value) (rb tb pb qb : Nat) (V : World) : Prop where
  lo : w.heap.size ≤ rb ∧ rb < tb ∧ tb < pb ∧ pb < qb
  rb : Blk V rb 72 #[P br]
  tb : Blk V tb 26 #[T]
  pb : Blk V pb 3 #[.int .i64 0]
  qb : Blk V qb 3 #[.int .i64 0]
  bl : Below w.heap.size w V
theorem RBs.bel {B : Nat} {ps : List Nat} {V V' : World} (h : RBs B ps V) (hb : Below V.heap.size V V') : RBs B ps V' := fun j p e => by
  obtain ⟨a, c⟩ := h j p e
  exact ⟨a, c.bel hb⟩
theorem RP.bel {T : Value} {V V' : World} (h : RP w br T rb tb pb qb V) (hb : Below V.heap.size V V') : RP w br T rb tb pb qb V' := ⟨h.lo, h.rb.bel hb, h.tb.bel hb, h.pb.bel hb, h.qb.bel hb, bt h.bl hb⟩
theorem RBs.gro {B B' : Nat} {ps : List Nat} {V V' : World} {m n : Nat} {v : Value} {xs : List Value} (h : RBs B ps V) (ho : Own V B' 1 m v n xs) (hg : V.grownBy V' v.ownBlock) : RBs B ps V' := fun j p e => by
  obtain ⟨a, c⟩ := h j p e
  exact ⟨a, Blk.gro c ho hg (by decide)⟩
theorem RP.gro {T : Value} {V V' : World} {m n : Nat} {v : Value} {xs : List Value} (h : RP w br T rb tb pb qb V) (ho : Own V w.heap.size 1 m v n xs) (hg : V.grownBy V' v.ownBlock) : RP w br T rb tb pb qb V' :=
  ⟨h.lo, Blk.gro h.rb ho hg (by decide), Blk.gro h.tb ho hg (by decide), Blk.gro h.pb ho hg (by decide), Blk.gro h.qb ho hg (by decide), h.bl.grown hg h.bl.size fun k hk => (ho.block_lt hk).1⟩
theorem RBs.snoc {B : Nat} {ps : List Nat} {V : World} {k b1 : Nat} (h : RBs B ps V) (hk : ps.length = k) (h1 : B < b1) (c1 : Blk V b1 3 #[.int .i64 k]) : RBs B (ps ++ [b1]) V := fun j p e => by
  rw [List.getElem?_append] at e
  split at e
  · exact h j p e
  · rename_i hj
    have hjk : j = k := by
      by_cases h0 : j - ps.length = 0
      · omega
      · rw [List.getElem?_eq_none (by simp; omega)] at e; cases e
    subst hjk
    rw [hk, Nat.sub_self] at e
    obtain rfl := Option.some.inj e
    exact ⟨h1, c1⟩
def InvRA (w : World) (br : Nat) (T : Value) (rb tb pb qb n : Nat) (v i : Value) (V : World) : Prop := ∃ (k : Nat) (ps : List Nat), i = .int .i64 k ∧ k ≤ n ∧ ps.length = k ∧ Own V w.heap.size 1 1 v (3 + k) (rcl rb pb qb tb ps) ∧ RBs qb ps V ∧ RP w br T rb tb pb qb V
/-- What the row of a read's accesses is. -/
structure RMk (w : World) (br : Nat) (T : Value) (n : Nat) (V : World) (rb tb pb qb L cn : Nat) (ps : List Nat) : Prop where
  len : ps.length = n
  row : ∃ cs, Blk V L 1 cs ∧ ∀ (j : Nat) (u : Value), (rcl rb pb qb tb ps)[j]? = some u → cs[j]? = some u
  hL : w.heap.size ≤ L
  cap : 3 + n ≤ cn
  cap2 : cn ≤ 9223372036854775807
  ps : RBs qb ps V
  rp : RP w br T rb tb pb qb V
def RMPost (w : World) (br : Nat) (T : Value) (n : Nat) (e : Ending) (w' : World) : Prop := ∃ rb tb pb qb L cap ps, e = .returned (.slice (some ⟨L, 0, none⟩) (3 + n) cap) ∧ RMk w br T n w' rb tb pb qb L cap ps
set_option maxHeartbeats 4000000 in
theorem racc_any {tg n : Nat} (hl : n ≤ 6) :
    Calls Tryd.prog 102 #[P br, .slice (some ⟨tg, 0, none⟩) n n] w (RMPost w br (.slice (some ⟨tg, 0, none⟩) n n) n) := by
  obtain ⟨i0, hi, hz0, hz1, hz2⟩ := info_parts infoF
  have hmf : ∀ (fn : Fn) (first cap : Array Value) (w : World), (Instr.makeFunc fn first cap).run Tryd.prog w = .ok (.func fn first cap) w := fun _ _ _ _ => rfl
  obtain ⟨T, hT⟩ : ∃ T, Value.slice (some ⟨tg, 0, none⟩) n n = T := ⟨_, rfl⟩
  have e1 : ∃ b, w.heap.size + 1 = b := ⟨_, rfl⟩
  have B0 := ((((Blk.new w 72 #[P br]).alloc (.cells #[T] 26)).alloc (.cells #[.int .i64 0] 3)).alloc (.cells #[.int .i64 0] 3)).alloc (.cells #[rc1 w.heap.size (w.heap.size + 1 + 1) (w.heap.size + 1 + 1 + 1), rc2 w.heap.size (w.heap.size + 1 + 1) (w.heap.size + 1 + 1 + 1), rc3 w.heap.size (w.heap.size + 1 + 1) (w.heap.size + 1 + 1 + 1)] 1)
  have BT := (((Blk.new_at (w := w.alloc (.cells #[P br] 72)) (n := w.heap.size + 1) (by simp) 26 #[T]).alloc (.cells #[.int .i64 0] 3)).alloc (.cells #[.int .i64 0] 3)).alloc (.cells #[rc1 w.heap.size (w.heap.size + 1 + 1) (w.heap.size + 1 + 1 + 1), rc2 w.heap.size (w.heap.size + 1 + 1) (w.heap.size + 1 + 1 + 1), rc3 w.heap.size (w.heap.size + 1 + 1) (w.heap.size + 1 + 1 + 1)] 1)
  have B1 := ((Blk.new_at (w := (w.alloc (.cells #[P br] 72)).alloc (.cells #[T] 26)) (n := w.heap.size + 1 + 1) (by simp) 3 #[.int .i64 0]).alloc (.cells #[.int .i64 0] 3)).alloc (.cells #[rc1 w.heap.size (w.heap.size + 1 + 1) (w.heap.size + 1 + 1 + 1), rc2 w.heap.size (w.heap.size + 1 + 1) (w.heap.size + 1 + 1 + 1), rc3 w.heap.size (w.heap.size + 1 + 1) (w.heap.size + 1 + 1 + 1)] 1)
  have B2 := (Blk.new_at (w := ((w.alloc (.cells #[P br] 72)).alloc (.cells #[T] 26)).alloc (.cells #[.int .i64 0] 3)) (n := w.heap.size + 1 + 1 + 1) (by simp) 3 #[.int .i64 0]).alloc (.cells #[rc1 w.heap.size (w.heap.size + 1 + 1) (w.heap.size + 1 + 1 + 1), rc2 w.heap.size (w.heap.size + 1 + 1) (w.heap.size + 1 + 1 + 1), rc3 w.heap.size (w.heap.size + 1 + 1) (w.heap.size + 1 + 1 + 1)] 1)
  have B3 := Blk.new_at (w := (((w.alloc (.cells #[P br] 72)).alloc (.cells #[T] 26)).alloc (.cells #[.int .i64 0] 3)).alloc (.cells #[.int .i64 0] 3)) (n := w.heap.size + 1 + 1 + 1 + 1) (by simp) 1 #[rc1 w.heap.size (w.heap.size + 1 + 1) (w.heap.size + 1 + 1 + 1), rc2 w.heap.size (w.heap.size + 1 + 1) (w.heap.size + 1 + 1 + 1), rc3 w.heap.size (w.heap.size + 1 + 1) (w.heap.size + 1 + 1 + 1)]
  have HB := ba1 (ba1 (ba1 (ba1 (b01 w (.cells #[P br] 72)) (.cells #[T] 26)) (.cells #[.int .i64 0] 3)) (.cells #[.int .i64 0] 3)) (.cells #[rc1 w.heap.size (w.heap.size + 1 + 1) (w.heap.size + 1 + 1 + 1), rc2 w.heap.size (w.heap.size + 1 + 1) (w.heap.size + 1 + 1 + 1), rc3 w.heap.size (w.heap.size + 1 + 1) (w.heap.size + 1 + 1 + 1)] 1)
  have HP : Hid (RP w br T w.heap.size (w.heap.size + 1) (w.heap.size + 1 + 1) (w.heap.size + 1 + 1 + 1) (((((w.alloc (.cells #[P br] 72)).alloc (.cells #[T] 26)).alloc (.cells #[.int .i64 0] 3)).alloc (.cells #[.int .i64 0] 3)).alloc (.cells #[rc1 w.heap.size (w.heap.size + 1 + 1) (w.heap.size + 1 + 1 + 1), rc2 w.heap.size (w.heap.size + 1 + 1) (w.heap.size + 1 + 1 + 1), rc3 w.heap.size (w.heap.size + 1 + 1) (w.heap.size + 1 + 1 + 1)] 1))) := ⟨by omega, B0, BT, B1, B2, HB⟩
  have HO : Hid (Own (((((w.alloc (.cells #[P br] 72)).alloc (.cells #[T] 26)).alloc (.cells #[.int .i64 0] 3)).alloc (.cells #[.int .i64 0] 3)).alloc (.cells #[rc1 w.heap.size (w.heap.size + 1 + 1) (w.heap.size + 1 + 1 + 1), rc2 w.heap.size (w.heap.size + 1 + 1) (w.heap.size + 1 + 1 + 1), rc3 w.heap.size (w.heap.size + 1 + 1) (w.heap.size + 1 + 1 + 1)] 1)) w.heap.size 1 1 (.slice (some ⟨w.heap.size + 1 + 1 + 1 + 1, 0, none⟩) 3 3) 3 (rcl w.heap.size (w.heap.size + 1 + 1) (w.heap.size + 1 + 1 + 1) (w.heap.size + 1) [])) :=
    ⟨rfl, .inr ⟨w.heap.size + 1 + 1 + 1 + 1, 3, #[rc1 w.heap.size (w.heap.size + 1 + 1) (w.heap.size + 1 + 1 + 1), rc2 w.heap.size (w.heap.size + 1 + 1) (w.heap.size + 1 + 1 + 1), rc3 w.heap.size (w.heap.size + 1 + 1) (w.heap.size + 1 + 1 + 1)], rfl, by omega, B3, by omega, by simp [maxLen], rfl, rfl⟩⟩
  clear B0 B1 B2 B3 HB BT e1
  subst hT
  unfold rc1 rc2 rc3 P at HP HO
  unfold P
  go_enter Tryd.func102, Tryd.ntmps102
  go_upto_region 3 with fail
  obtain ⟨b1, e1⟩ : ∃ b, w.heap.size + 1 = b := ⟨_, rfl⟩
  rw [e1] at HP HO ⊢
  obtain ⟨b2, e2⟩ : ∃ b, b1 + 1 = b := ⟨_, rfl⟩
  rw [e2] at HP HO ⊢
  obtain ⟨b3, e3⟩ : ∃ b, b2 + 1 = b := ⟨_, rfl⟩
  rw [e3] at HP HO ⊢
  obtain ⟨b4, e4⟩ : ∃ b, b3 + 1 = b := ⟨_, rfl⟩
  rw [e4] at HO ⊢
  clear e1 e2 e3 e4
  generalize ((((w.alloc (.cells #[.pointer (some ⟨br, 0, none⟩)] 72)).alloc (.cells #[.slice (some ⟨tg, 0, none⟩) n n] 26)).alloc (.cells #[.int .i64 0] 3)).alloc (.cells #[.int .i64 0] 3)).alloc (.cells #[.func (.func 136) #[] #[.pointer (some ⟨w.heap.size, 0, none⟩), .pointer (some ⟨b2, 0, none⟩)], .func (.func 137) #[] #[.pointer (some ⟨w.heap.size, 0, none⟩), .pointer (some ⟨b2, 0, none⟩)], .func (.func 138) #[] #[.pointer (some ⟨w.heap.size, 0, none⟩), .pointer (some ⟨b2, 0, none⟩), .pointer (some ⟨b3, 0, none⟩)]] 1) = V0 at *
  have kt := HP.out.tb.cell
  have zt := HP.out.tb.lt
  go_wp2_with fail
  clear kt zt
  go_loopw [7, 15] (fun v i V => InvRA w br (.slice (some ⟨tg, 0, none⟩) n n) w.heap.size b1 b2 b3 n v i V) (fun _ i _ => n - (intOf i).toNat)
  case atStart => exact ⟨0, [], rfl, by omega, rfl, HO.out, fun j p e => by simp at e, HP.out⟩
  case round =>
    obtain ⟨k, ps, rfl, hk, hps, ho, hpb, hwp⟩ := hrel
    by_cases hlt : k < n
    · obtain ⟨A7, c7, rfl, _⟩ := ho.row
      have HO1 := Lib.hid ho
      have HP1 := Lib.hid hpb
      have HW1 := Lib.hid hwp
      clear ho hpb hwp HO HP
      have hqs := HW1.out.qb.lt
      have hsz := HW1.out.bl.size
      go_upto_region 6 with fail
      have N0 := (Blk.new wr 3 #[.int .i64 (k : Int)]).alloc (.cells #[rc4 w.heap.size b2 b3 b1 wr.heap.size] 1)
      have N2 := Blk.new_at (w := wr.alloc (.cells #[.int .i64 (k : Int)] 3)) (n := wr.heap.size + 1) (by simp) 1 #[rc4 w.heap.size b2 b3 b1 wr.heap.size]
      have hb3 := ba1 (b01 wr (.cells #[.int .i64 (k : Int)] 3)) (.cells #[rc4 w.heap.size b2 b3 b1 wr.heap.size] 1)
      have HO2 := Lib.hid (HO1.out.below hb3)
      have HP2 := Lib.hid ((HP1.out.bel hb3).snoc hps hqs N0)
      have HW2 := Lib.hid (HW1.out.bel hb3)
      have hs3 : w.heap.size ≤ ((wr.alloc (.cells #[.int .i64 (k : Int)] 3)).alloc (.cells #[rc4 w.heap.size b2 b3 b1 wr.heap.size] 1)).heap.size := Nat.le_trans hsz hb3.size
      have HRow : Hid (Row ((wr.alloc (.cells #[.int .i64 (k : Int)] 3)).alloc (.cells #[rc4 w.heap.size b2 b3 b1 wr.heap.size] 1)) (some ⟨wr.heap.size + 1, 0, none⟩) [rc4 w.heap.size b2 b3 b1 wr.heap.size]) := Row.of_blk N2 fun j u hj => by simpa using hj
      have HCo : Hid (∀ u ∈ [rc4 w.heap.size b2 b3 b1 wr.heap.size], u.oneCell' = true) := fun u hu => by
        obtain rfl := List.mem_singleton.1 hu; rfl
      clear N0 N2 hb3 HO1 HP1 HW1
      have HCL : Hid (∀ v' w', Own w' w.heap.size 1 1 v' (3 + k + 1) (rcl w.heap.size b2 b3 b1 ps ++ [rc4 w.heap.size b2 b3 b1 wr.heap.size]) → Own w' w.heap.size 1 1 v' (3 + (k + 1)) (rcl w.heap.size b2 b3 b1 (ps ++ [wr.heap.size]))) := fun v' w' h => by
        rw [rcl_snoc] at h; exact h
      unfold rc4 P at HO2 HP2 HW2 HRow HCo HCL hs3
      go_wp2_with (at_builtin; go_must (refine wpList_app Tryd.underlying156 hi hz0 hz1 hz2 rfl (by omega) rfl (.tmp 18) (.tmp 20) rfl w.heap.size (.slice A7 (3 + k) c7) (3 + k) (rcl w.heap.size b2 b3 b1 ps) rfl HO2.out (some ⟨wr.heap.size + 1, 0, none⟩) 1 1 _ rfl HRow.out rfl HCo.out (by omega) (by omega) hs3 ?_); intro v' w5 ho5 hb5 hg5 hob5; clear hob5 hb5)
      go_roundw
      case rel => exact ⟨k + 1, ps ++ [wr.heap.size], by go_num, by omega, by simp [hps], HCL.out _ _ ho5, HP2.out.gro HO2.out hg5, HW2.out.gro HO2.out hg5⟩
      case measure => simp [intOf]; omega
    · obtain rfl : k = n := by omega
      have HO9 := Lib.hid ho
      have HEnd : Hid (∀ v', Own wr w.heap.size 1 1 v' (3 + k) (rcl w.heap.size b2 b3 b1 ps) → RMPost w br (.slice (some ⟨tg, 0, none⟩) k k) k (.returned v') wr) := by
        intro v' ho
        rcases ho.2 with ⟨e, e0⟩ | ⟨g, cap, cur, e, hB, hh, hle, hm, hs, ht⟩
        · omega
        · unfold maxLen at hm
          have hlen : (rcl w.heap.size b2 b3 b1 ps).length = 3 + k := by simp [rcl, hps]; omega
          refine ⟨_, _, _, _, g, cap, ps, by rw [e], hps, ⟨cur, hh, fun j u hj => ?_⟩, hB, by omega, by omega, hpb, hwp⟩
          have hjl : j < 3 + k := by rw [← hlen]; exact (List.getElem?_eq_some_iff.1 hj).1
          rw [← ht, List.getElem?_take, if_pos (by omega)] at hj
          simpa using hj
      clear ho hpb hwp HO HP
      go_wp2_with fail
      go_ret
      exact HEnd.out _ HO9.out
end Go.Proofs.YthkpopphefolmaaDoor.F4
