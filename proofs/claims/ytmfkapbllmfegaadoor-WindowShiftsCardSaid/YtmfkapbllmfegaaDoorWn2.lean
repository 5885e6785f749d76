/- package window's phases: the iterator through an owner's phases, and its helper ticks: contracts for whatever loop body that writes one block of its own. Condition: the library's variable errors.errorType holds what the program's text lays. -/
import Derived.Test.YtmfkapbllmfegaaDoorWn1
import Derived.RangeFuncNested
import Derived.RangeFuncBound
import Derived.RangeFuncCalls
import Derived.RangeFuncLeaves
import Derived.Shelf.Abstract
import Derived.Shelf.RegionOpen
import Derived.WalkKit
import Derived.OwnWalkIn
import Derived.TacticsInMore
import Derived.LoopNIn
import Derived.LoopIn
namespace Go.Proofs.YtmfkapbllmfegaaDoor.W13
open Go.RowKit Go.Shelf Go.Proofs.YtmfkapbllmfegaaDoor.G Go.Proofs.YtmfkapbllmfegaaDoor.C04 Go.Proofs.YtmfkapbllmfegaaDoor.Sat
attribute [local go_sem] Oper.semAt_some
set_option maxRecDepth 100000

/-- What a round keeps: what lay below n, and all cells but block b's. -/
structure Kp (n b : Nat) (A B : World) : Prop where
  bl : Below n A B
  ke : ∀ k o, k ≠ b → A.heap[k]? = some o → o.isCells = true → B.heap[k]? = some o
theorem Kp.refl (n b : Nat) (A : World) : Kp n b A A := ⟨Below.refl _ _, fun _ _ _ h _ => h⟩
theorem Kp.trans {n b : Nat} {A B C : World} (h : Kp n b A B) (k : Kp n b B C) : Kp n b A C := ⟨h.bl.trans k.bl, fun i o hi ho hc => k.ke i o hi (h.ke i o hi ho hc) hc⟩
theorem Kp.of_below {n b : Nat} {A B : World} (h : Below A.heap.size A B) (hn : n ≤ A.heap.size) : Kp n b A B := ⟨h.mono hn, fun k o _ hk _ => (h.block k (Array.getElem?_eq_some_iff.1 hk).1).trans hk⟩
theorem Kp.putObj {n b : Nat} (W : World) (l : Nat) (o o' : Obj) (hl : n ≤ l) (h : W.heap[l]? = some o) (hc : o.isCells = false) : Kp n b W (W.putObj l o') := by
  refine ⟨⟨rfl, rfl, rfl, by simp, fun k hk => World.putObj_heap_other (by omega)⟩, fun k u _ hk hu => ?_⟩
  by_cases e : k = l
  · subst e; rw [h] at hk; cases hk; rw [hc] at hu; cases hu
  · exact (World.putObj_heap_other e).trans hk
theorem Kp.setCell {n b : Nat} (W : World) (hb : n ≤ b) (i : Nat) (v : Value) : Kp n b W (W.setCell ⟨b, i, none⟩ v) :=
  ⟨(Below.refl n W).setCell (p := ⟨b, i, none⟩) hb v, fun k o hk ho _ => (Below.heap_setCell W ⟨b, i, none⟩ v k hk).trans ho⟩
theorem Kp.blk {n b g : Nat} {A B : World} {t : TypeId} {cs : Array Value} (h : Kp n b A B) (hk : Blk A g t cs) (hne : g ≠ b) : Blk B g t cs := h.ke g _ hne hk rfl
theorem abide {B : Nat} {J : List Int → World → Prop} (h : AbidesFrom B J) {s : List Int} {W W' : World} (hs : J s W) (hb : Below W.heap.size W W') : J s W' :=
  h s W W' none hs ⟨hb.os, hb.tape, hb.output, hb.size, fun k hk _ => hb.block k hk⟩ (fun r e => by cases e)
theorem anyDepth {m : Nat} (m' : Nat) {l : Nat} {args : Array Value} {W : World} {R : Ending → World → Prop} (h : YieldAt Fence.wide m Tryd.prog l args W R) : YieldAt Fence.wide m' Tryd.prog l args W R := by
  obtain ⟨fn, tmps, assign, body, hy, hR⟩ := h
  exact ⟨fn, tmps, assign, body, hy, hR.1, fun c cs _ => hR.2 c cs (room_wide _)⟩

/-! ### Plain -/
theorem tks_len (x : Win) : (tks x).length = x.l.toNat := by simp [tks]
theorem tks_succ (x : Win) (k : Nat) (h : (k : Int) < x.l) : (tks x).take (k + 1) = (tks x).take k ++ [x.s + (k : Int)] := by
  rw [List.take_add_one]
  congr 1
  simp only [tks]
  rw [List.getElem?_map, List.getElem?_range (by omega)]
  rfl
theorem phs_app (o : Int) : ∀ a b : List Win, phs o (a ++ b) = phs o a ++ phs o b
  | [], _ => rfl
  | x :: r, b => by show _ ++ phs o (r ++ b) = _; rw [phs_app o r b, ← List.append_assoc]; rfl
theorem phs_step {o : Int} {l : List Win} {k : Nat} {x : Win} (h : l[k]? = some x) : phs o (l.take (k + 1)) = phs o (l.take k) ++ (if x.o = o then tks x else []) := by
  rw [List.take_add_one, h, phs_app]
  show _ ++ (_ ++ []) = _
  rw [List.append_nil]
theorem phs_pre (o : Int) (l : List Win) (k : Nat) : phs o (l.take k) <+: phs o l := ⟨phs o (l.drop k), by rw [← phs_app, List.take_append_drop]⟩
def phV (c : Cfg) (o : Int) : List Int := if flt c = none then phs o c.ws else []

/-! ### ticks -/
def YP (l n b N : Nat) (J Jx : List Int → World → Prop) : Prop := ∀ (m : Nat) (pre : List Int) (x : Int) (W : World), J pre W → pre.length < N → YieldAt Fence.wide m Tryd.prog l #[.int .i64 x] W fun e W' =>
  (e = .returned (.bool true) ∧ J (pre ++ [x]) W' ∧ Kp n b W W') ∨ (e = .returned (.bool false) ∧ Jx (pre ++ [x]) W')
def TkPost (n b : Nat) (J Jx : List Int → World → Prop) (x : Win) (pre : List Int) (W : World) (e : Ending) (W' : World) : Prop :=
  (e = .returned (.bool true) ∧ J (pre ++ tks x) W' ∧ Kp n b W W') ∨ (e = .returned (.bool false) ∧ ∃ q, q <+: tks x ∧ Jx (pre ++ q) W')
set_option maxHeartbeats 2000000 in
theorem ticks_in (l n₀ b N B : Nat) (J Jx : List Int → World → Prop) (hJ : AbidesFrom B J) (hY : YP l n₀ b N J Jx) (x : Win) (h0 : 0 ≤ x.s) (h1 : 1 ≤ x.l) (h2 : x.s + x.l ≤ 64) (n : Nat) (pre : List Int) (W : World) (hj : J pre W) (hN : pre.length + x.l.toNat ≤ N) (hb : b < W.heap.size) (hn : n₀ ≤ W.heap.size) :
    CallsIn Fence.wide n Tryd.prog 47 #[.agg #[.int .i64 x.o, .int .i64 x.s, .int .i64 x.l], .func (.yield l) #[] #[]] W (TkPost n₀ b J Jx x pre W) := by
  have hdd : ∀ k : Nat, (Fence.wide.depth.isSome = true → 1 ≤ k) := fun k h => by cases h
  have B0 := Blk.new W 41 #[.int .i64 x.o, .int .i64 x.s, .int .i64 x.l]
  have hb0 := b01 W (.cells #[.int .i64 x.o, .int .i64 x.s, .int .i64 x.l] 41)
  have hj0 := abide hJ hj hb0
  have q0 := B0.cell
  refine callsIn_of_wp Tryd.func47 rfl trivial ?_ rfl
  simp only [Tryd.ntmps47, List.size_toArray, List.length_cons, List.length_nil, Nat.reduceAdd, Nat.reduceSub, Array.replicate_succ, Array.replicate_zero, List.push_toArray, List.append_toArray, List.nil_append, List.cons_append]
  gi_wp2
  gi_loopw [8] (fun i wr => ∃ k : Nat, i = .int .i64 k ∧ (k : Int) ≤ x.l ∧ J (pre ++ (tks x).take k) wr ∧ Kp n₀ b W wr ∧ Blk wr W.heap.size 41 #[.int .i64 x.o, .int .i64 x.s, .int .i64 x.l]) (fun i _ => x.l.toNat - (intOf i).toNat)
  case atStart => exact ⟨0, rfl, by omega, by simpa using hj0, Kp.of_below hb0 hn, B0⟩
  case round =>
    clear q0 B0 hb0 hj0
    obtain ⟨k, rfl, hk, hjk, hK, hB⟩ := hrel
    have q := hB.cell
    by_cases hlt : (k : Int) < x.l
    · obtain ⟨fn, tmps, assign, body, hy, hR⟩ := hY (n - 1) _ (x.s + (k : Int)) wr hjk (by rw [List.length_append, List.length_take, tks_len]; omega)
      have e2 := tks_succ x k hlt
      gi_wp2
      refine ⟨hdd _, ?_⟩
      refine hR.mono ?_
      rintro e W3 (⟨rfl, hJ3, hk3⟩ | ⟨rfl, hJx3⟩)
      · gi_wp2
        go_roundw
        case rel => exact ⟨k + 1, by go_num, by omega, by rw [e2, ← List.append_assoc]; exact hJ3, hK.trans hk3, hk3.blk hB (by omega)⟩
        case measure => simp [intOf]; omega
      · gi_wp2
        go_ret
        exact .inr ⟨rfl, (tks x).take (k + 1), List.take_prefix _ _, by rw [e2, ← List.append_assoc]; exact hJx3⟩
    · gi_wp2
      go_ret
      have e : (tks x).take k = tks x := List.take_of_length_le (by rw [tks_len]; omega)
      rw [e] at hjk
      exact .inl ⟨rfl, hjk, hK⟩

/-! ### phases -/
theorem rows_at {w : World} {c : Cfg} {A1 A2 A3 : Option Addr} {c1 c2 c3 : Nat} (h : CfgAt w (.agg #[.int .i64 c.P, .int .i64 c.F, .slice A1 c.ws.length c1, .slice A2 c.cs.length c2, .slice A3 c.ac.length c3]) c) : Row w A1 (wvs c.ws) ∧ Row w A2 (cvs c.cs) ∧ c.cs.length ≤ c2 ∧ c2 ≤ 9223372036854775807 := by
  obtain ⟨_, _, _, _, _, _, ea, h1, h2, _, _, _, h3, h4, _⟩ := h
  simp only [Value.agg.injEq, Array.mk.injEq, List.cons.injEq, Value.slice.injEq, true_and, and_true] at ea
  obtain ⟨⟨rfl, rfl⟩, ⟨rfl, rfl⟩, rfl, rfl⟩ := ea
  exact ⟨h1, h2, h3, h4⟩
/-- What the closure has captured, as it lies. -/
structure Cap (ws w : World) (c : Cfg) (o : Int) (A1 A2 A3 : Option Addr) (c1 c2 c3 Bc Bo : Nat) : Prop where
  et : Et ws
  at_ : CfgAt ws (.agg #[.int .i64 c.P, .int .i64 c.F, .slice A1 c.ws.length c1, .slice A2 c.cs.length c2, .slice A3 c.ac.length c3]) c
  bl : Below ws.heap.size ws w
  bc : Blk w Bc 26 #[.int .i64 c.P, .int .i64 c.F, .slice A1 c.ws.length c1, .slice A2 c.cs.length c2, .slice A3 c.ac.length c3]
  bo : Blk w Bo 3 #[.int .i64 o]
theorem Cap.bel {ws w w' : World} {c : Cfg} {o : Int} {A1 A2 A3 : Option Addr} {c1 c2 c3 Bc Bo : Nat} (h : Cap ws w c o A1 A2 A3 c1 c2 c3 Bc Bo) (hb : Below w.heap.size w w') : Cap ws w' c o A1 A2 A3 c1 c2 c3 Bc Bo :=
  ⟨h.et, h.at_, bt h.bl hb, h.bc.bel hb, h.bo.bel hb⟩
theorem Cap.kp {ws w w' : World} {b : Nat} {c : Cfg} {o : Int} {A1 A2 A3 : Option Addr} {c1 c2 c3 Bc Bo : Nat} (h : Cap ws w c o A1 A2 A3 c1 c2 c3 Bc Bo) (hb : Kp ws.heap.size b w w') (h1 : Bc ≠ b) (h2 : Bo ≠ b) : Cap ws w' c o A1 A2 A3 c1 c2 c3 Bc Bo :=
  ⟨h.et, h.at_, h.bl.trans hb.bl, hb.blk h.bc h1, hb.blk h.bo h2⟩
def PhPost (c : Cfg) (o : Int) (J Jx : List Int → World → Prop) (e : Ending) (W' : World) : Prop := (∃ v, e = .returned v) ∧ ((∃ xs, xs = phV c o ∧ J xs W') ∨ (∃ pre, pre <+: phV c o ∧ Jx pre W'))
set_option maxHeartbeats 4000000 in
theorem phases1_in {ws : World} {c : Cfg} {o : Int} {A1 A2 A3 : Option Addr} {c1 c2 c3 Bc Bo b : Nat} (l B : Nat) (J Jx : List Int → World → Prop) (hJ : AbidesFrom B J) (hY : YP l ws.heap.size b (phV c o).length J Jx) (n : Nat) (W : World) (hC : Cap ws W c o A1 A2 A3 c1 c2 c3 Bc Bo) (h1 : Bc ≠ b) (h2 : Bo ≠ b) (hb : b < W.heap.size) (h0 : J [] W) :
    CallsIn Fence.wide n Tryd.prog 46 #[.func (.yield l) #[] #[], .pointer (some ⟨Bc, 0, none⟩), .pointer (some ⟨Bo, 0, none⟩)] W (PhPost c o J Jx) := by
  have hdd : ∀ k : Nat, (Fence.wide.depth.isSome = true → 1 ≤ k) := fun k h => by cases h
  have HM := Lib.hid (maybe_any (hC.et.below hC.bl) (hC.at_.below hC.bl))
  have q0 := hC.bc.cell
  by_cases hf : flt c = none
  · have HV : Hid (phV c o = phs o c.ws) := by show phV c o = _; rw [phV, if_pos hf]
    have HD := Lib.hid (gd_of hf)
    have hF := (gd_of hf).f
    have hL := (gd_of hf).n
    rw [hf] at HM
    clear hf
    refine callsIn_of_wp Tryd.func46 rfl trivial ?_ rfl
    simp only [Tryd.ntmps46, List.size_toArray, List.length_cons, List.length_nil, Nat.reduceAdd, Nat.reduceSub, Array.replicate_succ, Array.replicate_zero, List.push_toArray, List.append_toArray, List.nil_append, List.cons_append]
    gi_wp2
    refine ⟨trivial, hdd _, ?_⟩
    refine (callsIn_wide.2 HM.out).mono ?_
    rintro e w1 ⟨rfl, hb1⟩
    have hC1 := hC.bel hb1
    have hj1 := abide hJ h0 hb1
    have hb1 : b < w1.heap.size := Nat.lt_of_lt_of_le hb hb1.size
    have HC1 := Lib.hid hC1
    clear q0 HM h0
    have q0 := hC1.bc.cell
    clear hC hC1
    gi_wp2
    gi_loopw [12] (fun i wr => ∃ k : Nat, i = .int .i64 k ∧ k ≤ c.ws.length ∧ J (phs o (c.ws.take k)) wr ∧ Cap ws wr c o A1 A2 A3 c1 c2 c3 Bc Bo ∧ b < wr.heap.size) (fun i _ => c.ws.length - (intOf i).toNat)
    case atStart => exact ⟨0, rfl, by omega, hj1, HC1.out, hb1⟩
    case round =>
      clear q0 hj1 HC1 hb1
      obtain ⟨k, rfl, hk, hjk, hC, hbk⟩ := hrel
      by_cases hlt : k < c.ws.length
      · obtain ⟨x, hx, _⟩ := drop_cons hlt
        have hr := (rows_at (hC.at_.below hC.bl)).1
        obtain ⟨b4, o4, rfl, hbl, g0, g1, g2⟩ := row_win hr hx
        obtain ⟨e1, e2, e3⟩ := ch_bd HD.out.ch (List.mem_of_getElem? hx)
        have hs := phs_step (o := o) hx
        have hb4 := b01 wr (.cells #[.int .i64 x.o, .int .i64 x.s, .int .i64 x.l] 41)
        have hC4 := hC.bel hb4
        have hj4 := abide hJ hjk hb4
        have Bw := Blk.new wr 41 #[.int .i64 x.o, .int .i64 x.s, .int .i64 x.l]
        have qw := Bw.cell
        have qo := hC4.bo.cell
        have hb4' : b < (wr.alloc (.cells #[.int .i64 x.o, .int .i64 x.s, .int .i64 x.l] 41)).heap.size := Nat.lt_of_lt_of_le hbk hb4.size
        clear hr hC
        by_cases ho : x.o = o
        · have te : (x.o == o) = true := by simp [ho]
          rw [if_pos ho] at hs
          have hN : (phs o (c.ws.take k)).length + x.l.toNat ≤ (phV c o).length := by
            have := (phs_pre o c.ws (k + 1)).length_le
            rw [hs, List.length_append, tks_len] at this
            rw [HV.out]; exact this
          have hT := ticks_in l ws.heap.size b _ B J Jx hJ hY x e1 e2 (by omega) (n - 1) _ _ hj4 hN hb4' hC4.bl.size
          clear ho
          gi_wp2
          refine ⟨trivial, hdd _, ?_⟩
          refine hT.mono ?_
          rintro e w5 (⟨rfl, hj5, hk5⟩ | ⟨rfl, q, hq, hx5⟩)
          · gi_wp2
            go_roundw
            case rel => exact ⟨k + 1, by go_num, by omega, by rw [hs]; exact hj5, hC4.kp hk5 h1 h2, Nat.lt_of_lt_of_le hb4' hk5.bl.size⟩
            case measure => simp [intOf]; omega
          · gi_wp2
            refine bodyPost_ret (results_none rfl _ _ _) rfl ?_
            refine ⟨⟨_, rfl⟩, .inr ⟨_, ?_, hx5⟩⟩
            rw [HV.out]
            refine List.IsPrefix.trans ?_ (phs_pre o c.ws (k + 1))
            rw [hs]
            exact (List.prefix_append_right_inj _).2 hq
        · have te : (x.o == o) = false := by simp [ho]
          rw [if_neg ho, List.append_nil] at hs
          clear ho
          gi_wp2
          refine ⟨trivial, ?_⟩
          gi_wp2
          go_roundw
          case rel => exact ⟨k + 1, by go_num, by omega, by rw [hs]; exact hj4, hC4, hb4'⟩
          case measure => simp [intOf]; omega
      · have hkl : c.ws.take k = c.ws := List.take_of_length_le (by omega)
        rw [hkl] at hjk
        gi_wp2
        go_end0
        exact ⟨⟨_, rfl⟩, .inl ⟨_, HV.out.symm, hjk⟩⟩
  · have HV : Hid (phV c o = []) := by show phV c o = []; rw [phV, if_neg hf]
    have hs : (flt c).isNone = false := by cases hq : flt c with
      | none => exact absurd hq hf
      | some _ => rfl
    rw [hs] at HM
    clear hf hs
    refine callsIn_of_wp Tryd.func46 rfl trivial ?_ rfl
    simp only [Tryd.ntmps46, List.size_toArray, List.length_cons, List.length_nil, Nat.reduceAdd, Nat.reduceSub, Array.replicate_succ, Array.replicate_zero, List.push_toArray, List.append_toArray, List.nil_append, List.cons_append]
    gi_wp2
    refine ⟨trivial, hdd _, ?_⟩
    refine (callsIn_wide.2 HM.out).mono ?_
    rintro e w1 ⟨rfl, hb1⟩
    have hj1 := abide hJ h0 hb1
    gi_wp2
    refine bodyPost_ret (results_none rfl _ _ _) rfl ?_
    exact ⟨⟨_, rfl⟩, .inl ⟨_, HV.out.symm, hj1⟩⟩
/-- The closure's value, for a range over it. -/
theorem phases_stops {ws w : World} {c : Cfg} {o : Int} {A1 A2 A3 : Option Addr} {c1 c2 c3 Bc Bo b : Nat} (n : Nat) (hC : Cap ws w c o A1 A2 A3 c1 c2 c3 Bc Bo) (h1 : Bc ≠ b) (h2 : Bo ≠ b) (hb : b < w.heap.size) :
    SeqStopsK Fence.wide n Tryd.prog 46 #[.pointer (some ⟨Bc, 0, none⟩), .pointer (some ⟨Bo, 0, none⟩)] (fun x : Int => #[Value.int .i64 x]) (Kp ws.heap.size b) (fun ys => ys = phV c o) (fun pre => pre <+: phV c o) (phV c o).length w := fun l J Jx W hW hJ _ hY h0 =>
  phases1_in l W.heap.size J Jx hJ (fun m pre x V hj hl => anyDepth m (hY pre x V hj hl)) n W (hC.bel hW) h1 h2 (Nat.lt_of_lt_of_le hb hW.size) h0
theorem phases_any (P F o : Int) (v1 v2 v3 : Value) (w : World) : Calls Tryd.prog 31 #[.agg #[.int .i64 P, .int .i64 F, v1, v2, v3], .int .i64 o] w fun e w' => e = .returned (.func (.func 46) #[] #[.pointer (some ⟨w.heap.size, 0, none⟩), .pointer (some ⟨w.heap.size + 1, 0, none⟩)]) ∧ w' = (w.alloc (.cells #[.int .i64 P, .int .i64 F, v1, v2, v3] 26)).alloc (.cells #[.int .i64 o] 3) := by
  go_enter Tryd.func31, Tryd.ntmps31
  go_wp2
  go_ret
  exact ⟨rfl, rfl⟩
end Go.Proofs.YtmfkapbllmfegaaDoor.W13
