/- Texts laid together: K0, K1, K2, KLive, KR. -/
import Derived.Test.YtmfkapbllmfegaaS1
import Derived.Deep.QuietTactic
import Derived.BigQuiet
import Derived.Deep.RegionHeld3
import Derived.StillTailTactics
import Derived.IntWalk
import Derived.Deep.CutRange
import Derived.Deep.DeepCutAuto
import Derived.LoopTactic
/- A bucket: as plain data (how many tokens, and which round, it has behind coming to a round), and as it lies in memory; what stays where it turns. -/
namespace Go.Proofs.Ytmfkapbllmfegaa.K11
open Go.RowKit Go.Proofs.Ytmfkapbllmfegaa.G Go.Proofs.Ytmfkapbllmfegaa.Sat
set_option maxRecDepth 100000

/-- How many it has, behind coming to the round r. -/
def ctok (R C T N r : Int) : Int := min (add T (mul R (sub r N))) C
/-- Its round behind that. -/
def crnd (N r : Int) : Int := max N (cut r)
structure Ok (R C T N : Int) : Prop where
  r0 : 0 ≤ R
  r1 : R ≤ 64
  c0 : 1 ≤ C
  c1 : C ≤ 64
  t0 : 0 ≤ T
  t1 : T ≤ C
  n0 : 0 ≤ N
  n1 : N ≤ 4611686018427387904
variable {R C T N r : Int}
theorem add_bd (a b : Int) : 0 ≤ add a b ∧ add a b ≤ 4611686018427387904 := cut_bd _
theorem Ok.come (h : Ok R C T N) (r : Int) : Ok R C (ctok R C T N r) (crnd N r) := by
  have h1 := add_bd T (mul R (sub r N))
  have h2 := cut_bd r
  obtain ⟨a, b, c, d, e, f, g, i⟩ := h
  refine ⟨a, b, c, d, ?_, ?_, ?_, ?_⟩
  · unfold ctok; omega
  · unfold ctok; omega
  · unfold crnd; omega
  · unfold crnd; omega
theorem Ok.take (h : Ok R C T N) (ht : T ≠ 0) : Ok R C (T - 1) N := by
  obtain ⟨a, b, c, d, e, f, g, i⟩ := h
  exact ⟨a, b, c, d, by omega, by omega, g, i⟩
theorem Ok.full (h : Ok R C T N) : Ok R C C N := by
  obtain ⟨a, b, c, d, e, f, g, i⟩ := h
  exact ⟨a, b, c, d, by omega, by omega, g, i⟩
/-- A round that is not above its own changes nothing. -/
theorem come_same (h : Ok R C T N) (hr : cut r ≤ N) : ctok R C T N r = T ∧ crnd N r = N := by
  obtain ⟨a, b, c, d, e, f, g, i⟩ := h
  have hs : sub r N = 0 := by unfold sub; rw [cut_id N g i]; exact cut_lo _ (by omega)
  have hm : mul R 0 = 0 := by unfold mul; rw [cut_id 0 (by decide) (by decide), Int.mul_zero]; rfl
  have ha : add T 0 = T := by unfold add; rw [cut_id T e (by omega), cut_id 0 (by decide) (by decide), Int.add_zero]; exact cut_id T e (by omega)
  unfold ctok crnd
  rw [hs, hm, ha]
  omega

/-- A call that only reads, inside a region that draws. -/
theorem quiet_left {P : Program} {f : FuncId} {args : Array Value} {w : World} {n : Nat} {v : Value}
    (h : Calls P f args (w.drewN n) fun e w' => e = .returned v ∧ w.drewN n = w') : Calls P f args (w.drewN n) fun e w'' => e = .returned v ∧ ∃ m, w'' = w.drewN m :=
  h.mono fun _ _ ⟨he, hm⟩ => ⟨he, n, hm.symm⟩
/-! ### In memory -/
structure Bk (w : World) (b : Nat) (R C T N : Int) : Prop where
  blk : Blk w b 96 #[.int .i64 R, .int .i64 C, .int .i64 T, .int .i64 N]
  ok : Ok R C T N
variable {w w' : World} {b : Nat}
theorem Bk.lt (h : Bk w b R C T N) : b < w.heap.size := h.blk.lt
theorem Bk.below (h : Bk w b R C T N) (hb : Below w.heap.size w w') : Bk w' b R C T N := ⟨h.blk.bel hb, h.ok⟩
theorem Bk.cells (h : Bk w b R C T N) : w.cell? ⟨b, 0, none⟩ = some (.int .i64 R) ∧ w.cell? ⟨b, 1, none⟩ = some (.int .i64 C) ∧ w.cell? ⟨b, 2, none⟩ = some (.int .i64 T) ∧ w.cell? ⟨b, 3, none⟩ = some (.int .i64 N) :=
  ⟨by rw [h.blk.cell]; rfl, by rw [h.blk.cell]; rfl, by rw [h.blk.cell]; rfl, by rw [h.blk.cell]; rfl⟩
theorem Bk.frozen (h : Bk w b R C T N) (i : Nat) : w.frozen? ⟨b, i, none⟩ = false := h.blk.frozen i
theorem Bk.tok (h : Bk w b R C T N) (t : Int) (ok : Ok R C t N) : Bk (w.setCell ⟨b, 2, none⟩ (.int .i64 t)) b R C t N := ⟨h.blk.set_ 2 (.int .i64 t), ok⟩
/-- Only the block b, and new ones, have turned. -/
structure Ob (b : Nat) (w w' : World) : Prop where
  os : w'.os = w.os
  tape : w'.tape = w.tape
  output : w'.output = w.output
  size : w.heap.size ≤ w'.heap.size
  block : ∀ k, k < w.heap.size → k ≠ b → w'.heap[k]? = w.heap[k]?
theorem Ob.refl (b : Nat) (w : World) : Ob b w w := ⟨rfl, rfl, rfl, Nat.le_refl _, fun _ _ _ => rfl⟩
theorem Ob.of (hb : Below w.heap.size w w') : Ob b w w' := ⟨hb.os, hb.tape, hb.output, hb.size, fun k hk _ => hb.block k hk⟩
theorem Ob.trans {x y z : World} (h : Ob b x y) (k : Ob b y z) : Ob b x z :=
  ⟨k.os.trans h.os, k.tape.trans h.tape, k.output.trans h.output, Nat.le_trans h.size k.size, fun i hi hn => (k.block i (Nat.lt_of_lt_of_le hi h.size) hn).trans (h.block i hi hn)⟩
theorem Ob.set_ {a : World} (h : Ob b a w) (i : Nat) (u : Value) : Ob b a (w.setCell ⟨b, i, none⟩ u) :=
  ⟨h.os, h.tape, h.output, by simpa [World.setCell] using h.size, fun k hk hn => (Below.heap_setCell w ⟨b, i, none⟩ u k hn).trans (h.block k hk hn)⟩
theorem Ob.drewN {a : World} (h : Ob b a w) (k : Nat) : Ob b a (w.drewN k) := ⟨h.os, h.tape, h.output, h.size, h.block⟩
theorem Ob.drew {a : World} (h : Ob b a w) : Ob b a w.drew := ⟨h.os, h.tape, h.output, h.size, h.block⟩
theorem Ob.to_below {B : Nat} {a : World} (h : Below B a w) (k : Ob b w w') (hB : B ≤ w.heap.size) (hb : B ≤ b) : Below B a w' :=
  h.trans ⟨k.os, k.tape, k.output, k.size, fun i hi => k.block i (by omega) (by omega)⟩
theorem Ob.blk {g : Nat} {ty : TypeId} {cs : Array Value} (h : Blk w g ty cs) (k : Ob b w w') (hn : g ≠ b) : Blk w' g ty cs := (k.block g h.lt hn).trans h
/-- A row that lies elsewhere. -/
theorem Ob.row {A : Option Addr} {xs : List Value} (h : Row w A xs) (k : Ob b w w') (hn : ∀ g o, A = some ⟨g, o, none⟩ → g ≠ b) : Row w' A xs := fun h0 => by
  obtain ⟨g, o, e, hg, hc⟩ := h h0
  refine ⟨g, o, e, Nat.lt_of_lt_of_le hg k.size, fun j u hj => ?_⟩
  have := hc j u hj
  unfold World.cell? at this ⊢
  rw [k.block g hg (hn g o e)]
  exact this
end Go.Proofs.Ytmfkapbllmfegaa.K11
/- A bucket: New, Most, and coming to a round: contracts. -/
namespace Go.Proofs.Ytmfkapbllmfegaa.K11
open Go.RowKit Go.Proofs.Ytmfkapbllmfegaa.G Go.Proofs.Ytmfkapbllmfegaa.Sat
set_option maxRecDepth 100000
variable {w w' : World} {b : Nat} {R C T N r : Int}
def rof (n : Int) : Int := min (max n 0) 64
def cof (n : Int) : Int := min (max n 1) 64
theorem rof_bd (n : Int) : 0 ≤ rof n ∧ rof n ≤ 64 := by unfold rof; omega
theorem cof_bd (n : Int) : 1 ≤ cof n ∧ cof n ≤ 64 := by unfold cof; omega
theorem rateOf_any (n : Int) (w : World) : Calls Try.prog 52 #[.int .i64 n] w fun e w' => e = .returned (.int .i64 (rof n)) ∧ w = w' := by
  obtain ⟨x, hx, hx'⟩ : ∃ x, rof n = x ∧ ((n < 0 ∧ x = 0) ∨ (0 ≤ n ∧ n ≤ 64 ∧ x = n) ∨ (0 ≤ n ∧ 64 < n ∧ x = 64)) := ⟨_, rfl, by unfold rof; omega⟩
  rw [hx]
  clear hx
  rcases hx' with ⟨h1, rfl⟩ | ⟨h1, h2, rfl⟩ | ⟨h1, h2, rfl⟩
  all_goals
    go_enter Try.func52, Try.ntmps52
    go_wp2
    go_ret
    exact ⟨rfl, rfl⟩
theorem capOf_any (n : Int) (w : World) : Calls Try.prog 53 #[.int .i64 n] w fun e w' => e = .returned (.int .i64 (cof n)) ∧ w = w' := by
  obtain ⟨x, hx, hx'⟩ : ∃ x, cof n = x ∧ ((n < 1 ∧ x = 1) ∨ (1 ≤ n ∧ n ≤ 64 ∧ x = n) ∨ (1 ≤ n ∧ 64 < n ∧ x = 64)) := ⟨_, rfl, by unfold cof; omega⟩
  rw [hx]
  clear hx
  rcases hx' with ⟨h1, rfl⟩ | ⟨h1, h2, rfl⟩ | ⟨h1, h2, rfl⟩
  all_goals
    go_enter Try.func53, Try.ntmps53
    go_wp2
    go_ret
    exact ⟨rfl, rfl⟩
theorem ok_new (r c : Int) : Ok (rof r) (cof c) (cof c) 0 := by
  have h1 := rof_bd r
  have h2 := cof_bd c
  exact ⟨h1.1, h1.2, h2.1, h2.2, by omega, by omega, by decide, by decide⟩
def NewPost (w : World) (R C : Int) (e : Ending) (w' : World) : Prop := ∃ b, e = .returned (.pointer (some ⟨b, 0, none⟩)) ∧ Bk w' b R C C 0 ∧ w.heap.size ≤ b ∧ Below w.heap.size w w'
theorem new_any (r c : Int) (w : World) : Calls Try.prog 27 #[.int .i64 r, .int .i64 c] w (NewPost w (rof r) (cof c)) := by
  have HO := Lib.hid (ok_new r c)
  have C1 := Lib.hid (rateOf_any r w)
  have C2 := Lib.hid (capOf_any c w)
  generalize rof r = R at *
  generalize cof c = C at *
  go_enter Try.func27, Try.ntmps27
  go_wp2_with (first | (go_at_call 52; refine C1.out.mono ?_; rintro e w' ⟨rfl, rfl⟩) | (go_at_call 53; refine C2.out.mono ?_; rintro e w' ⟨rfl, rfl⟩))
  go_ret
  exact ⟨_, rfl, ⟨Blk.new _ _ _, HO.out⟩, Nat.le_refl _, b01 _ _⟩
def CoPost (b : Nat) (R C T N : Int) (w : World) (e : Ending) (w' : World) : Prop := e = .returned (.tuple #[]) ∧ Bk w' b R C T N ∧ Ob b w w'
set_option maxHeartbeats 2000000 in
theorem come_any (h : Bk w b R C T N) (r : Int) : Calls Try.prog 70 #[.pointer (some ⟨b, 0, none⟩), .int .i64 r] w (CoPost b R C (ctok R C T N r) (crnd N r) w) := by
  have HK := Lib.hid (h.ok.come r)
  have HH := Lib.hid h
  obtain ⟨p0, p1, p2, p3⟩ := h.cells
  have fz := h.frozen
  unfold ctok crnd at HK ⊢
  generalize hX : cut r = X at *
  generalize hD : sub r N = D at *
  generalize hM : mul R D = M at *
  generalize hA : add T M = A at *
  have S1 := Lib.hid (fun V => sub_any r N V)
  have S2 := Lib.hid (fun V => mul_any R D V)
  have S3 := Lib.hid (fun V => add_any T M V)
  have S4 := Lib.hid (fun V => cut_any r V)
  rw [hD] at S1
  rw [hM] at S2
  rw [hA] at S3
  rw [hX] at S4
  clear hX hD hM hA h
  have hC := HK.out
  obtain ⟨Y, hY, hY'⟩ : ∃ Y, min A C = Y ∧ ((A ≤ C ∧ Y = A) ∨ (C < A ∧ Y = C)) := ⟨_, rfl, by omega⟩
  obtain ⟨Z, hZ, hZ'⟩ : ∃ Z, max N X = Z ∧ ((N < X ∧ Z = X) ∨ (X ≤ N ∧ Z = N)) := ⟨_, rfl, by omega⟩
  rw [hY, hZ] at HK hC ⊢
  have HY : Hid (Ok R C Y N) := ⟨hC.r0, hC.r1, hC.c0, hC.c1, hC.t0, hC.t1, HH.out.ok.n0, HH.out.ok.n1⟩
  clear hY hZ hC
  rcases hY' with ⟨h1, rfl⟩ | ⟨h1, rfl⟩
  all_goals
    rcases hZ' with ⟨h3, rfl⟩ | ⟨h3, rfl⟩
  all_goals
    go_enter Try.func70, Try.ntmps70
    go_wp2_with fail
    go_quiet (first | (go_at_call 75; exact quiet_left (S1.out _)) | (go_at_call 74; exact quiet_left (S2.out _)))
    have HH1 := Lib.hid (HH.out.below (bn (Below.refl _ _) nq))
    have HO1 : Hid (Ob b w (w.drewN nq)) := (Ob.refl b w).drewN nq
    generalize w.drewN nq = W at *
    clear p0 p1 p2 p3 fz
    obtain ⟨p0, p1, p2, p3⟩ := HH1.out.cells
    have fz := HH1.out.frozen
    go_upto_region 1 with fail
    go_still_tail 12, (by kernel_rfl)
    still_call ((S3.out _).mono fun e w' h => ⟨h.1, h.2.symm⟩)
    repeat still_step
    refine wpStill_nil ?_
    have B1 := (HH1.out.tok _ HY.out).below (Below.refl _ _).drew
    have O1 := (HO1.out.set_ 2 (.int .i64 Y)).drew
    go_upto_region 2 with fail
    generalize (W.setCell ⟨b, 2, none⟩ (.int .i64 Y)).drew = V at *
    have HB := Lib.hid (show Bk (V.setCell ⟨b, 3, none⟩ (.int .i64 Z)).drew b R _ Y Z from ⟨(B1.blk.set_ 3 (.int .i64 Z)).drewN 1, HK.out⟩)
    have HO : Hid (Ob b w (V.setCell ⟨b, 3, none⟩ (.int .i64 Z)).drew) := (O1.set_ 3 (.int .i64 Z)).drew
    clear p0 p1 p2 p3 fz
    obtain ⟨p0, p1, p2, p3⟩ := B1.cells
    have fz := B1.frozen
    clear B1 O1
    go_still_tail 8, (by kernel_rfl)
    still_call ((S4.out _).mono fun e w' h => ⟨h.1, h.2.symm⟩)
    repeat still_step
    refine wpStill_nil ?_
    go_wp2_with fail
    exact bodyPost_end (v := .tuple #[]) (by simp [results, Try.results70, go_sem]) rfl ⟨rfl, HB.out, HO.out⟩
end Go.Proofs.Ytmfkapbllmfegaa.K11
/- A bucket: Tokens, Take, Wait, Round, Rate, Cap, Reset, also of none: contracts. -/
namespace Go.Proofs.Ytmfkapbllmfegaa.K11
open Go.RowKit Go.Proofs.Ytmfkapbllmfegaa.G Go.Proofs.Ytmfkapbllmfegaa.Sat
set_option maxRecDepth 100000
variable {w w' : World} {b : Nat} {R C T N r : Int}
def IPost (b : Nat) (v R C T N : Int) (w : World) (e : Ending) (w' : World) : Prop := e = .returned (.int .i64 v) ∧ Bk w' b R C T N ∧ Ob b w w'
theorem tokens_any (h : Bk w b R C T N) (r : Int) : Calls Try.prog 48 #[.pointer (some ⟨b, 0, none⟩), .int .i64 r] w (IPost b (ctok R C T N r) R C (ctok R C T N r) (crnd N r) w) := by
  have H1 := Lib.hid (come_any h r)
  generalize ctok R C T N r = T1 at *
  generalize crnd N r = N1 at *
  clear h
  go_enter Try.func48, Try.ntmps48
  go_wp2_with fail
  refine H1.out.mono ?_
  rintro e w1 ⟨rfl, hb, ho⟩
  obtain ⟨p0, p1, p2, p3⟩ := hb.cells
  have HB := Lib.hid hb
  have HO := Lib.hid ho
  clear hb ho
  go_wp2_with fail
  go_ret
  exact ⟨rfl, HB.out, HO.out⟩
theorem tokens_nil (r : Int) (w : World) : Calls Try.prog 48 #[.pointer none, .int .i64 r] w fun e w' => e = .returned (.int .i64 0) ∧ w = w' := by
  go_enter Try.func48, Try.ntmps48
  go_wp2
  go_ret
  exact ⟨rfl, rfl⟩
/-- How many are left behind a Take. -/
def less (T : Int) : Int := if T = 0 then 0 else T - 1
theorem less_zero {T : Int} (h : T = 0) : less T = 0 := if_pos h
theorem less_pos {T : Int} (h : T ≠ 0) : less T = T - 1 := if_neg h
theorem Ok.less_ (h : Ok R C T N) : Ok R C (less T) N := by
  by_cases ht : T = 0
  · rw [less_zero ht, ← ht]; exact h
  · rw [less_pos ht]; exact h.take ht
def TPost (b : Nat) (v : Bool) (R C T N : Int) (w : World) (e : Ending) (w' : World) : Prop := e = .returned (.bool v) ∧ Bk w' b R C T N ∧ Ob b w w'
theorem take_any (h : Bk w b R C T N) (r : Int) : Calls Try.prog 38 #[.pointer (some ⟨b, 0, none⟩), .int .i64 r] w (TPost b (ctok R C T N r != 0) R C (less (ctok R C T N r)) (crnd N r) w) := by
  have H1 := Lib.hid (tokens_any h r)
  have HK := Lib.hid (h.ok.come r)
  generalize ctok R C T N r = T1 at *
  generalize crnd N r = N1 at *
  clear h
  by_cases h0 : T1 = 0
  · subst h0
    rw [less_zero rfl]
    go_enter Try.func38, Try.ntmps38
    go_wp2_with fail
    refine H1.out.mono ?_
    rintro e w1 ⟨rfl, hb, ho⟩
    have HB := Lib.hid hb
    have HO := Lib.hid ho
    clear hb ho
    go_wp2_with fail
    go_ret
    exact ⟨rfl, HB.out, HO.out⟩
  · have t0 : (T1 == 0) = false := by rw [beq_eq_false_iff_ne]; exact h0
    have HT : Hid ((T1 != 0) = true) := by show (T1 != 0) = true; rw [bne_iff_ne]; exact h0
    have HL : Hid (less T1 = T1 - 1) := less_pos h0
    have k1 := HK.out.t0
    have k2 := HK.out.t1
    have k3 := HK.out.c1
    have H2 := Lib.hid (HK.out.take h0)
    clear h0
    go_enter Try.func38, Try.ntmps38
    go_wp2_with fail
    refine H1.out.mono ?_
    rintro e w1 ⟨rfl, hb, ho⟩
    obtain ⟨p0, p1, p2, p3⟩ := hb.cells
    have fz := hb.frozen
    have HB : Hid (Bk (w1.setCell ⟨b, 2, none⟩ (.int .i64 (T1 - 1))) b R C (T1 - 1) N1) := hb.tok _ H2.out
    have HO : Hid (Ob b w (w1.setCell ⟨b, 2, none⟩ (.int .i64 (T1 - 1)))) := ho.set_ _ _
    clear hb ho
    go_wp2_with fail
    go_ret
    rw [HT.out, HL.out]
    exact ⟨rfl, HB.out, HO.out⟩
theorem take_nil (r : Int) (w : World) : Calls Try.prog 38 #[.pointer none, .int .i64 r] w fun e w' => e = .returned (.bool false) ∧ w = w' := by
  go_enter Try.func38, Try.ntmps38
  go_wp2_with (go_at_call 48; refine (tokens_nil _ _).mono ?_; rintro e w' ⟨rfl, rfl⟩)
  go_ret
  exact ⟨rfl, rfl⟩
/-- What Wait answers of a bucket in its round. -/
def wt (R T N : Int) : Int × Bool := if 0 < T then (N, true) else if R = 0 ∨ N = 4611686018427387904 then (0, false) else (N + 1, true)
theorem wt_has {R T N : Int} (h : 0 < T) : wt R T N = (N, true) := if_pos h
theorem wt_no {R T N : Int} (h : ¬ 0 < T) (h2 : R = 0 ∨ N = 4611686018427387904) : wt R T N = (0, false) := by unfold wt; rw [if_neg h, if_pos h2]
theorem wt_next {R T N : Int} (h : ¬ 0 < T) (h2 : ¬ (R = 0 ∨ N = 4611686018427387904)) : wt R T N = (N + 1, true) := by unfold wt; rw [if_neg h, if_neg h2]
def WPost (b : Nat) (v : Int × Bool) (R C T N : Int) (w : World) (e : Ending) (w' : World) : Prop := e = .returned (.tuple #[.int .i64 v.1, .bool v.2]) ∧ Bk w' b R C T N ∧ Ob b w w'
def RPost (b : Nat) (R C T N : Int) (w : World) (e : Ending) (w' : World) : Prop := e = .returned (.tuple #[]) ∧ Bk w' b R C T N ∧ Ob b w w'
end Go.Proofs.Ytmfkapbllmfegaa.K11
/- The first check of every statement of stage 11 ('lives'): the document's example. -/
namespace Go.Proofs.Ytmfkapbllmfegaa.K11
open Go.RowKit Go.Proofs.Ytmfkapbllmfegaa.G Go.Proofs.Ytmfkapbllmfegaa.Sat
set_option maxRecDepth 100000
variable {w w' : World} {b : Nat} {R C T N r : Int}
/-- A bucket of the call's own, behind all that was there. -/
structure Mine (w0 w : World) (b : Nat) (R C T N : Int) : Prop where
  bk : Bk w b R C T N
  ge : w0.heap.size ≤ b
  bl : Below w0.heap.size w0 w
variable {w0 : World}
theorem Mine.step {T' N' : Int} (h : Mine w0 w b R C T N) (hb : Bk w' b R C T' N') (ho : Ob b w w') : Mine w0 w' b R C T' N' := ⟨hb, h.ge, Ob.to_below h.bl ho h.bl.size h.ge⟩
theorem Mine.below (h : Mine w0 w b R C T N) (hb : Below w.heap.size w w') : Mine w0 w' b R C T N := ⟨h.bk.below hb, h.ge, bt h.bl hb⟩
theorem Mine.old {w00 : World} (h : Mine w0 w b R C T N) (hb : Below w00.heap.size w00 w0) : Mine w00 w b R C T N := ⟨h.bk, Nat.le_trans hb.size h.ge, bt hb h.bl⟩
def mt (k : Nat) : Nat := if k < 3 then k else 3
def m2 (k : Nat) : Nat := if k < 2 then k else 2
theorem lc1 (T : Int) (h0 : 0 ≤ T) (h1 : T ≤ 3) : ctok 2 3 T 0 0 = T ∧ crnd 0 0 = 0 := come_same ⟨by decide, by decide, by decide, by decide, h0, h1, by decide, by decide⟩ (by decide)
theorem lc2 (T : Int) (h0 : 0 ≤ T) (h1 : T ≤ 3) : ctok 2 3 T 1 1 = T ∧ crnd 1 1 = 1 := come_same ⟨by decide, by decide, by decide, by decide, h0, h1, by decide, by decide⟩ (by decide)
theorem lc3 (T : Int) (h0 : 0 ≤ T) (h1 : T ≤ 3) : ctok 2 3 T 1 1 = T ∧ crnd 1 1 = 1 := lc2 T h0 h1
def MPost (v : Value) (w0 : World) (b : Nat) (R C T N : Int) (e : Ending) (w' : World) : Prop := e = .returned v ∧ Mine w0 w' b R C T N
theorem take_m (h : Mine w0 w b R C T N) (r : Int) : Calls Try.prog 38 #[.pointer (some ⟨b, 0, none⟩), .int .i64 r] w (MPost (.bool (ctok R C T N r != 0)) w0 b R C (less (ctok R C T N r)) (crnd N r)) :=
  (take_any h.bk r).mono fun _ _ ⟨he, hb, ho⟩ => ⟨he, h.step hb ho⟩
theorem tokens_m (h : Mine w0 w b R C T N) (r : Int) : Calls Try.prog 48 #[.pointer (some ⟨b, 0, none⟩), .int .i64 r] w (MPost (.int .i64 (ctok R C T N r)) w0 b R C (ctok R C T N r) (crnd N r)) :=
  (tokens_any h.bk r).mono fun _ _ ⟨he, hb, ho⟩ => ⟨he, h.step hb ho⟩
def NmPost (w0 : World) (R C : Int) (e : Ending) (w' : World) : Prop := ∃ b, e = .returned (.pointer (some ⟨b, 0, none⟩)) ∧ Mine w0 w' b R C C 0
theorem new_m (r c : Int) (w : World) : Calls Try.prog 27 #[.int .i64 r, .int .i64 c] w (NmPost w (rof r) (cof c)) :=
  (new_any r c w).mono fun _ _ ⟨b, he, hb, hg, hB⟩ => ⟨b, he, hb, hg, hB⟩
/-! ### Plain facts -/
theorem full_tok (h : Ok R C C N) (r : Int) : ctok R C C N r = C := by
  have h1 := add_bd C (mul R (sub r N))
  have h2 : C ≤ add C (mul R (sub r N)) := by
    unfold add
    rw [cut_id C (by have := h.c0; omega) (by have := h.c1; omega)]
    have h3 := cut_bd (mul R (sub r N))
    have h4 := h.c1
    rcases Int.lt_or_le 4611686018427387904 (C + cut (mul R (sub r N))) with h5 | h5
    · rw [cut_hi _ (by omega)]; omega
    · rw [cut_id _ (by have := h.c0; omega) h5]; omega
  unfold ctok
  omega
/-- Behind a round that is d rounds ahead, not too far. -/
theorem tok_ahead (h : Ok R C T N) {r d : Int} (hr : r = N + d) (hd : 0 ≤ d) (hN : N + d ≤ 4611686018427387904) (hd2 : d ≤ 10000000000) : ctok R C T N r = min (T + d * R) C ∧ crnd N r = r := by
  subst hr
  obtain ⟨a, b, c, d', e, f, g, i⟩ := h
  have h1 : cut (N + d) = N + d := cut_id _ (by omega) hN
  have h2 : sub (N + d) N = d := by unfold sub; rw [h1, cut_id N g i, show N + d - N = d by omega]; exact cut_id d hd (by omega)
  have m0 : 0 ≤ R * d := Int.mul_nonneg a hd
  have m1 : R * d ≤ 64 * 10000000000 := Int.mul_le_mul b hd2 hd (by omega)
  have h3 : mul R d = d * R := by unfold mul; rw [cut_id R a (by omega), cut_id d hd (by omega), cut_id _ m0 (by omega), Int.mul_comm]
  have m2 : d * R = R * d := Int.mul_comm _ _
  have h4 : add T (d * R) = T + d * R := by unfold add; rw [cut_id T e (by omega), cut_id (d * R) (by omega) (by omega)]; exact cut_id _ (by omega) (by omega)
  unfold ctok crnd
  rw [h2, h3, h4, h1]
  exact ⟨rfl, by omega⟩
theorem ne_true {x : Int} (h : x ≠ 0) : (x != 0) = true := by rw [bne_iff_ne]; exact h
end Go.Proofs.Ytmfkapbllmfegaa.K11
/- The document's own bucket, by value: contracts. -/
namespace Go.Proofs.Ytmfkapbllmfegaa.K11
open Go.RowKit Go.Proofs.Ytmfkapbllmfegaa.G Go.Proofs.Ytmfkapbllmfegaa.Sat
set_option maxRecDepth 100000
variable {w w' : World} {b : Nat} {R C T N r : Int}
def rB (R C T N : Int) : Value := .agg #[.int .i64 R, .int .i64 C, .int .i64 T, .int .i64 N]
theorem rnew_any (r c : Int) (w : World) : Calls Try.prog 29 #[.int .i64 r, .int .i64 c] w fun e w' => e = .returned (rB (rof r) (cof c) (cof c) 0) ∧ Below w.heap.size w w' := by
  obtain ⟨x, hx, hx'⟩ : ∃ x, rof r = x ∧ ((r < 0 ∧ x = 0) ∨ (0 ≤ r ∧ r ≤ 64 ∧ x = r) ∨ (0 ≤ r ∧ 64 < r ∧ x = 64)) := ⟨_, rfl, by unfold rof; omega⟩
  obtain ⟨y, hy, hy'⟩ : ∃ y, cof c = y ∧ ((c < 1 ∧ y = 1) ∨ (1 ≤ c ∧ c ≤ 64 ∧ y = c) ∨ (1 ≤ c ∧ 64 < c ∧ y = 64)) := ⟨_, rfl, by unfold cof; omega⟩
  rw [hx, hy]
  clear hx hy
  unfold rB
  rcases hx' with ⟨h1, rfl⟩ | ⟨h1, h2, rfl⟩ | ⟨h1, h2, rfl⟩
  all_goals
    rcases hy' with ⟨h3, rfl⟩ | ⟨h3, h4, rfl⟩ | ⟨h3, h4, rfl⟩
  all_goals
    go_enter Try.func29, Try.ntmps29
    go_wp2_with fail
    refine bodyPost_ret (v := _) (by simp [results, Try.results29, go_sem]) rfl ⟨rfl, ?_⟩
    exact b01 _ _
/-- How many it has behind i rounds. -/
def tk (R C T i : Int) : Int := min (T + i * R) C
theorem tk_zero (h : Ok R C T N) : tk R C T 0 = T := by unfold tk; have := h.t1; omega
theorem tk_succ (h : Ok R C T N) (i : Int) : tk R C T (i + 1) = min (tk R C T i + R) C := by
  unfold tk
  rw [Int.add_mul, Int.one_mul]
  have := h.r0
  omega
theorem tk_bd (h : Ok R C T N) {i : Int} (hi : 0 ≤ i) : 0 ≤ tk R C T i ∧ tk R C T i ≤ C := by
  unfold tk
  have h1 : 0 ≤ i * R := Int.mul_nonneg hi h.r0
  have := h.t0
  have := h.c0
  omega
/-- Behind as many rounds as there are between, or 64: what coming to the round gives. -/
theorem tk_end (h : Ok R C T N) (r i : Int) (h0 : 0 ≤ i) (h64 : i ≤ 64) (hi : i = 0 ∨ N + i ≤ cut r) (he : i = 64 ∨ cut r ≤ N + i) : tk R C T i = ctok R C T N r := by
  have hr := cut_bd r
  obtain ⟨a, b, c, d, e, f, g, k⟩ := h
  have hN : cut N = N := cut_id N g k
  have hT : cut T = T := cut_id T e (by omega)
  have hR : cut R = R := cut_id R a (by omega)
  obtain ⟨D, hD⟩ : ∃ D, sub r N = D := ⟨_, rfl⟩
  have hD' : (cut r ≤ N ∧ D = 0) ∨ (N < cut r ∧ D = cut r - N) := by
    rw [← hD]; unfold sub; rw [hN]
    rcases Int.lt_or_le N (cut r) with h1 | h1
    · right; exact ⟨h1, cut_id _ (by omega) (by omega)⟩
    · left; exact ⟨h1, cut_lo _ (by omega)⟩
  have hDb : cut D = D := by rcases hD' with ⟨_, rfl⟩ | ⟨_, rfl⟩ <;> exact cut_id _ (by omega) (by omega)
  unfold ctok tk
  rw [hD]
  unfold add mul
  rw [hR, hDb, hT, cut_cut]
  by_cases hD0 : D = i
  · subst hD0
    have m0 : 0 ≤ D * R := Int.mul_nonneg h0 a
    have m1 : D * R ≤ 64 * 64 := Int.mul_le_mul h64 b a (by omega)
    rw [Int.mul_comm R D, cut_id (D * R) m0 (by omega), cut_id (T + D * R) (by omega) (by omega)]
  · have hi64 : i = 64 ∧ 64 < D := by rcases hD' with ⟨_, rfl⟩ | ⟨_, rfl⟩ <;> omega
    obtain ⟨rfl, hD64⟩ := hi64
    by_cases hR0 : R = 0
    · subst hR0
      rw [Int.zero_mul, Int.mul_zero, cut_id 0 (by omega) (by omega), Int.add_zero, hT]
    · have m1 : 64 * 1 ≤ D * R := Int.mul_le_mul (by omega) (by omega) (by omega) (by omega)
      rw [Int.mul_comm R D]
      have m2 : 64 ≤ cut (D * R) := by
        rcases Int.lt_or_le 4611686018427387904 (D * R) with h5 | h5
        · rw [cut_hi _ (by omega)]; omega
        · rw [cut_id _ (by omega) h5]; omega
      have m3 := (cut_bd (D * R)).2
      have m4 : 64 ≤ cut (T + cut (D * R)) := by
        rcases Int.lt_or_le 4611686018427387904 (T + cut (D * R)) with h5 | h5
        · rw [cut_hi _ (by omega)]; omega
        · rw [cut_id _ (by omega) h5]; omega
      omega
def RbPost (R C T N : Int) (w : World) (e : Ending) (w' : World) : Prop := e = .returned (rB R C T N) ∧ Below w.heap.size w w'
set_option maxHeartbeats 2000000 in
theorem rcome_any (h : Ok R C T N) (r : Int) (w : World) : Calls Try.prog 55 #[rB R C T N, .int .i64 r] w (RbPost R C (ctok R C T N r) (crnd N r) w) := by
  have HK := Lib.hid h
  have HX := Lib.hid (fun V => rcut_any r V)
  obtain ⟨X, hX⟩ : ∃ X, cut r = X := ⟨_, rfl⟩
  have hx0 := cut_bd r
  rw [hX] at HX hx0
  have HE : Hid (∀ i : Int, 0 ≤ i → i ≤ 64 → (i = 0 ∨ N + i ≤ X) → (i = 64 ∨ X ≤ N + i) → tk R C T i = ctok R C T N r) := fun i a b c d => tk_end h r i a b (by rw [hX]; exact c) (by rw [hX]; exact d)
  obtain ⟨Z, hZ⟩ : ∃ Z, crnd N r = Z := ⟨_, rfl⟩
  have hZ' : (N < X ∧ Z = X) ∨ (X ≤ N ∧ Z = N) := by have e : max N X = Z := (by rw [← hZ, ← hX]; rfl); omega
  obtain ⟨T1, hT1⟩ : ∃ T1, ctok R C T N r = T1 := ⟨_, rfl⟩
  rw [hT1] at HE
  rw [hZ, hT1]
  unfold rB
  have n0 := h.n0
  have n1 := h.n1
  have HN0 := Lib.hid ((Blk.new w 33 #[.int .i64 R, .int .i64 C, .int .i64 T, .int .i64 N]).alloc (.cells #[.int .i64 0, .int .i64 0, .int .i64 0, .int .i64 0] 33))
  have HN2 := Lib.hid (Blk.new_at (w := w.alloc (.cells #[.int .i64 R, .int .i64 C, .int .i64 T, .int .i64 N] 33)) (n := w.heap.size + 1) (by rw [World.size_alloc]) 33 #[.int .i64 0, .int .i64 0, .int .i64 0, .int .i64 0])
  have HB0 := Lib.hid (ba1 (b01 w (.cells #[.int .i64 R, .int .i64 C, .int .i64 T, .int .i64 N] 33)) (.cells #[.int .i64 0, .int .i64 0, .int .i64 0, .int .i64 0] 33))
  clear hX hZ hT1 h
  go_enter Try.func55, Try.ntmps55
  go_wp2_with (go_at_call 33; refine (HX.out _).mono ?_; rintro e w' ⟨rfl, rfl⟩)
  obtain ⟨kx, hkx⟩ : ∃ kx, w.heap.size = kx := ⟨_, rfl⟩
  have HKX : Hid (w.heap.size ≤ kx) := by show w.heap.size ≤ kx; omega
  rw [hkx] at HN0 HN2
  rw [hkx]
  clear hkx
  generalize (w.alloc (.cells #[.int .i64 R, .int .i64 C, .int .i64 T, .int .i64 N] 33)).alloc (.cells #[.int .i64 0, .int .i64 0, .int .i64 0, .int .i64 0] 33) = w1 at *
  go_loopw [6] (fun iv V => ∃ k : Nat, iv = .int .i64 k ∧ k ≤ 64 ∧ (k = 0 ∨ N + k ≤ X) ∧ Blk V kx 33 #[.int .i64 R, .int .i64 C, .int .i64 (tk R C T k), .int .i64 N] ∧ Blk V (kx + 1) 33 #[.int .i64 0, .int .i64 0, .int .i64 0, .int .i64 0] ∧ Below w.heap.size w V) (fun iv _ => 64 - (intOf iv).toNat)
  case atStart => exact ⟨0, rfl, by omega, .inl rfl, by rw [show ((0 : Nat) : Int) = 0 from rfl, tk_zero HK.out]; exact HN0.out, HN2.out, HB0.out⟩
  case round =>
    obtain ⟨k, rfl, hk, hkr, hb, hb2, hB⟩ := hrel
    have HB := Lib.hid hb
    have HBB := Lib.hid hB
    have HR := Lib.hid hkr
    have htb := tk_bd HK.out (show (0 : Int) ≤ k by omega)
    have HS := Lib.hid (tk_succ HK.out (k : Int))
    have e1 := HK.out.r1
    have e2 := HK.out.c1
    have e3 := HK.out.r0
    have HN3 := Lib.hid hb2
    have p0 := hb.cell 0
    have p1 := hb.cell 1
    have p2 := hb.cell 2
    have p3 := hb.cell 3
    simp only [List.getElem?_toArray, List.getElem?_cons_zero, List.getElem?_cons_succ] at p0 p1 p2 p3
    have fz := hb.frozen
    have q0 := hb2.cell 0
    have q1 := hb2.cell 1
    have q2 := hb2.cell 2
    have q3 := hb2.cell 3
    simp only [List.getElem?_toArray, List.getElem?_cons_zero, List.getElem?_cons_succ] at q0 q1 q2 q3
    have fq := hb2.frozen
    have HE2 := Lib.hid (HE.out (k : Int) (by omega) (by omega) (by have := HR.out; omega))
    generalize tk R C T (k : Int) = U at *
    obtain ⟨u0, u1⟩ := htb
    clear hb hb2 hB hkr
    by_cases hlt : (k : Int) < 64
    · by_cases hX : N + (k : Int) < X
      · obtain ⟨Y, hY, hY'⟩ : ∃ Y, min (U + R) C = Y ∧ ((U + R ≤ C ∧ Y = U + R) ∨ (C < U + R ∧ Y = C)) := ⟨_, rfl, by omega⟩
        rw [hY] at HS
        clear hY q0 q1 q2 q3 fq
        rcases hY' with ⟨h1, rfl⟩ | ⟨h1, rfl⟩
        all_goals
          go_wp2_with fail
          go_roundw
          case rel => exact ⟨k + 1, by go_num, by omega, .inr (by push_cast; omega), by rw [show ((k + 1 : Nat) : Int) = (k : Int) + 1 from rfl, HS.out]; exact HB.out.set_ 2 _, HN3.out.far (p := ⟨kx, 2, none⟩) (by show kx + 1 ≠ kx; omega) _, HBB.out.setCell (p := ⟨kx, 2, none⟩) HKX.out _⟩
          case measure => simp [intOf] <;> omega
      · have HU : U = T1 := HE2.out (.inr (by omega))
        subst HU
        rcases hZ' with ⟨h1, rfl⟩ | ⟨h1, rfl⟩
        all_goals
          go_wp2_with fail
          refine bodyPost_ret (v := .agg #[.int .i64 R, .int .i64 C, .int .i64 U, .int .i64 Z]) (by simp [results, Try.results55, go_sem, *]) rfl ⟨rfl, ?_⟩
          exact ((((HBB.out.setCell (p := ⟨kx, 3, none⟩) HKX.out _).setCell (p := ⟨kx + 1, 0, none⟩) (Nat.le_succ_of_le HKX.out) _).setCell (p := ⟨kx + 1, 1, none⟩) (Nat.le_succ_of_le HKX.out) _).setCell (p := ⟨kx + 1, 2, none⟩) (Nat.le_succ_of_le HKX.out) _).setCell (p := ⟨kx + 1, 3, none⟩) (Nat.le_succ_of_le HKX.out) _
    · have HU : U = T1 := HE2.out (.inl (by omega))
      subst HU
      rcases hZ' with ⟨h1, rfl⟩ | ⟨h1, rfl⟩
      all_goals
        go_wp2_with fail
        refine bodyPost_ret (v := .agg #[.int .i64 R, .int .i64 C, .int .i64 U, .int .i64 Z]) (by simp [results, Try.results55, go_sem, *]) rfl ⟨rfl, ?_⟩
        exact ((((HBB.out.setCell (p := ⟨kx, 3, none⟩) HKX.out _).setCell (p := ⟨kx + 1, 0, none⟩) (Nat.le_succ_of_le HKX.out) _).setCell (p := ⟨kx + 1, 1, none⟩) (Nat.le_succ_of_le HKX.out) _).setCell (p := ⟨kx + 1, 2, none⟩) (Nat.le_succ_of_le HKX.out) _).setCell (p := ⟨kx + 1, 3, none⟩) (Nat.le_succ_of_le HKX.out) _
theorem b4 {B g : Nat} {a w : World} (h : Below B a w) (hg : B ≤ g) (u0 u1 u2 u3 : Value) : Below B a ((((w.setCell ⟨g, 0, none⟩ u0).setCell ⟨g, 1, none⟩ u1).setCell ⟨g, 2, none⟩ u2).setCell ⟨g, 3, none⟩ u3) :=
  (((h.setCell (p := ⟨g, 0, none⟩) hg u0).setCell (p := ⟨g, 1, none⟩) hg u1).setCell (p := ⟨g, 2, none⟩) hg u2).setCell (p := ⟨g, 3, none⟩) hg u3
def RtPost (v : Bool) (R C T N : Int) (w : World) (e : Ending) (w' : World) : Prop := e = .returned (.tuple #[rB R C T N, .bool v]) ∧ Below w.heap.size w w'
set_option maxHeartbeats 400000 in
theorem rtake_any (h : Ok R C T N) (r : Int) (w : World) : Calls Try.prog 32 #[rB R C T N, .int .i64 r] w (RtPost (ctok R C T N r != 0) R C (less (ctok R C T N r)) (crnd N r) w) := by
  have H1 := Lib.hid (fun V => rcome_any h r V)
  have HK := Lib.hid (h.come r)
  generalize ctok R C T N r = T1 at *
  generalize crnd N r = N1 at *
  unfold rB
  have HN0 := Lib.hid ((Blk.new w 33 #[.int .i64 R, .int .i64 C, .int .i64 T, .int .i64 N]).alloc (.cells #[.int .i64 0, .int .i64 0, .int .i64 0, .int .i64 0] 33))
  have HN2 := Lib.hid (Blk.new_at (w := w.alloc (.cells #[.int .i64 R, .int .i64 C, .int .i64 T, .int .i64 N] 33)) (n := w.heap.size + 1) (by rw [World.size_alloc]) 33 #[.int .i64 0, .int .i64 0, .int .i64 0, .int .i64 0])
  have HB0 := Lib.hid (ba1 (b01 w (.cells #[.int .i64 R, .int .i64 C, .int .i64 T, .int .i64 N] 33)) (.cells #[.int .i64 0, .int .i64 0, .int .i64 0, .int .i64 0] 33))
  clear h
  obtain ⟨kx, hkx⟩ : ∃ kx, w.heap.size = kx := ⟨_, rfl⟩
  have HKX : Hid (w.heap.size ≤ kx) := by show w.heap.size ≤ kx; omega
  rw [hkx] at HN0 HN2
  by_cases h0 : T1 = 0
  · subst h0
    rw [less_zero rfl]
    go_enter Try.func32, Try.ntmps32
    go_wp2_with fail
    refine (H1.out _).mono ?_
    rintro e w1 ⟨rfl, hb1⟩
    have N1 := HN0.out.bel hb1
    have N2 := HN2.out.bel hb1
    have HB1 := Lib.hid (bt HB0.out hb1)
    clear hkx HN0 HN2 HB0 hb1
    have fz := N1.frozen
    have fq := N2.frozen
    have q0 := N2.cell 0
    have q1 := N2.cell 1
    have q2 := N2.cell 2
    have q3 := N2.cell 3
    have p0 := N1.cell 0
    have p1 := N1.cell 1
    have p2 := N1.cell 2
    have p3 := N1.cell 3
    simp only [List.getElem?_toArray, List.getElem?_cons_zero, List.getElem?_cons_succ] at q0 q1 q2 q3 p0 p1 p2 p3
    clear N1 N2
    unfold rB
    go_wp2_with fail
    refine bodyPost_ret (v := .tuple #[.agg #[.int .i64 R, .int .i64 C, .int .i64 0, .int .i64 N1], .bool false]) (by simp [results, Try.results32, go_sem, *]) rfl ⟨rfl, ?_⟩
    exact b4 (b4 HB1.out HKX.out _ _ _ _) (Nat.le_succ_of_le HKX.out) _ _ _ _
  · have t0 : (T1 == 0) = false := by rw [beq_eq_false_iff_ne]; exact h0
    have HT : Hid ((T1 != 0) = true) := by show (T1 != 0) = true; rw [bne_iff_ne]; exact h0
    have HL : Hid (less T1 = T1 - 1) := less_pos h0
    have k1 := HK.out.t0
    have k2 := HK.out.t1
    have k3 := HK.out.c1
    have hw : IntKind.i64.wrap (T1 - 1) = T1 - 1 := IntWalk.i64_in _ (by omega)
    clear h0
    go_enter Try.func32, Try.ntmps32
    go_wp2_with fail
    refine (H1.out _).mono ?_
    rintro e w1 ⟨rfl, hb1⟩
    have X1 := HN0.out.bel hb1
    have X2 := HN2.out.bel hb1
    have HB1 := Lib.hid (b4 (bt HB0.out hb1) HKX.out (.int .i64 R) (.int .i64 C) (.int .i64 T1) (.int .i64 N1))
    clear hkx HN0 HN2 HB0 hb1
    have HM1 : Hid (Blk ((((w1.setCell ⟨kx, 0, none⟩ (.int .i64 R)).setCell ⟨kx, 1, none⟩ (.int .i64 C)).setCell ⟨kx, 2, none⟩ (.int .i64 T1)).setCell ⟨kx, 3, none⟩ (.int .i64 N1)) kx 33 #[.int .i64 R, .int .i64 C, .int .i64 T1, .int .i64 N1]) := (((X1.set_ 0 _).set_ 1 _).set_ 2 _).set_ 3 _
    have hne : kx + 1 ≠ kx := by omega
    have HM2 : Hid (Blk ((((w1.setCell ⟨kx, 0, none⟩ (.int .i64 R)).setCell ⟨kx, 1, none⟩ (.int .i64 C)).setCell ⟨kx, 2, none⟩ (.int .i64 T1)).setCell ⟨kx, 3, none⟩ (.int .i64 N1)) (kx + 1) 33 #[.int .i64 0, .int .i64 0, .int .i64 0, .int .i64 0]) := (((X2.far (p := ⟨kx, 0, none⟩) hne _).far (p := ⟨kx, 1, none⟩) hne _).far (p := ⟨kx, 2, none⟩) hne _).far (p := ⟨kx, 3, none⟩) hne _
    have fz := X1.frozen
    have p0 := X1.cell 0
    have p1 := X1.cell 1
    have p2 := X1.cell 2
    have p3 := X1.cell 3
    simp only [List.getElem?_toArray, List.getElem?_cons_zero, List.getElem?_cons_succ] at p0 p1 p2 p3
    clear X1 X2 hne
    unfold rB
    go_upto_region 4 with fail
    have M1 := HM1
    have M2 := HM2
    generalize (((w1.setCell ⟨kx, 0, none⟩ (.int .i64 R)).setCell ⟨kx, 1, none⟩ (.int .i64 C)).setCell ⟨kx, 2, none⟩ (.int .i64 T1)).setCell ⟨kx, 3, none⟩ (.int .i64 N1) = W at *
    clear p0 p1 p2 p3 fz
    have fz := M1.out.frozen
    have fq := M2.out.frozen
    have q0 := M2.out.cell 0
    have q1 := M2.out.cell 1
    have q2 := M2.out.cell 2
    have q3 := M2.out.cell 3
    have p0 := M1.out.cell 0
    have p1 := M1.out.cell 1
    have p2 := M1.out.cell 2
    have p3 := M1.out.cell 3
    simp only [List.getElem?_toArray, List.getElem?_cons_zero, List.getElem?_cons_succ] at q0 q1 q2 q3 p0 p1 p2 p3
    go_wp2_with fail
    rw [HL.out, HT.out]
    refine bodyPost_ret (v := .tuple #[.agg #[.int .i64 R, .int .i64 C, .int .i64 (T1 - 1), .int .i64 N1], .bool true]) (by simp [results, Try.results32, go_sem, *]) rfl ⟨rfl, ?_⟩
    exact b4 (HB1.out.setCell (p := ⟨kx, 2, none⟩) HKX.out _) (Nat.le_succ_of_le HKX.out) _ _ _ _
def RwPost (v : Int × Bool) (w : World) (e : Ending) (w' : World) : Prop := e = .returned (.tuple #[.int .i64 v.1, .bool v.2]) ∧ Below w.heap.size w w'
end Go.Proofs.Ytmfkapbllmfegaa.K11
