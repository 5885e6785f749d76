/- Messages, compared: slices.Equal of words, two messages, two lists: contracts. Written by gen_qeq.py. -/
import Derived.Test.YtmfkapbllmfegaaIvRow
import Derived.Test.YtmfkapbllmfegaaQPut
namespace Go.Proofs.Ytmfkapbllmfegaa.C04
open Go.RowKit Go.Proofs.Ytmfkapbllmfegaa.G
end Go.Proofs.Ytmfkapbllmfegaa.C04
namespace Go.Proofs.Ytmfkapbllmfegaa.L10
open Go.RowKit Go.Proofs.Ytmfkapbllmfegaa.G Go.Sort
set_option maxRecDepth 100000
variable {w w' : World} {b L P : Nat} {r : Value} {d : List MV}
theorem iv_ivs (l : List Int) : iv l = C04.ivs l := rfl
def one (x y : MV) : Bool := decide (x.pl = y.pl)
theorem one_ws {x y : MV} (h : x.ws ≠ y.ws) : one x y = false := decide_eq_false fun e => h (congrArg Pm.ws e)
theorem one_ln {x y : MV} (h : x.ln ≠ y.ln) : one x y = false := decide_eq_false fun e => h (congrArg Pm.ln e)
theorem one_st {x y : MV} (h : x.st ≠ y.st) : one x y = false := decide_eq_false fun e => h (congrArg Pm.st e)
theorem one_lt {x y : MV} (h : x.lt ≠ y.lt) : one x y = false := decide_eq_false fun e => h (congrArg Pm.lt e)
theorem one_sq {x y : MV} (h : x.sq ≠ y.sq) : one x y = false := decide_eq_false fun e => h (congrArg Pm.sq e)
theorem one_yes {x y : MV} (h0 : x.ws = y.ws) (h1 : x.ln = y.ln) (h2 : x.st = y.st) (h3 : x.lt = y.lt) (h4 : x.sq = y.sq) : one x y = true := decide_eq_true (by unfold MV.pl; rw [h0, h1, h2, h3, h4])
theorem Gw.below (h : Gw w w') : Below w.heap.size w w' := by obtain ⟨q, os, rfl⟩ := h; exact below_grow w q os
def OnePost (z : Bool) (w : World) (e : Ending) (w' : World) : Prop := e = .returned (.bool z) ∧ Gw w w'
set_option maxHeartbeats 4000000 in
theorem one_any {x y : MV} (hx : Wr w x) (hy : Wr w y) : Calls Try.prog 13 #[x.val, y.val] w (OnePost (one x y) w) := by
  have h1 := (hx.below (b01 w (.cells #[.slice x.a x.ws.length x.c, .int .i64 x.ln, .int .i64 x.st, .int .i64 x.lt, .int .i64 x.sq] 43))).below (b01 _ (.cells #[.slice y.a y.ws.length y.c, .int .i64 y.ln, .int .i64 y.st, .int .i64 y.lt, .int .i64 y.sq] 43))
  have h2 := (hy.below (b01 w (.cells #[.slice x.a x.ws.length x.c, .int .i64 x.ln, .int .i64 x.st, .int .i64 x.lt, .int .i64 x.sq] 43))).below (b01 _ (.cells #[.slice y.a y.ws.length y.c, .int .i64 y.ln, .int .i64 y.st, .int .i64 y.lt, .int .i64 y.sq] 43))
  have C : Hid (Calls Try.prog 40 #[.slice x.a x.ws.length x.c, .slice y.a y.ws.length y.c] ((w.alloc (.cells #[.slice x.a x.ws.length x.c, .int .i64 x.ln, .int .i64 x.st, .int .i64 x.lt, .int .i64 x.sq] 43)).alloc (.cells #[.slice y.a y.ws.length y.c, .int .i64 y.ln, .int .i64 y.st, .int .i64 y.lt, .int .i64 y.sq] 43)) (C04.QPost (C04.eqb x.ws y.ws) ((w.alloc (.cells #[.slice x.a x.ws.length x.c, .int .i64 x.ln, .int .i64 x.st, .int .i64 x.lt, .int .i64 x.sq] 43)).alloc (.cells #[.slice y.a y.ws.length y.c, .int .i64 y.ln, .int .i64 y.st, .int .i64 y.lt, .int .i64 y.sq] 43)))) :=
    C04.rsame1_any h1.row h2.row (Nat.le_trans h1.le h1.top) (Nat.le_trans h2.le h2.top)
  have N0 := (Blk.new w 43 #[.slice x.a x.ws.length x.c, .int .i64 x.ln, .int .i64 x.st, .int .i64 x.lt, .int .i64 x.sq]).alloc (.cells #[.slice y.a y.ws.length y.c, .int .i64 y.ln, .int .i64 y.st, .int .i64 y.lt, .int .i64 y.sq] 43)
  have N1 := Blk.new (w.alloc (.cells #[.slice x.a x.ws.length x.c, .int .i64 x.ln, .int .i64 x.st, .int .i64 x.lt, .int .i64 x.sq] 43)) 43 #[.slice y.a y.ws.length y.c, .int .i64 y.ln, .int .i64 y.st, .int .i64 y.lt, .int .i64 y.sq]
  simp only [World.size_alloc] at N1
  have HN := Lib.hid (And.intro N0 N1)
  have HG : Hid (∀ q, Gw w (((w.alloc (.cells #[.slice x.a x.ws.length x.c, .int .i64 x.ln, .int .i64 x.st, .int .i64 x.lt, .int .i64 x.sq] 43)).alloc (.cells #[.slice y.a y.ws.length y.c, .int .i64 y.ln, .int .i64 y.st, .int .i64 y.lt, .int .i64 y.sq] 43)).drewN q)) := fun q => ⟨q, #[.cells #[.slice x.a x.ws.length x.c, .int .i64 x.ln, .int .i64 x.st, .int .i64 x.lt, .int .i64 x.sq] 43, .cells #[.slice y.a y.ws.length y.c, .int .i64 y.ln, .int .i64 y.st, .int .i64 y.lt, .int .i64 y.sq] 43], by rw [alloc_eq_grow, alloc_eq_grow, grow_grow]; rfl⟩
  clear hx hy h1 h2 N0 N1
  obtain ⟨z, hz⟩ : ∃ z, one x y = z := ⟨_, rfl⟩
  have HZ := Lib.hid hz
  rw [hz]
  clear hz
  unfold MV.val
  by_cases e0 : x.ws = y.ws
  case neg =>
    have ez : false = z := by rw [← HZ.out]; exact (one_ws e0).symm
    have c0 : C04.eqb x.ws y.ws = false := decide_eq_false e0
    rw [c0] at C
    subst ez
    clear HZ e0 c0 HN
    go_enter Try.func13, Try.ntmps13
    go_wp2_with fail
    refine C.out.mono ?_
    rintro e w1 ⟨rfl, q, rfl⟩
    go_wp2_with fail
    go_ret
    exact ⟨rfl, HG.out q⟩
  have c0 : C04.eqb x.ws y.ws = true := decide_eq_true e0
  rw [c0] at C
  clear c0
  by_cases e1 : x.ln = y.ln
  case neg =>
    have ez : false = z := by rw [← HZ.out]; exact (one_ln e1).symm
    subst ez
    have t1 : (x.ln == y.ln) = false := by rw [beq_eq_false_iff_ne]; exact e1
    clear HZ e0 e1
    go_enter Try.func13, Try.ntmps13
    go_wp2_with fail
    refine C.out.mono ?_
    rintro e w1 ⟨rfl, q, rfl⟩
    have p1 := (HN.out.1.drewN q).cell 1
    have q1 := (HN.out.2.drewN q).cell 1
    simp only [List.getElem?_toArray, List.getElem?_cons_zero, List.getElem?_cons_succ] at p1 q1
    go_wp2_with fail
    go_ret
    exact ⟨rfl, HG.out q⟩
  by_cases e2 : x.st = y.st
  case neg =>
    have ez : false = z := by rw [← HZ.out]; exact (one_st e2).symm
    subst ez
    have t1 : (x.ln == y.ln) = true := by rw [beq_iff_eq]; exact e1
    have t2 : (x.st == y.st) = false := by rw [beq_eq_false_iff_ne]; exact e2
    clear HZ e0 e1 e2
    go_enter Try.func13, Try.ntmps13
    go_wp2_with fail
    refine C.out.mono ?_
    rintro e w1 ⟨rfl, q, rfl⟩
    have p1 := (HN.out.1.drewN q).cell 1
    have q1 := (HN.out.2.drewN q).cell 1
    have p2 := (HN.out.1.drewN q).cell 2
    have q2 := (HN.out.2.drewN q).cell 2
    simp only [List.getElem?_toArray, List.getElem?_cons_zero, List.getElem?_cons_succ] at p1 q1 p2 q2
    go_wp2_with fail
    go_ret
    exact ⟨rfl, HG.out q⟩
  by_cases e3 : x.lt = y.lt
  case neg =>
    have ez : false = z := by rw [← HZ.out]; exact (one_lt e3).symm
    subst ez
    have t1 : (x.ln == y.ln) = true := by rw [beq_iff_eq]; exact e1
    have t2 : (x.st == y.st) = true := by rw [beq_iff_eq]; exact e2
    have t3 : (x.lt == y.lt) = false := by rw [beq_eq_false_iff_ne]; exact e3
    clear HZ e0 e1 e2 e3
    go_enter Try.func13, Try.ntmps13
    go_wp2_with fail
    refine C.out.mono ?_
    rintro e w1 ⟨rfl, q, rfl⟩
    have p1 := (HN.out.1.drewN q).cell 1
    have q1 := (HN.out.2.drewN q).cell 1
    have p2 := (HN.out.1.drewN q).cell 2
    have q2 := (HN.out.2.drewN q).cell 2
    have p3 := (HN.out.1.drewN q).cell 3
    have q3 := (HN.out.2.drewN q).cell 3
    simp only [List.getElem?_toArray, List.getElem?_cons_zero, List.getElem?_cons_succ] at p1 q1 p2 q2 p3 q3
    go_wp2_with fail
    go_ret
    exact ⟨rfl, HG.out q⟩
  by_cases e4 : x.sq = y.sq
  case neg =>
    have ez : false = z := by rw [← HZ.out]; exact (one_sq e4).symm
    subst ez
    have t1 : (x.ln == y.ln) = true := by rw [beq_iff_eq]; exact e1
    have t2 : (x.st == y.st) = true := by rw [beq_iff_eq]; exact e2
    have t3 : (x.lt == y.lt) = true := by rw [beq_iff_eq]; exact e3
    have t4 : (x.sq == y.sq) = false := by rw [beq_eq_false_iff_ne]; exact e4
    clear HZ e0 e1 e2 e3 e4
    go_enter Try.func13, Try.ntmps13
    go_wp2_with fail
    refine C.out.mono ?_
    rintro e w1 ⟨rfl, q, rfl⟩
    have p1 := (HN.out.1.drewN q).cell 1
    have q1 := (HN.out.2.drewN q).cell 1
    have p2 := (HN.out.1.drewN q).cell 2
    have q2 := (HN.out.2.drewN q).cell 2
    have p3 := (HN.out.1.drewN q).cell 3
    have q3 := (HN.out.2.drewN q).cell 3
    have p4 := (HN.out.1.drewN q).cell 4
    have q4 := (HN.out.2.drewN q).cell 4
    simp only [List.getElem?_toArray, List.getElem?_cons_zero, List.getElem?_cons_succ] at p1 q1 p2 q2 p3 q3 p4 q4
    go_wp2_with fail
    go_ret
    exact ⟨rfl, HG.out q⟩
  have ez : true = z := by rw [← HZ.out]; exact (one_yes e0 e1 e2 e3 e4).symm
  subst ez
  have t1 : (x.ln == y.ln) = true := by rw [beq_iff_eq]; exact e1
  have t2 : (x.st == y.st) = true := by rw [beq_iff_eq]; exact e2
  have t3 : (x.lt == y.lt) = true := by rw [beq_iff_eq]; exact e3
  have t4 : (x.sq == y.sq) = true := by rw [beq_iff_eq]; exact e4
  clear HZ e0 e1 e2 e3 e4
  go_enter Try.func13, Try.ntmps13
  go_wp2_with fail
  refine C.out.mono ?_
  rintro e w1 ⟨rfl, q, rfl⟩
  have p1 := (HN.out.1.drewN q).cell 1
  have q1 := (HN.out.2.drewN q).cell 1
  have p2 := (HN.out.1.drewN q).cell 2
  have q2 := (HN.out.2.drewN q).cell 2
  have p3 := (HN.out.1.drewN q).cell 3
  have q3 := (HN.out.2.drewN q).cell 3
  have p4 := (HN.out.1.drewN q).cell 4
  have q4 := (HN.out.2.drewN q).cell 4
  simp only [List.getElem?_toArray, List.getElem?_cons_zero, List.getElem?_cons_succ] at p1 q1 p2 q2 p3 q3 p4 q4
  go_wp2_with fail
  go_ret
  exact ⟨rfl, HG.out q⟩
/-- The same messages, in one row. -/
def sames (l r : List MV) : Bool := decide (l.map MV.pl = r.map MV.pl)
def WsR (w : World) (l : List MV) : Prop := ∀ m ∈ l, Wr w m
theorem WsR.below {l : List MV} (h : WsR w l) (hb : Below w.heap.size w w') : WsR w' l := fun m hm => (h m hm).below hb
def SmPost (z : Bool) (w : World) (e : Ending) (w' : World) : Prop := e = .returned (.bool z) ∧ Below w.heap.size w w'
def InvS (w : World) (l r : List MV) (i : Value) (V : World) : Prop := ∃ k : Nat, i = .int .i64 k ∧ k ≤ l.length ∧ (l.take k).map MV.pl = (r.take k).map MV.pl ∧ Below w.heap.size w V
theorem take_pl {l r : List MV} {k : Nat} {x y : MV} (h : (l.take k).map MV.pl = (r.take k).map MV.pl) (hx : l[k]? = some x) (hy : r[k]? = some y) (e : one x y = true) : (l.take (k + 1)).map MV.pl = (r.take (k + 1)).map MV.pl := by
  rw [take_snoc hx, take_snoc hy, List.map_append, List.map_append, h]
  have := of_decide_eq_true e
  simp [this]
theorem sames_no {l r : List MV} {k : Nat} {x y : MV} (hx : l[k]? = some x) (hy : r[k]? = some y) (e : one x y = false) : sames l r = false := by
  refine decide_eq_false fun h => ?_
  have h1 := congrArg (·[k]?) h
  simp only [List.getElem?_map, hx, hy, Option.map_some] at h1
  injection h1 with h1
  exact absurd h1 (of_decide_eq_false e)
theorem sames_len {l r : List MV} (h : l.length ≠ r.length) : sames l r = false := decide_eq_false fun e => h (by have := congrArg List.length e; simpa using this)
theorem sames_all {l r : List MV} (hl : l.length = r.length) (h : (l.take l.length).map MV.pl = (r.take l.length).map MV.pl) : sames l r = true := by
  rw [List.take_length, hl, List.take_length] at h; exact decide_eq_true h
end Go.Proofs.Ytmfkapbllmfegaa.L10
