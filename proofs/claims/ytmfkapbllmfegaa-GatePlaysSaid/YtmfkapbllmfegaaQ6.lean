/- Lanes: Take, Peek, Sweep, Flush, All, Of: contracts. -/
import Derived.Test.YtmfkapbllmfegaaQ5
namespace Go.Proofs.Ytmfkapbllmfegaa.L10
open Go.RowKit Go.Proofs.Ytmfkapbllmfegaa.G
set_option maxRecDepth 100000
variable {w w' : World} {b L P : Nat} {r : Value} {d : List MV}

theorem Ln.lts (h : Ln w b L P r d) : ∀ q, FL b r q → q < w.heap.size := fun q hq => by
  obtain ⟨_, _, hb, _⟩ := h.typ hq
  exact hb.lt
theorem sel_true (d : List MV) (i : Nat) : sel (fun _ _ => true) i d = d := by
  induction d generalizing i with
  | nil => rfl
  | cons m t ih => simp [sel, ih]
theorem sel_false (d : List MV) (i : Nat) : sel (fun _ _ => false) i d = [] := by
  induction d generalizing i with
  | nil => rfl
  | cons m t ih => simp [sel, ih]
theorem sel_filter (p : MV → Bool) (d : List MV) (i : Nat) : sel (fun _ m => p m) i d = d.filter p := by
  induction d generalizing i with
  | nil => rfl
  | cons m t ih => simp only [sel, ih, List.filter_cons]
theorem sel_first (d : List MV) : sel (fun i _ => i == 0) 0 d = d.take 1 := by
  have hz : ∀ (t : List MV) (i : Nat), sel (fun i _ => i == 0) (i + 1) t = [] := fun t => by
    induction t with
    | nil => intro i; rfl
    | cons m t ih => intro i; simp [sel, ih]
  cases d with
  | nil => rfl
  | cons m t => simp [sel, hz]
theorem rej_first (d : List MV) : rej (fun i _ => i == 0) 0 d = d.drop 1 := by
  have hz : ∀ (t : List MV) (i : Nat), sel (fun i _ => !(i == 0)) (i + 1) t = t := fun t => by
    induction t with
    | nil => intro i; rfl
    | cons m t ih => intro i; simp [sel, ih]
  cases d with
  | nil => rfl
  | cons m t => simp [rej, sel, hz]
/-- The messages of a list that is told, their words readable. -/
def Ws (w : World) (d : List MV) : Prop := ∀ m ∈ d, Wr w m ∧ m.ws.length ≤ 1000
def LsPost (l0 : List MV) (w : World) (e : Ending) (w' : World) : Prop := ∃ v l, e = .returned v ∧ Msgs w' w.heap.size v l ∧ l.map MV.pl = l0.map MV.pl ∧ Below w.heap.size w w'
theorem all_nil (w : World) : Calls Try.prog 47 #[.pointer none] w fun e w' => e = .returned (.slice none 0 0) ∧ Below w.heap.size w w' := by
  go_enter Try.func47, Try.ntmps47
  go_wp2_with fail
  refine (those_nil _ _).mono ?_
  rintro e w1 ⟨rfl, hb⟩
  go_wp2_with fail
  go_ret
  exact ⟨rfl, hb⟩
theorem all_any (h : Ln w b L P r d) (hw : Ws w d) (hd : d.length ≤ 1000) : Calls Try.prog 47 #[.pointer (some ⟨b, 0, none⟩)] w (LsPost d w) := by
  have HC := Lib.hid (those_any h h.lts hw fun_each (fun _ => id) trivial hd)
  clear h hw
  go_enter Try.func47, Try.ntmps47
  go_wp2_with fail
  refine HC.out.mono ?_
  rintro e w1 ⟨v, l, rfl, h1, h2, h3⟩
  go_wp2_with fail
  go_ret
  rw [sel_true] at h2
  exact ⟨v, l, rfl, h1, h2, h3⟩
/-! ### What is taken out -/
structure Outs (w : World) (b L P : Nat) (gone stay : List MV) (v r' : Value) (w' : World) : Prop where
  og : Own w' w.heap.size 43 5 v gone.length (mvs gone)
  ln : Ln w' b L P r' stay
  fr : ∀ q, r'.ownBlock = some q → w.heap.size ≤ q
  ne : ∀ q, v.ownBlock = some q → r'.ownBlock ≠ some q
  on : Only (fun k => k = b) w w'
def OutsPost (w : World) (b L P : Nat) (gone stay : List MV) (e : Ending) (w' : World) : Prop := ∃ v r', e = .returned v ∧ Outs w b L P gone stay v r' w'
theorem OutW.outs {W : World} {g : Nat → MV → Bool} {K : Nat → Prop} {v r' : Value} {gone stay : List MV} (h : OutW W b L P d g K v r' w') (hb : Below w.heap.size w W) (hK : ∀ k, K k → w.heap.size ≤ k) (h1 : sel g 0 d = gone) (h2 : rej g 0 d = stay) : Outs w b L P gone stay v r' w' := by
  subst h1 h2
  refine ⟨h.og.less hb.size, h.ln, fun q hq => Nat.le_trans hb.size (h.fr q hq), h.ne, ?_⟩
  exact (Only.of hb).trans (h.on.mono fun k hk => by
    rcases hk with rfl | hk
    · exact .inl rfl
    · exact .inr (hK k hk))
theorem out_nil (f : Value) (w : World) : Calls Try.prog 63 #[.pointer none, f] w fun e w' => e = .returned (.slice none 0 0) ∧ w = w' := by
  go_enter Try.func63, Try.ntmps63
  go_wp2_with fail
  go_ret
  exact ⟨rfl, rfl⟩
theorem sweep_nil (n : Int) (w : World) : Calls Try.prog 44 #[.pointer none, .int .i64 n] w fun e w' => e = .returned (.slice none 0 0) ∧ Below w.heap.size w w' := by
  go_enter Try.func44, Try.ntmps44
  go_wp2_with fail
  refine (out_nil _ _).mono ?_
  rintro e w1 ⟨rfl, rfl⟩
  go_wp2_with fail
  go_ret
  exact ⟨rfl, b01 _ _⟩
theorem sweep_any (h : Ln w b L P r d) (hd : d.length ≤ 1000) (n : Int) : Calls Try.prog 44 #[.pointer (some ⟨b, 0, none⟩), .int .i64 n] w (OutsPost w b L P (d.filter fun m => late n m.lt) (d.filter fun m => !late n m.lt)) := by
  have h1 := h.below (b01 w (.cells #[.int .i64 n] 3))
  have HC := Lib.hid (out_any h1 h1.lts (fun_sweep w.heap.size n) (Blk.new w 3 #[.int .i64 n]) hd)
  clear h h1
  go_enter Try.func44, Try.ntmps44
  go_wp2_with fail
  refine HC.out.mono ?_
  rintro e w1 ⟨v, r', rfl, h1⟩
  have H1 := Lib.hid h1
  obtain ⟨_, _, rfl, hx⟩ := h1.og.row
  clear h1 hx
  go_wp2_with fail
  go_ret
  exact ⟨_, r', rfl, H1.out.outs (b01 _ _) (fun _ hk => hk.elim) (sel_filter _ _ _) (sel_filter _ _ _)⟩
theorem flush_nil (w : World) : Calls Try.prog 45 #[.pointer none] w fun e w' => e = .returned (.slice none 0 0) ∧ w = w' := by
  go_enter Try.func45, Try.ntmps45
  go_wp2_with fail
  refine (out_nil _ _).mono ?_
  rintro e w1 ⟨rfl, rfl⟩
  go_wp2_with fail
  go_ret
  exact ⟨rfl, rfl⟩
theorem flush_any (h : Ln w b L P r d) (hd : d.length ≤ 1000) : Calls Try.prog 45 #[.pointer (some ⟨b, 0, none⟩)] w (OutsPost w b L P d []) := by
  have HC := Lib.hid (out_any h h.lts fun_each trivial hd)
  clear h
  go_enter Try.func45, Try.ntmps45
  go_wp2_with fail
  refine HC.out.mono ?_
  rintro e w1 ⟨v, r', rfl, h1⟩
  have H1 := Lib.hid h1
  obtain ⟨_, _, rfl, hx⟩ := h1.og.row
  clear h1 hx
  go_wp2_with fail
  go_ret
  exact ⟨_, r', rfl, H1.out.outs (Below.refl _ _) (fun _ hk => hk.elim) (sel_true _ _) (sel_false _ _)⟩
/-! ### The first of all -/
def TkPost (w : World) (b L P : Nat) (d : List MV) (e : Ending) (w' : World) : Prop := ∃ r', e = .returned (.tuple #[(d.headD z0).val, .bool (!d.isEmpty)]) ∧ Ln w' b L P r' (d.drop 1) ∧ (∀ q, r'.ownBlock = some q → w.heap.size ≤ q) ∧ Only (fun k => k = b) w w'
theorem head_take (d : List MV) : (d.take 1).headD z0 = d.headD z0 ∧ (d.take 1).isEmpty = d.isEmpty := by cases d <;> simp
theorem set5 {F : Nat → Prop} {a W : World} {q : Nat} (h : Only F a W) (hq : F q ∨ a.heap.size ≤ q) (u0 u1 u2 u3 u4 : Value) : Only F a (((((W.setCell ⟨q, 0, none⟩ u0).setCell ⟨q, 1, none⟩ u1).setCell ⟨q, 2, none⟩ u2).setCell ⟨q, 3, none⟩ u3).setCell ⟨q, 4, none⟩ u4) :=
  ((((h.set_ hq 0 u0).set_ hq 1 u1).set_ hq 2 u2).set_ hq 3 u3).set_ hq 4 u4
def zC : Array Value := #[.slice none 0 0, .int .i64 0, .int .i64 0, .int .i64 0, .int .i64 0]
theorem below_only {F : Nat → Prop} {a W : World} (h : Only F a W) (hF : ∀ k, F k → a.heap.size ≤ k) : Below a.heap.size a W := ⟨h.os, h.tape, h.output, h.size, fun q hq => h.block q hq fun hf => by have := hF q hf; omega⟩
theorem take_nil (w : World) : Calls Try.prog 42 #[.pointer none] w fun e w' => e = .returned (.tuple #[z0.val, .bool false]) ∧ Below w.heap.size w w' := by
  go_enter Try.func42, Try.ntmps42
  go_wp2_with fail
  refine (out_nil _ _).mono ?_
  rintro e w1 ⟨rfl, rfl⟩
  go_wp2_with fail
  refine (first_any (d := []) Row.none_).mono ?_
  rintro e w2 ⟨rfl, hb⟩
  have B0 := (((Blk.new w 43 zC).alloc (.cells #[.int .i64 0] 3))).bel hb
  have hb2 := bt (ba1 (b01 w (.cells zC 43)) (.cells #[.int .i64 0] 3)) hb
  unfold zC at B0 hb2
  have HB := Lib.hid hb2
  have c0 := B0.cell 0
  have c1 := B0.cell 1
  have c2 := B0.cell 2
  have c3 := B0.cell 3
  have c4 := B0.cell 4
  have f0 := B0.frozen 0
  have f1 := B0.frozen 1
  have f2 := B0.frozen 2
  have f3 := B0.frozen 3
  have f4 := B0.frozen 4
  simp only [List.getElem?_toArray, List.getElem?_cons_zero, List.getElem?_cons_succ] at c0 c1 c2 c3 c4
  clear hb hb2 B0
  simp only [List.headD, MV.val, z0, List.isEmpty, Bool.not_true]
  go_wp2_with fail
  refine bodyPost_ret (v := .tuple #[z0.val, .bool false]) (by simp [results, Try.results42, go_sem, z0, MV.val, c0, c1, c2, c3, c4]) rfl ?_
  have HO := set5 (Only.of (F := fun _ => False) HB.out) (q := w.heap.size) (.inr (Nat.le_refl _)) (.slice none 0 0) (.int .i64 0) (.int .i64 0) (.int .i64 0) (.int .i64 0)
  exact And.intro rfl (below_only HO fun _ h => h.elim)
set_option maxHeartbeats 2000000 in
theorem take_any (h : Ln w b L P r d) (hd : d.length ≤ 1000) : Calls Try.prog 42 #[.pointer (some ⟨b, 0, none⟩)] w (TkPost w b L P d) := by
  have hbl := h.lt
  have hb0 := ba1 (b01 w (.cells zC 43)) (.cells #[.int .i64 0] 3)
  have h1 := h.below hb0
  have N0 := (Blk.new w 43 zC).alloc (.cells #[.int .i64 0] 3)
  have Q0 : StT (w.heap.size + 1) 0 ((w.alloc (.cells zC 43)).alloc (.cells #[.int .i64 0] 3)) := by
    have := Blk.new (w.alloc (.cells zC 43)) 3 #[.int .i64 0]
    simp only [World.size_alloc] at this; exact this
  have HC := Lib.hid (out_any h1 h1.lts (fun_take (w.heap.size + 1)) Q0 hd)
  have HN := Lib.hid (And.intro N0 hb0)
  have HB := Lib.hid hbl
  unfold zC at HC HN
  clear h h1 hb0 N0 Q0 hbl
  go_enter Try.func42, Try.ntmps42
  go_wp2_with fail
  refine HC.out.mono ?_
  rintro e w1 ⟨v, r', rfl, ho⟩
  have ho' := ho.outs HN.out.2 (fun k hk => by have e : k = w.heap.size + 1 := hk; omega) (sel_first d) (rej_first d)
  have HFr : Hid (∀ q, r'.ownBlock = some q → w.heap.size + 2 ≤ q) := fun q hq => by
    have := ho.fr q hq
    simpa using this
  have HH := Lib.hid (head_take d)
  generalize d.take 1 = G at ho' HH
  have HO := Lib.hid ho'
  obtain ⟨A, c, rfl, hr, hx⟩ := ho'.og.row
  have B1 := ho.on.blk HN.out.1 (fun hk => by
    rcases hk with e | e
    · have := HB.out; omega
    · have e' : w.heap.size = w.heap.size + 1 := e
      omega)
  have HF := Lib.hid (first_any (c := c) hr)
  clear ho ho' hx hr HC
  go_wp2_with fail
  refine HF.out.mono ?_
  rintro e w2 ⟨rfl, hb⟩
  have B0 := B1.bel hb
  have HB2 := Lib.hid hb
  have c0 := B0.cell 0
  have c1 := B0.cell 1
  have c2 := B0.cell 2
  have c3 := B0.cell 3
  have c4 := B0.cell 4
  have f0 := B0.frozen 0
  have f1 := B0.frozen 1
  have f2 := B0.frozen 2
  have f3 := B0.frozen 3
  have f4 := B0.frozen 4
  simp only [List.getElem?_toArray, List.getElem?_cons_zero, List.getElem?_cons_succ] at c0 c1 c2 c3 c4
  clear B0 B1 hb HF
  have HD : Hid (G.headD z0 = d.headD z0 ∧ (!G.isEmpty) = (!d.isEmpty)) := ⟨HH.out.1, by rw [HH.out.2]⟩
  clear HH
  generalize G.headD z0 = m at *
  generalize (!G.isEmpty) = y at *
  unfold MV.val
  go_wp2_with fail
  refine bodyPost_ret (v := .tuple #[m.val, .bool y]) (by simp [results, Try.results42, go_sem, MV.val, c0, c1, c2, c3, c4]) rfl ?_
  have H5 := set5 (((HO.out.on).bel HB2.out)) (q := w.heap.size) (.inr (Nat.le_refl _)) (.slice m.a m.ws.length m.c) (.int .i64 m.ln) (.int .i64 m.st) (.int .i64 m.lt) (.int .i64 m.sq)
  have HK := set5 (Only.of (F := fun k => k = w.heap.size) HB2.out) (q := w.heap.size) (.inl rfl) (.slice m.a m.ws.length m.c) (.int .i64 m.ln) (.int .i64 m.st) (.int .i64 m.lt) (.int .i64 m.sq)
  have hl := HO.out.ln
  refine ⟨r', by rw [← HD.out.1, ← HD.out.2], ⟨HK.blk hl.blk (fun e => by have := HB.out; have e' : b = w.heap.size := e; omega), HK.own hl.own fun q hq e => ?_⟩, HO.out.fr, H5⟩
  have := HFr.out q hq
  have e' : q = w.heap.size := e
  omega
def PkPost (d : List MV) (w : World) (e : Ending) (w' : World) : Prop := ∃ m : MV, e = .returned (.tuple #[m.val, .bool (!d.isEmpty)]) ∧ m.pl = (d.headD z0).pl ∧ Wo w' w.heap.size m ∧ Below w.heap.size w w'
theorem wr_head (hw : Ws w d) : Wr w (d.headD z0) ∧ (d.headD z0).ws.length ≤ 1000 := by
  cases d with
  | nil => exact ⟨⟨Row.none_, Nat.le_refl _, by decide⟩, by decide⟩
  | cons m t => exact hw m (List.mem_cons_self ..)
end Go.Proofs.Ytmfkapbllmfegaa.L10
