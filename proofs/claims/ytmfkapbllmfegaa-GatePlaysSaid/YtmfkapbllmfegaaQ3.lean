/- Lanes: out, which takes out the messages that a function tells: a contract over that function's own. -/
import Derived.Test.YtmfkapbllmfegaaQ2
import Derived.Shelf.Abstract
namespace Go.Proofs.Ytmfkapbllmfegaa.L10
open Go.RowKit Go.Proofs.Ytmfkapbllmfegaa.G
set_option maxRecDepth 100000
variable {w w' : World} {b L P : Nat} {r : Value} {d : List MV}

/-- The messages that are told, the others: g is asked with each one's place. -/
def sel (g : Nat → MV → Bool) : Nat → List MV → List MV
  | _, [] => []
  | i, m :: t => if g i m then m :: sel g (i + 1) t else sel g (i + 1) t
def rej (g : Nat → MV → Bool) (i : Nat) (l : List MV) : List MV := sel (fun i m => !g i m) i l
theorem sel_app (g : Nat → MV → Bool) : ∀ (l t : List MV) (i : Nat), sel g i (l ++ t) = sel g i l ++ sel g (i + l.length) t
  | [], t, i => rfl
  | m :: l, t, i => by
    simp only [List.cons_append, sel, List.length_cons]
    rw [sel_app g l t (i + 1), show i + 1 + l.length = i + (l.length + 1) by omega]
    split <;> rfl
theorem sel_yes {g : Nat → MV → Bool} {k : Nat} {m : MV} (h : d[k]? = some m) (hg : g k m = true) : sel g 0 (d.take (k + 1)) = sel g 0 (d.take k) ++ [m] := by
  have hk : k < d.length := (List.getElem?_eq_some_iff.1 h).1
  rw [take_snoc h, sel_app]
  simp [sel, hg, Nat.min_eq_left (Nat.le_of_lt hk)]
theorem sel_no {g : Nat → MV → Bool} {k : Nat} {m : MV} (h : d[k]? = some m) (hg : g k m = false) : sel g 0 (d.take (k + 1)) = sel g 0 (d.take k) := by
  have hk : k < d.length := (List.getElem?_eq_some_iff.1 h).1
  rw [take_snoc h, sel_app]
  simp [sel, hg, Nat.min_eq_left (Nat.le_of_lt hk)]
theorem sel_len (g : Nat → MV → Bool) : ∀ (l : List MV) (i : Nat), (sel g i l).length ≤ l.length
  | [], _ => Nat.le_refl _
  | m :: l, i => by
    have := sel_len g l (i + 1)
    simp only [sel]; split <;> simp <;> omega
/-- Blocks of numbers stay. -/
def Ints (W W' : World) : Prop := ∀ k cs, Blk W k 3 cs → Blk W' k 3 cs
theorem Ints.below (h : Below w.heap.size w w') : Ints w w' := fun _ _ hb => hb.bel h
/-- A function of messages: asked for the i-th one it tells g's answer; what it keeps is told by St, it turns blocks of K alone, which are of numbers. -/
structure Fun (fv : Value) (g : Nat → MV → Bool) (St : Nat → World → Prop) (K : Nat → Prop) (fn : Nat) (bs : Array Value) : Prop where
  val : fv = .func (.func fn) #[] bs
  ent : ∀ args W, (callFunc fn args).run Try.prog W = .ok (.enter fn args) W
  call : ∀ i m W, i ≤ 1000 → St i W → Calls Try.prog fn (#[m.val] ++ bs) W fun e W' => e = .returned (.bool (g i m)) ∧ St (i + 1) W' ∧ Only K W W'
  keep : ∀ i W W', St i W → Ints W W' → St i W'
  typ : ∀ i W k, St i W → K k → ∃ cs, Blk W k 3 cs
theorem Fun.off {fv : Value} {g : Nat → MV → Bool} {St : Nat → World → Prop} {K : Nat → Prop} {fn : Nat} {bs : Array Value} (h : Fun fv g St K fn bs) {i : Nat} {W : World} (hs : St i W) {k : Nat} {t : TypeId} {cs : Array Value} (hb : Blk W k t cs) (ht : t ≠ 3) : ¬ K k := fun hk => by
  obtain ⟨cs', hc⟩ := h.typ i W k hs hk
  unfold Blk at hb hc
  rw [hb] at hc
  injection hc with hc
  injection hc with _ hc
  exact ht hc
theorem Fun.ln {fv : Value} {g : Nat → MV → Bool} {St : Nat → World → Prop} {K : Nat → Prop} {fn : Nat} {bs : Array Value} (h : Fun fv g St K fn bs) {i : Nat} {W W' : World} (hs : St i W) (ho : Only K W W') (hl : Ln W b L P r d) : Ln W' b L P r d :=
  ⟨ho.blk hl.blk (h.off hs hl.blk (by decide)), ho.own hl.own fun q hq => by obtain ⟨_, cur, hc⟩ := hl.own.block_lt hq; exact h.off hs hc (by decide)⟩
theorem Fun.own {fv : Value} {g : Nat → MV → Bool} {St : Nat → World → Prop} {K : Nat → Prop} {fn : Nat} {bs : Array Value} (h : Fun fv g St K fn bs) {i : Nat} {W W' : World} (hs : St i W) (ho : Only K W W') {B n : Nat} {v : Value} {xs : List Value} (hl : Own W B 43 5 v n xs) : Own W' B 43 5 v n xs :=
  ho.own hl fun q hq => by obtain ⟨_, cur, hc⟩ := hl.block_lt hq; exact h.off hs hc (by decide)
/-- A row of messages has grown: what else there is stays. -/
theorem ints_grown {B n : Nat} {v : Value} {xs : List Value} (hl : Own w B 43 5 v n xs) (hg : w.grownBy w' v.ownBlock) : Ints w w' := fun k cs hb => blk_grown hb hg fun e => by
  obtain ⟨_, cur, hc⟩ := hl.block_lt e.symm
  exact Blk.ne_ hc hb (by decide) rfl
structure InvO (w : World) (b L P : Nat) (r : Value) (d : List MV) (g : Nat → MV → Bool) (St : Nat → World → Prop) (K : Nat → Prop) (k j : Nat) (gv sv : Value) (V : World) : Prop where
  og : Own V w.heap.size 43 5 gv (sel g 0 (d.take k)).length (mvs (sel g 0 (d.take k)))
  os : Own V w.heap.size 43 5 sv (rej g 0 (d.take k)).length (mvs (rej g 0 (d.take k)))
  ne : ∀ q, gv.ownBlock = some q → sv.ownBlock ≠ some q
  ln : Ln V b L P r d
  st : St j V
  on : Only K w V
section
variable {fv : Value} {g : Nat → MV → Bool} {St : Nat → World → Prop} {K : Nat → Prop} {fn : Nat} {bs : Array Value} {k j : Nat} {gv sv : Value} {V V' : World}
theorem InvO.below (h : InvO w b L P r d g St K k j gv sv V) (hF : Fun fv g St K fn bs) (hb : Below V.heap.size V V') : InvO w b L P r d g St K k j gv sv V' :=
  ⟨h.og.below hb, h.os.below hb, h.ne, h.ln.below hb, hF.keep _ _ _ h.st (.below hb), h.on.bel hb⟩
theorem InvO.called (h : InvO w b L P r d g St K k j gv sv V) (hF : Fun fv g St K fn bs) (hs : St (j + 1) V') (ho : Only K V V') : InvO w b L P r d g St K k (j + 1) gv sv V' :=
  ⟨hF.own h.st ho h.og, hF.own h.st ho h.os, h.ne, hF.ln h.st ho h.ln, hs, h.on.trans_ ho⟩
theorem InvO.addg (h : InvO w b L P r d g St K k j gv sv V) (hF : Fun fv g St K fn bs) (h0 : ∀ q, FL b r q → q < w.heap.size) {m : MV} (hm : d[k]? = some m) (hg : g k m = true) {gv' : Value}
    (ho : Own V' w.heap.size 43 5 gv' ((sel g 0 (d.take k)).length + 1) (mvs (sel g 0 (d.take k)) ++ m.cells)) (hgr : V.grownBy V' gv.ownBlock) (hob : gv'.ownBlock = gv.ownBlock ∨ gv'.ownBlock = some V.heap.size) : InvO w b L P r d g St K (k + 1) j gv' sv V' := by
  have hd : ∀ q, gv.ownBlock = some q → w.heap.size ≤ q := fun q hq => (h.og.block_lt hq).1
  refine ⟨?_, ?_, ?_, ⟨?_, ?_⟩, hF.keep _ _ _ h.st (ints_grown h.og hgr), h.on.grown hgr fun q hq => .inr (hd q hq)⟩
  · rw [sel_yes hm hg, List.length_append, mvs_snoc]; exact ho
  · have e : rej g 0 (d.take (k + 1)) = rej g 0 (d.take k) := sel_no hm (by rw [hg]; rfl)
    rw [e]
    exact h.os.grown hgr fun q hq he => h.ne q he.symm hq
  · intro q hq
    rcases hob with e | e
    · exact h.ne q (by rw [← e]; exact hq)
    · intro hs
      obtain ⟨_, cur, hc⟩ := h.os.block_lt hs
      have := hc.lt
      rw [e] at hq; injection hq with hq; omega
  · exact blk_grown h.ln.blk hgr fun e => by have := hd b e.symm; have := h0 b (.inl rfl); omega
  · exact h.ln.own.grown hgr fun q hq e => by have := hd q e.symm; have := h0 q (.inr hq); omega
theorem InvO.adds (h : InvO w b L P r d g St K k j gv sv V) (hF : Fun fv g St K fn bs) (h0 : ∀ q, FL b r q → q < w.heap.size) {m : MV} (hm : d[k]? = some m) (hg : g k m = false) {sv' : Value}
    (ho : Own V' w.heap.size 43 5 sv' ((rej g 0 (d.take k)).length + 1) (mvs (rej g 0 (d.take k)) ++ m.cells)) (hgr : V.grownBy V' sv.ownBlock) (hob : sv'.ownBlock = sv.ownBlock ∨ sv'.ownBlock = some V.heap.size) : InvO w b L P r d g St K (k + 1) j gv sv' V' := by
  have hd : ∀ q, sv.ownBlock = some q → w.heap.size ≤ q := fun q hq => (h.os.block_lt hq).1
  refine ⟨?_, ?_, ?_, ⟨?_, ?_⟩, hF.keep _ _ _ h.st (ints_grown h.os hgr), h.on.grown hgr fun q hq => .inr (hd q hq)⟩
  · rw [sel_no hm hg]
    exact h.og.grown hgr fun q hq he => h.ne q hq he.symm
  · have e : rej g 0 (d.take (k + 1)) = rej g 0 (d.take k) ++ [m] := sel_yes hm (by rw [hg]; rfl)
    rw [e, List.length_append, mvs_snoc]; exact ho
  · intro q hq hs
    rcases hob with e | e
    · exact h.ne q hq (by rw [← e]; exact hs)
    · obtain ⟨_, cur, hc⟩ := h.og.block_lt hq
      have := hc.lt
      rw [e] at hs; injection hs with hs; omega
  · exact blk_grown h.ln.blk hgr fun e => by have := hd b e.symm; have := h0 b (.inl rfl); omega
  · exact h.ln.own.grown hgr fun q hq e => by have := hd q e.symm; have := h0 q (.inr hq); omega
end
theorem row_one (w : World) (m : MV) : Row (w.alloc (.cells #[.slice m.a m.ws.length m.c, .int .i64 m.ln, .int .i64 m.st, .int .i64 m.lt, .int .i64 m.sq] 43)) (some ⟨w.heap.size, 0, none⟩) m.cells :=
  Row.of_blk (Blk.new w 43 _) fun j u hj => by simpa [MV.cells] using hj
/-- What is taken out is told in a list of its own; the others stay, in a list of their own. -/
structure OutW (w : World) (b L P : Nat) (d : List MV) (g : Nat → MV → Bool) (K : Nat → Prop) (v r' : Value) (w' : World) : Prop where
  og : Own w' w.heap.size 43 5 v (sel g 0 d).length (mvs (sel g 0 d))
  ln : Ln w' b L P r' (rej g 0 d)
  fr : ∀ q, r'.ownBlock = some q → w.heap.size ≤ q
  ne : ∀ q, v.ownBlock = some q → r'.ownBlock ≠ some q
  on : Only (fun k => k = b ∨ K k) w w'
def OutPost (w : World) (b L P : Nat) (d : List MV) (g : Nat → MV → Bool) (K : Nat → Prop) (e : Ending) (w' : World) : Prop := ∃ v r', e = .returned v ∧ OutW w b L P d g K v r' w'
set_option maxHeartbeats 4000000 in
theorem out_any {fv : Value} {g : Nat → MV → Bool} {St : Nat → World → Prop} {K : Nat → Prop} {fn : Nat} {bs : Array Value} (h : Ln w b L P r d) (h0 : ∀ q, FL b r q → q < w.heap.size) (hF : Fun fv g St K fn bs) (hs : St 0 w) (hd : d.length ≤ 1000) :
    Calls Try.prog 63 #[.pointer (some ⟨b, 0, none⟩), fv] w (OutPost w b L P d g K) := by
  obtain ⟨i0, hi, hz0, hz1, hz2⟩ := info_parts infoM
  obtain ⟨k0, k1, k2⟩ := h.cells
  have HH := Lib.hid h
  have H0 := Lib.hid h0
  have HF := Lib.hid hF
  have HS := Lib.hid hs
  have ent := hF.ent
  obtain ⟨A, c, rfl, hx⟩ := h.own.row
  clear hx
  have ev := hF.val
  subst ev
  clear h h0 hF hs
  go_enter Try.func63, Try.ntmps63
  go_wp2_with fail
  clear k0 k1 k2
  go_loopw [5, 6, 16] (fun gv sv i V => ∃ k : Nat, i = .int .i64 k ∧ k ≤ d.length ∧ InvO w b L P (.slice A d.length c) d g St K k k gv sv V) (fun _ _ i _ => d.length - (intOf i).toNat)
  case atStart => exact ⟨0, rfl, by omega, ⟨Own.nil_ _ _ _ _, Own.nil_ _ _ _ _, fun q hq => by simp [Value.ownBlock] at hq, HH.out, HS.out, .refl _ _⟩⟩
  case round =>
    obtain ⟨k, rfl, hk, hI⟩ := hrel
    obtain ⟨A1, c1, rfl, hx1⟩ := hI.og.row
    obtain ⟨A2, c2, rfl, hx2⟩ := hI.os.row
    clear hx1 hx2
    have HI := Lib.hid hI
    by_cases hlt : k < d.length
    · obtain ⟨m, hm⟩ : ∃ m, d[k]? = some m := ⟨_, List.getElem?_eq_getElem hlt⟩
      obtain ⟨hx3, gg, rfl, hgg, q0, q1, q2, q3, q4⟩ := own_msg hI.ln.own hm
      clear hx3
      have f1 : (k : Int) < d.length := by omega
      have HM := Lib.hid hm
      have HI1 := Lib.hid (hI.below HF.out (b01 wr (.cells #[.slice m.a m.ws.length m.c, .int .i64 m.ln, .int .i64 m.st, .int .i64 m.lt, .int .i64 m.sq] 43)))
      have N0 := Lib.hid (Blk.new wr 43 #[.slice m.a m.ws.length m.c, .int .i64 m.ln, .int .i64 m.st, .int .i64 m.lt, .int .i64 m.sq])
      have n0 := N0.out.cell 0
      have n1 := N0.out.cell 1
      have n2 := N0.out.cell 2
      have n3 := N0.out.cell 3
      have n4 := N0.out.cell 4
      simp only [List.getElem?_toArray, List.getElem?_cons_zero, List.getElem?_cons_succ] at n0 n1 n2 n3 n4
      clear hI hm HI HH HS
      have HL := Lib.hid (And.intro (sel_len g (d.take k) 0) (sel_len (fun i m => !g i m) (d.take k) 0))
      have HC := HF.out.call k m _ (by omega) HI1.out.st
      unfold MV.val at HC
      cases hgk : g k m with
      | true =>
        have HG := Lib.hid hgk
        rw [hgk] at HC
        have HC' := Lib.hid HC
        clear HC hgk
        go_wp2_with fail
        refine HC'.out.mono ?_
        rintro e w1 ⟨rfl, hs1, ho1⟩
        have B0 := ho1.blk N0.out (HF.out.off HI1.out.st N0.out (by decide))
        have HI2 := Lib.hid ((HI1.out.called HF.out hs1 ho1).below HF.out (b01 w1 (.cells #[.slice m.a m.ws.length m.c, .int .i64 m.ln, .int .i64 m.st, .int .i64 m.lt, .int .i64 m.sq] 43)))
        clear n0 n1 n2 n3 n4 N0 HI1 hs1 ho1 HC' q0 q1 q2 q3 q4
        have n0 := B0.cell 0
        have n1 := B0.cell 1
        have n2 := B0.cell 2
        have n3 := B0.cell 3
        have n4 := B0.cell 4
        simp only [List.getElem?_toArray, List.getElem?_cons_zero, List.getElem?_cons_succ] at n0 n1 n2 n3 n4
        have HR := Lib.hid (row_one w1 m)
        have HW := Lib.hid HI2.out.on.size
        clear B0
        go_wp2_with (at_builtin; go_must (refine wpList_app Try.underlying29 hi hz0 hz1 hz2 rfl (by decide) rfl (.tmp 23) (.tmp 25) rfl w.heap.size (.slice A1 (sel g 0 (d.take k)).length c1) (sel g 0 (d.take k)).length (mvs (sel g 0 (d.take k))) rfl HI2.out.og (some ⟨w1.heap.size, 0, none⟩) 1 1 m.cells rfl HR.out rfl (MV.one m) (by have := HL.out.1; rw [List.length_take] at this; omega) (by decide) HW.out ?_); intro v' w5 ho5 hb5 hg5 hob5; have H5 := Lib.hid (And.intro ho5 (And.intro hg5 hob5)); clear ho5 hb5 hg5 hob5)
        go_roundw
        case rel => exact ⟨k + 1, by go_num, by omega, HI2.out.addg HF.out H0.out HM.out HG.out H5.out.1 H5.out.2.1 H5.out.2.2⟩
        case measure => simp [intOf]; omega
      | false =>
        have HG := Lib.hid hgk
        rw [hgk] at HC
        have HC' := Lib.hid HC
        clear HC hgk
        go_wp2_with fail
        refine HC'.out.mono ?_
        rintro e w1 ⟨rfl, hs1, ho1⟩
        have B0 := ho1.blk N0.out (HF.out.off HI1.out.st N0.out (by decide))
        have HI2 := Lib.hid ((HI1.out.called HF.out hs1 ho1).below HF.out (b01 w1 (.cells #[.slice m.a m.ws.length m.c, .int .i64 m.ln, .int .i64 m.st, .int .i64 m.lt, .int .i64 m.sq] 43)))
        clear n0 n1 n2 n3 n4 N0 HI1 hs1 ho1 HC' q0 q1 q2 q3 q4
        have n0 := B0.cell 0
        have n1 := B0.cell 1
        have n2 := B0.cell 2
        have n3 := B0.cell 3
        have n4 := B0.cell 4
        simp only [List.getElem?_toArray, List.getElem?_cons_zero, List.getElem?_cons_succ] at n0 n1 n2 n3 n4
        have HR := Lib.hid (row_one w1 m)
        have HW := Lib.hid HI2.out.on.size
        clear B0
        go_wp2_with (at_builtin; go_must (refine wpList_app Try.underlying29 hi hz0 hz1 hz2 rfl (by decide) rfl (.tmp 27) (.tmp 29) rfl w.heap.size (.slice A2 (rej g 0 (d.take k)).length c2) (rej g 0 (d.take k)).length (mvs (rej g 0 (d.take k))) rfl HI2.out.os (some ⟨w1.heap.size, 0, none⟩) 1 1 m.cells rfl HR.out rfl (MV.one m) (by have := HL.out.2; rw [List.length_take] at this; unfold rej; omega) (by decide) HW.out ?_); intro v' w5 ho5 hb5 hg5 hob5; have H5 := Lib.hid (And.intro ho5 (And.intro hg5 hob5)); clear ho5 hb5 hg5 hob5)
        go_roundw
        case rel => exact ⟨k + 1, by go_num, by omega, HI2.out.adds HF.out H0.out HM.out HG.out H5.out.1 H5.out.2.1 H5.out.2.2⟩
        case measure => simp [intOf]; omega
    · obtain rfl : k = d.length := by omega
      obtain ⟨k0, k1, k2⟩ := hI.ln.cells
      have z2 := hI.ln.blk.frozen 2
      rw [List.take_length] at HI ⊢
      clear hI hlt HH HS
      go_wp2_with fail
      go_ret
      have h2 := HI.out
      have og := h2.og
      have os := h2.os
      rw [List.take_length] at og os
      refine ⟨_, _, rfl, og.far h2.ln.blk (by decide) 2 _, ⟨?_, (os.far h2.ln.blk (by decide) 2 _).less (Nat.zero_le _)⟩, fun q hq => (os.block_lt hq).1, h2.ne, (h2.on.mono fun q hq => .inr hq).set_ (.inl (.inl rfl)) 2 _⟩
      exact h2.ln.blk.set_ 2 _
end Go.Proofs.Ytmfkapbllmfegaa.L10
