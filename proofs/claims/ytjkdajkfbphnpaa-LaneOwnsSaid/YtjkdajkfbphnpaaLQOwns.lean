/- LaneOwns, walked. -/
import Derived.Test.YtjkdajkfbphnpaaQSame
namespace Go.Proofs.Ytjkdajkfbphnpaa.laneOwns
open Go.RowKit Go.Proofs.Ytjkdajkfbphnpaa.G Go.Proofs.Ytjkdajkfbphnpaa.L10
set_option maxRecDepth 100000
variable {w w' : World}
/-- The block of a message's words. -/
def OB (m : MV) : Nat → Prop := fun q => (Value.slice m.a m.ws.length m.c).ownBlock = some q
def mcs (m : MV) : Array Value := #[.slice m.a m.ws.length m.c, .int .i64 m.ln, .int .i64 m.st, .int .i64 m.lt, .int .i64 m.sq]
theorem OB.int {m : MV} {B : Nat} (h : Wo w B m) {q : Nat} (hq : OB m q) : B ≤ q ∧ ∃ cs, Blk w q 3 cs := Own.block_lt h hq
theorem blk_ob {m : MV} {B g : Nat} {t : TypeId} {cs : Array Value} (h : Wo w B m) (ho : Only (OB m) w w') (hb : Blk w g t cs) (ht : t ≠ 3) : Blk w' g t cs :=
  ho.blk hb fun hq => by
    obtain ⟨_, c', hc⟩ := OB.int h hq
    exact Blk.ne_ hb hc ht rfl
/-- The words may be others by now, as many. -/
def Wv (w : World) (m : MV) : Prop := ∃ ws, ws.length = m.ws.length ∧ Own w 0 3 1 (.slice m.a m.ws.length m.c) m.ws.length (iv ws)
theorem Wv.of {m : MV} {B : Nat} (h : Wo w B m) : Wv w m := ⟨m.ws, rfl, Own.less h (Nat.zero_le _)⟩
theorem Wv.cell {m : MV} (h : Wv w m) {k : Nat} (hk : k < m.ws.length) : ∃ g z, m.a = some ⟨g, 0, none⟩ ∧ OB m g ∧ w.cell? ⟨g, k, none⟩ = some (.int .i64 z) ∧ w.frozen? ⟨g, k, none⟩ = false := by
  obtain ⟨ws, hl, ho⟩ := h
  obtain ⟨A, c, e, hr, _, _, hA⟩ := ho.row
  injection e with e1 e2 e3
  obtain ⟨g, o, eg, hg, hc⟩ := hr (by rw [iv_len]; omega)
  obtain ⟨rfl, _, cur, hb⟩ := hA g o eg
  subst e1
  have h1 : (iv ws)[k]? = some (.int .i64 (ws[k]'(by omega))) := by simp [iv, show k < ws.length by omega]
  exact ⟨g, _, eg, by unfold OB; rw [eg]; simp [Value.ownBlock], by have := hc k _ h1; rw [Nat.zero_add] at this; exact this, hb.frozen k⟩
theorem Wv.set {m : MV} (h : Wv w m) {g k : Nat} (hg : m.a = some ⟨g, 0, none⟩) (z : Int) : Wv (w.setCell ⟨g, k, none⟩ (.int .i64 z)) m := by
  obtain ⟨ws, hl, ho⟩ := h
  rw [hg] at ho
  have h1 := own_set ho k (.int .i64 z)
  refine ⟨ws.set k z, by rw [List.length_set]; exact hl, ?_⟩
  rw [hg, show iv (ws.set k z) = (iv ws).set k (.int .i64 z) by unfold iv; rw [List.map_set]]
  exact h1
theorem Wv.only {m : MV} {F : Nat → Prop} (h : Wv w m) (ho : Only F w w') (hn : ∀ g cs, Blk w g 3 cs → ¬ F g) : Wv w' m := by
  obtain ⟨ws, hl, h1⟩ := h
  exact ⟨ws, hl, ho.own h1 fun g hg => by obtain ⟨_, cur, hc⟩ := h1.block_lt hg; exact hn g cur hc⟩
theorem Wv.below {m : MV} (h : Wv w m) (hb : Below w.heap.size w w') : Wv w' m := by
  obtain ⟨ws, hl, h1⟩ := h
  exact ⟨ws, hl, h1.below hb⟩
/-- Words that lie elsewhere. -/
theorem wo_ob {m x : MV} {B : Nat} (h : Wo w B x) (ho : Only (OB m) w w') (hne : ∀ q, OB x q → ¬ OB m q) : Wo w' B x := ho.own h fun q hq => hne q hq
theorem wr_old {m x : MV} {B : Nat} {w0 : World} (h : Wr w0 x) (hb : Below w0.heap.size w0 w) (ho : Only (OB m) w w') (hm : ∀ q, OB m q → w0.heap.size ≤ q) : Below w0.heap.size w0 w' := Only.to_below hb ho hm hb.size
/-- What stays where some blocks of numbers alone have turned. -/
structure Nn (w0 : World) (F : Nat → Prop) (w w' : World) : Prop where
  on : Only F w w'
  ty : ∀ q, F q → ∃ cs, Blk w q 3 cs
  lo : ∀ q, F q → w0.heap.size ≤ q
variable {w0 V V' : World} {F : Nat → Prop}
theorem Nn.blk (h : Nn w0 F w V) {g : Nat} {t : TypeId} {cs : Array Value} (hb : Blk w g t cs) (ht : t ≠ 3) : Blk V g t cs := h.on.blk hb fun hq => by
  obtain ⟨c', hc⟩ := h.ty g hq
  exact Blk.ne_ hb hc ht rfl
theorem Nn.lv {b L P : Nat} {r : Value} {d : List MV} (h : Nn w0 F w V) (hl : Lv w0 w b L P r d) : Lv w0 V b L P r d := hl.other h.on fun k hk => ⟨fun hf => by
  obtain ⟨c', hc⟩ := h.ty k hk
  exact hl.ln.no_int k c' hc hf, h.lo k hk⟩
theorem Nn.own {B m n : Nat} {v : Value} {xs : List Value} {t : TypeId} (h : Nn w0 F w V) (ho : Own w B t m v n xs) (ht : t ≠ 3) : Own V B t m v n xs := h.on.own ho fun q hq hf => by
  obtain ⟨_, cur, hc⟩ := ho.block_lt hq
  obtain ⟨c', hc'⟩ := h.ty q hf
  exact Blk.ne_ hc hc' ht rfl
theorem Nn.wo {x : MV} {B : Nat} (h : Nn w0 F w V) (hw : Wo w B x) (hd : ∀ q, OB x q → ¬ F q) : Wo V B x := h.on.own hw fun q hq => hd q hq
theorem Nn.set_ (h : Nn w0 F w V) {g : Nat} (hg : F g) (k : Nat) (u : Value) : Nn w0 F w (V.setCell ⟨g, k, none⟩ u) := ⟨h.on.set_ (.inl hg) k u, h.ty, h.lo⟩
theorem Nn.wr {x : MV} (h : Nn w0 F w V) (hx : Wr w0 x) (hb : Below w0.heap.size w0 w) : Below w0.heap.size w0 V := Only.to_below hb h.on h.lo hb.size
theorem ob_lt {x : MV} {B : Nat} (h : Wo w B x) : ∀ q, OB x q → B ≤ q ∧ q < w.heap.size := fun q hq => by
  obtain ⟨h1, cs, hc⟩ := OB.int h hq
  exact ⟨h1, hc.lt⟩
theorem wv_other {m : MV} {V : World} (h : Wv V m) {g k : Nat} (hn : ¬ OB m g) (u : Value) : Wv (V.setCell ⟨g, k, none⟩ u) m := by
  obtain ⟨ws, hl, ho⟩ := h
  refine ⟨ws, hl, ((Only.refl (fun q => q = g) V).set_ (.inl rfl) k u).own ho fun q hq e => hn ?_⟩
  have e' : q = g := e
  subst e'
  exact hq
set_option maxHeartbeats 4000000 in
theorem walk (m : MV) (hm : Wr w m) : Calls Try.prog 7 #[m.val] w fun e w' => e = .returned (.bool true) ∧ Below w.heap.size w w' := by
  obtain ⟨mm, hmm⟩ : ∃ mm : MV, mm = ⟨m.a, m.ws.take 8, m.c, 0, m.st, m.lt, m.sq⟩ := ⟨_, rfl⟩
  have hl8 : (m.ws.take 8).length = min 8 m.ws.length := by rw [List.length_take]
  have hM : Wr w mm := by
    rw [hmm]
    refine ⟨?_, by show (m.ws.take 8).length ≤ m.c; have := hm.le; omega, hm.top⟩
    have := hm.row.take 8
    show Row w m.a (iv (m.ws.take 8))
    rw [show iv (m.ws.take 8) = (iv m.ws).take 8 by unfold iv; rw [List.map_take]]
    exact this
  have HN := Lib.hid (Blk.new w 33 #[.slice m.a m.ws.length m.c, .int .i64 m.ln, .int .i64 m.st, .int .i64 m.lt, .int .i64 m.sq])
  have HB := Lib.hid (b01 w (.cells #[.slice m.a m.ws.length m.c, .int .i64 m.ln, .int .i64 m.st, .int .i64 m.lt, .int .i64 m.sq] 33))
  have HM := Lib.hid (And.intro hM (show mm.ws.length ≤ 8 by rw [hmm]; show (m.ws.take 8).length ≤ 8; omega))
  have hle := hm.le
  have htop := hm.top
  obtain ⟨n, hn⟩ : ∃ n, m.ws.length = n := ⟨_, rfl⟩
  obtain ⟨n8, hn8⟩ : ∃ n8, min n 8 = n8 := ⟨_, rfl⟩
  have hmn : mm.ws.length = n8 := by rw [hmm]; show (m.ws.take 8).length = n8; omega
  unfold MV.val
  rw [hn] at HN HB hle ⊢
  obtain ⟨a, ws, c, ln, st, lt, sq⟩ := m
  have hmv : mm.val = .agg #[.slice a n8 c, .int .i64 0, .int .i64 st, .int .i64 lt, .int .i64 sq] := by unfold MV.val; rw [hmn, hmm]
  have hmc : mcs mm = #[.slice a n8 c, .int .i64 0, .int .i64 st, .int .i64 lt, .int .i64 sq] := by unfold mcs; rw [hmn, hmm]
  have HMV := Lib.hid (And.intro hmv hmc)
  clear hm hM hl8 hmm hn hmn hmv hmc
  simp only at hle htop HN HB ⊢
  go_enter Try.func7, Try.ntmps7
  go_wp2_with fail
  refine (lives_any _).mono ?_
  rintro e w1 ⟨rfl, hb1⟩
  have N1 := HN.out.bel hb1
  have HB1 := Lib.hid (bt HB.out hb1)
  have k0 := N1.cell 0
  have k1 := N1.cell 1
  have k2 := N1.cell 2
  have k3 := N1.cell 3
  have k4 := N1.cell 4
  have f0 := N1.frozen 0
  have f1 := N1.frozen 1
  simp only [List.getElem?_toArray, List.getElem?_cons_zero, List.getElem?_cons_succ] at k0 k1 k2 k3 k4
  have HN1 := Lib.hid N1
  clear hb1 HN HB N1
  have hif : (if (8 : Int) < (n : Int) then (8 : Int) else (n : Int)) = (n8 : Int) := by split <;> omega
  go_upto_region 5 with fail
  have HX2 : Hid (Blk ((w1.setCell ⟨w.heap.size, 0, none⟩ (.slice a n8 c)).setCell ⟨w.heap.size, 1, none⟩ (.int .i64 0)) w.heap.size 33 (mcs mm)) := by
    have := (HN1.out.set_ 0 (.slice a n8 c)).set_ 1 (.int .i64 0)
    rw [HMV.out.2]; exact this
  have HB2 : Hid (Below w.heap.size w ((w1.setCell ⟨w.heap.size, 0, none⟩ (.slice a n8 c)).setCell ⟨w.heap.size, 1, none⟩ (.int .i64 0))) :=
    below_only (((Only.of (F := fun _ => False) HB1.out).set_ (.inr (Nat.le_refl _)) 0 _).set_ (.inr (Nat.le_refl _)) 1 _) fun _ h => h.elim
  clear k0 k1 k2 k3 k4 f0 f1 HN1 HB1
  generalize (w1.setCell ⟨w.heap.size, 0, none⟩ (.slice a n8 c)).setCell ⟨w.heap.size, 1, none⟩ (.int .i64 0) = w2 at *
  have k0 := HX2.out.cell 0
  have k1 := HX2.out.cell 1
  have k2 := HX2.out.cell 2
  have k3 := HX2.out.cell 3
  have k4 := HX2.out.cell 4
  rw [HMV.out.2] at k0 k1 k2 k3 k4
  simp only [List.getElem?_toArray, List.getElem?_cons_zero, List.getElem?_cons_succ] at k0 k1 k2 k3 k4
  have C2 := Lib.hid (clone_any (HM.out.1.below HB2.out) (by have := HM.out.2; omega))
  rw [HMV.out.1] at C2
  clear hle htop hif
  go_wp2_with fail
  refine C2.out.mono ?_
  rintro e w3 ⟨u, rfl, hpu, hwu, hb3⟩
  unfold MV.val
  have hb4 := b01 w3 (.cells #[.slice u.a u.ws.length u.c, .int .i64 u.ln, .int .i64 u.st, .int .i64 u.lt, .int .i64 u.sq] 33)
  have HU4 := Lib.hid (hwu.below hb4)
  have HX4 := Lib.hid (HX2.out.bel (bt hb3 hb4))
  have HZ4 := Lib.hid (Blk.new w3 33 (mcs u))
  have HB4 := Lib.hid (bt HB2.out (bt hb3 hb4))
  have HPU := Lib.hid hpu
  have hs3 := hb3.size
  have HS3 : Hid (w2.heap.size ≤ w3.heap.size ∧ w.heap.size < w2.heap.size) := ⟨hs3, HX2.out.lt⟩
  clear hpu hwu hb3 hb4 k0 k1 k2 k3 k4 HX2 HB2 C2 hs3
  obtain ⟨w4, hw4⟩ : ∃ w4, w3.alloc (.cells #[.slice u.a u.ws.length u.c, .int .i64 u.ln, .int .i64 u.st, .int .i64 u.lt, .int .i64 u.sq] 33) = w4 := ⟨_, rfl⟩
  have HZ4' : Hid (Blk w4 w3.heap.size 33 (mcs u)) := by show Blk _ _ _ _; rw [← hw4]; exact HZ4.out
  rw [hw4] at HU4 HX4 HB4
  clear HZ4
  have HUb : Hid (∀ q, OB u q → q < w4.heap.size) := fun q hq => (ob_lt HU4.out q hq).2
  have k0 := HX4.out.cell 0
  have k1 := HX4.out.cell 1
  have k2 := HX4.out.cell 2
  have k3 := HX4.out.cell 3
  have k4 := HX4.out.cell 4
  rw [HMV.out.2] at k0 k1 k2 k3 k4
  simp only [List.getElem?_toArray, List.getElem?_cons_zero, List.getElem?_cons_succ] at k0 k1 k2 k3 k4
  have C4 := Lib.hid (clone_any (HM.out.1.below HB4.out) (by have := HM.out.2; omega))
  rw [HMV.out.1] at C4
  go_wp2_with fail
  refine C4.out.mono ?_
  rintro e w5 ⟨v, rfl, hpv, hwv, hb5⟩
  unfold MV.val
  have hb6 := b01 w5 (.cells #[.slice v.a v.ws.length v.c, .int .i64 v.ln, .int .i64 v.st, .int .i64 v.lt, .int .i64 v.sq] 33)
  have hb56 := bt hb5 hb6
  have HV6 := Lib.hid (hwv.below hb6)
  have HX6 := Lib.hid (HX4.out.bel hb56)
  have HZ6 := Lib.hid (HZ4'.out.bel hb56)
  have HU6 := Lib.hid (HU4.out.below hb56)
  have HY6 : Hid (Blk _ w5.heap.size 33 (mcs v)) := Blk.new w5 33 (mcs v)
  have HB6 := Lib.hid (bt HB4.out hb56)
  have HPV := Lib.hid hpv
  have HL6 : Hid (w3.heap.size < w4.heap.size ∧ w4.heap.size ≤ w5.heap.size) := ⟨HZ4'.out.lt, hb5.size⟩
  clear hpv hwv hb5 hb6 hb56 k0 k1 k2 k3 k4 HX4 HB4 C4 HU4 hw4
  obtain ⟨w6, hw6⟩ : ∃ w6, w5.alloc (.cells #[.slice v.a v.ws.length v.c, .int .i64 v.ln, .int .i64 v.st, .int .i64 v.lt, .int .i64 v.sq] 33) = w6 := ⟨_, rfl⟩
  have HY6' : Hid (Blk w6 w5.heap.size 33 (mcs v)) := by show Blk _ _ _ _; rw [← hw6]; exact HY6.out
  rw [hw6] at HV6 HX6 HZ6 HU6 HB6
  clear HY6
  have HVb : Hid (∀ q, OB v q → w4.heap.size ≤ q ∧ q < w6.heap.size) := fun q hq => ob_lt HV6.out q hq
  go_wp2_with fail
  refine (new_any 1 4 _).mono ?_
  rintro e w7 ⟨rfl, h7, hb7⟩
  have A7 : Hid (Lv w w7 w6.heap.size 1 4 (.slice none 0 0) []) := ⟨h7, fun k hk => by
    rcases hk with rfl | hk
    · exact HB6.out.size
    · simp [Value.ownBlock] at hk, bt HB6.out hb7⟩
  have HV7 := Lib.hid (HV6.out.below hb7)
  have HU7 := Lib.hid (HU6.out.below hb7)
  have HX7 := Lib.hid (HX6.out.bel hb7)
  have HZ7 := Lib.hid (HZ6.out.bel hb7)
  have HY7 := Lib.hid (HY6'.out.bel hb7)
  have HS7 : Hid (w5.heap.size < w6.heap.size ∧ w6.heap.size ≤ w7.heap.size) := ⟨HY6'.out.lt, hb7.size⟩
  have n0 := HY7.out.cell 0
  have n1 := HY7.out.cell 1
  have n2 := HY7.out.cell 2
  have n3 := HY7.out.cell 3
  have n4 := HY7.out.cell 4
  unfold mcs at n0 n1 n2 n3 n4
  simp only [List.getElem?_toArray, List.getElem?_cons_zero, List.getElem?_cons_succ] at n0 n1 n2 n3 n4
  clear h7 hb7 HV6 HU6 HX6 HZ6 HY6' HB6
  have hvln : v.ln = 0 := by have h1 := congrArg Pm.ln HPV.out; have h2 : mm.ln = 0 := by have := congrArg (fun x => x[1]?) HMV.out.2; simpa [mcs] using this
                             exact h1.trans h2
  have hvws : v.ws.length ≤ 8 := by have h1 := congrArg Pm.ws HPV.out; have h2 : v.ws = mm.ws := h1; rw [h2]; exact HM.out.2
  have C7 := Lib.hid (put_ok (m := v) A7.out.ln (St.nil_ 1 4 (by omega) (by omega)) HV7.out.wr (by omega) (by rw [hvln]; decide) (by rw [hvln]; decide))
  have HVL := Lib.hid (And.intro hvln hvws)
  unfold MV.val at C7
  clear hvln hvws
  go_wp2_with fail
  refine C7.out.mono ?_
  rintro e w8 ⟨y, r8, rfl, hp8⟩
  have nf : ∀ q, q < w6.heap.size → ¬ FL w6.heap.size (Value.slice none 0 0) q := fun q hq hk => by
    rcases hk with e | hk
    · omega
    · simp [Value.ownBlock] at hk
  have l1 := HS7.out.1
  have l2 := HS7.out.2
  have l3 := HL6.out.1
  have l4 := HL6.out.2
  have l5 := HS3.out.1
  have l6 := HS3.out.2
  have hln8 := hp8.ln
  rw [insL_nil] at hln8
  have A8 := Lib.hid (A7.out.step hln8 hp8.on hp8.nw)
  have HU8 := Lib.hid (HU7.out.only hp8.on A7.out.ln.no_int)
  have HV8 := Lib.hid (HV7.out.only hp8.on A7.out.ln.no_int)
  have HX8 := Lib.hid (hp8.on.blk HX7.out (nf _ (by omega)))
  have HZ8 := Lib.hid (hp8.on.blk HZ7.out (nf _ (by omega)))
  have HY8 := Lib.hid (hp8.on.blk HY7.out (nf _ (by omega)))
  have HPY := Lib.hid hp8.pl
  have HWy := Lib.hid hp8.wo
  have HS8 : Hid (w7.heap.size ≤ w8.heap.size) := hp8.on.size
  have HYb : Hid (∀ q, OB y q → w7.heap.size ≤ q ∧ q < w8.heap.size) := fun q hq => ob_lt HWy.out q hq
  obtain ⟨b, hb⟩ : ∃ b, w6.heap.size = b := ⟨_, rfl⟩
  have C8 := Lib.hid (all_any A8.out.ln (fun z hz => by
    rw [List.mem_singleton.1 hz]
    refine ⟨HWy.out.wr, ?_⟩
    have h1 : y.ws = v.ws := congrArg Pm.ws HPY.out
    rw [h1]; have := HVL.out.2; omega) (show 1 ≤ 1000 by decide))
  rw [hb] at C8 A8
  rw [hb]
  clear n0 n1 n2 n3 n4 C7 hp8 hln8 nf
  go_wp2_with fail
  refine C8.out.mono ?_
  rintro e w9 ⟨av, al, rfl, hal, hpl, hb9⟩
  obtain ⟨x, rfl⟩ : ∃ x, al = [x] := by
    have h1 := congrArg List.length hpl
    simp only [List.length_map, List.length_cons, List.length_nil] at h1
    match al, h1 with
    | [x], _ => exact ⟨x, rfl⟩
  have hxw : Wo w9 w8.heap.size x := hal.ws x (List.mem_singleton.2 rfl)
  have hpx : x.pl = y.pl := by simpa using hpl
  have hxo := hal.own
  obtain ⟨gA, hgA⟩ : ∃ gA cA, av = .slice (some ⟨gA, 0, none⟩) 1 cA := by
    rcases hxo.2 with ⟨_, h0⟩ | ⟨g, cap, cur, e, _⟩
    · exact absurd h0 (by simp)
    · exact ⟨g, cap, e⟩
  obtain ⟨cA, rfl⟩ := hgA
  have A9 := Lib.hid (A8.out.below hb9)
  have HX9 := Lib.hid (HX8.out.bel hb9)
  have HZ9 := Lib.hid (HZ8.out.bel hb9)
  have HY9 := Lib.hid (HY8.out.bel hb9)
  have HU9 := Lib.hid (HU8.out.below hb9)
  have HV9 := Lib.hid (HV8.out.below hb9)
  have HW9 := Lib.hid (HWy.out.below hb9)
  have HO9 : Hid (Own w9 w8.heap.size 33 5 (.slice (some ⟨gA, 0, none⟩) [x].length cA) [x].length (mvs [x])) := hxo
  have HXw := Lib.hid hxw
  have hF : ∀ q, (OB v q ∨ OB x q) → ∃ cs, Blk w9 q 3 cs := fun q hq => hq.elim (fun h => (OB.int HV9.out h).2) (fun h => (OB.int hxw h).2)
  have hL : ∀ q, (OB v q ∨ OB x q) → w.heap.size ≤ q := fun q hq => hq.elim (fun h => by have := (HVb.out q h).1; omega) (fun h => by have := (ob_lt hxw q h).1; have := HS8.out; omega)
  have N9 : Hid (Nn w (fun q => OB v q ∨ OB x q) w9 w9) := ⟨Only.refl _ _, hF, hL⟩
  have DU : Hid (∀ q, OB u q → ¬ (OB v q ∨ OB x q)) := fun q hq h => by
    have := HUb.out q hq
    rcases h with h | h
    · have := (HVb.out q h).1; omega
    · have := (ob_lt hxw q h).1; have := HS8.out; omega
  have DY : Hid (∀ q, OB y q → ¬ (OB v q ∨ OB x q)) := fun q hq h => by
    have := HYb.out q hq
    rcases h with h | h
    · have := (HVb.out q h).2; omega
    · have := (ob_lt hxw q h).1; omega
  have DV : Hid (∀ q, OB v q → ¬ OB x q) := fun q hq h => by
    have := (HVb.out q hq).2
    have := (ob_lt hxw q h).1
    have := HS8.out
    omega
  have hlx : x.ws.length ≤ 8 := by
    have h1 : x.ws = y.ws := congrArg Pm.ws hpx
    have h2 : y.ws = v.ws := congrArg Pm.ws HPY.out
    rw [h1, h2]; exact HVL.out.2
  have HLx := Lib.hid (And.intro hlx HVL.out.2)
  clear hal hpl hpx hxo hb9 hxw hF hL A8 HX8 HZ8 HY8 HU8 HV8 HWy C8 l1 l2 l3 l4 l5 l6 hlx
  simp only [List.length_cons, List.length_nil] at HO9
  go_wp2_with fail
  go_loopw [7] (fun i V => ∃ k : Nat, i = .int .i64 k ∧ k ≤ v.ws.length ∧ Nn w (fun q => OB v q ∨ OB x q) w9 V ∧ Wv V v ∧ Wv V x) (fun i _ => v.ws.length - (intOf i).toNat)
  case atStart => exact ⟨0, rfl, Nat.zero_le _, N9.out, .of HV9.out, .of HXw.out⟩
  case round =>
    obtain ⟨k, rfl, hk, hn, hv, hx⟩ := hrel
    have HH := Lib.hid (And.intro hn (And.intro hv hx))
    have y0 := (hn.blk HY9.out (by decide)).cell 0
    unfold mcs at y0
    simp only [List.getElem?_toArray, List.getElem?_cons_zero] at y0
    have hv8 : v.ws.length ≤ 8 := HLx.out.2
    by_cases hlt : k < v.ws.length
    · have hlz : (k : Int) < v.ws.length := by omega
      obtain ⟨g, z, hg, hob, c0, f0⟩ := hv.cell hlt
      have HG := Lib.hid (And.intro hg hob)
      rw [hg] at y0
      clear hn hv hx hg hob
      go_wp2_with fail
      go_roundw
      case rel => exact ⟨k + 1, by go_num, by omega, HH.out.1.set_ (.inl HG.out.2) k _, HH.out.2.1.set HG.out.1 _, wv_other HH.out.2.2 (DV.out _ HG.out.2) _⟩
      case measure => simp [intOf] <;> omega
    · have hlz : ¬ (k : Int) < v.ws.length := by omega
      clear hn hv hx hlt N9
      go_wp2_with fail
      clear y0
      go_loopw [8] (fun i V => ∃ k : Nat, i = .int .i64 k ∧ k ≤ 1 ∧ Nn w (fun q => OB v q ∨ OB x q) w9 V ∧ Wv V x) (fun i _ => 1 - (intOf i).toNat)
      case atStart => exact ⟨0, rfl, Nat.zero_le _, HH.out.1, HH.out.2.2⟩
      case round =>
        obtain ⟨j, rfl, hj, hn, hx⟩ := hrel
        by_cases hj1 : j < 1
        · obtain rfl : j = 0 := by omega
          have H2 := Lib.hid (And.intro hn hx)
          clear hn hx hj1 HH
          go_wp2_with fail
          go_loopw [9] (fun i V => ∃ k : Nat, i = .int .i64 k ∧ k ≤ x.ws.length ∧ Nn w (fun q => OB v q ∨ OB x q) w9 V ∧ Wv V x) (fun i _ => x.ws.length - (intOf i).toNat)
          case atStart => exact ⟨0, rfl, Nat.zero_le _, H2.out.1, H2.out.2⟩
          case round =>
            obtain ⟨k2, rfl, hk2, hn, hx⟩ := hrel
            have HH2 := Lib.hid (And.intro hn hx)
            have hx8 : x.ws.length ≤ 8 := HLx.out.1
            obtain ⟨q1, g', e', q2, a0, q3⟩ := own_msg (k := 0) (m := x) (l := [x]) (n := 1) (hn.own HO9.out (by decide)) rfl
            clear q1 q2 q3
            injection e' with e'
            injection e' with e'
            subst e'
            rw [Nat.zero_mul] at a0
            by_cases hlt2 : k2 < x.ws.length
            · have hlz2 : (k2 : Int) < x.ws.length := by omega
              obtain ⟨g, z, hg, hob, c0, f0⟩ := hx.cell hlt2
              have HG := Lib.hid (And.intro hg hob)
              rw [hg] at a0
              clear hn hx hg hob H2
              go_wp2_with fail
              go_roundw
              case rel => exact ⟨k2 + 1, by go_num, by omega, HH2.out.1.set_ (.inr HG.out.2) k2 _, HH2.out.2.set HG.out.1 _⟩
              case measure => simp [intOf] <;> omega
            · have hlz2 : ¬ (k2 : Int) < x.ws.length := by omega
              clear hn hx hlt2 H2
              go_wp2_with fail
              go_roundw
              case rel => exact ⟨1, by go_num, Nat.le_refl _, HH2.out.1, HH2.out.2⟩
              case measure => simp [intOf]
        · obtain rfl : j = 1 := by omega
          have HN := Lib.hid hn
          clear hn hx hj hj1 HH
          have C := Lib.hid (take_any (HN.out.lv A9.out).ln (show 1 ≤ 1000 by decide))
          have hv8 : True := trivial
          go_wp2_with fail
          refine C.out.mono ?_
          rintro e w11 ⟨r11, rfl, h1, h2, h3⟩
          have A11 := Lib.hid ((HN.out.lv A9.out).out h1 h3 h2)
          have hbM : ∀ q, q < b → ¬ (fun k => k = b) q := fun q hq e => by have e' : q = b := e; omega
          have X11 := h3.blk (HN.out.blk HX9.out (by decide)) (hbM _ (by have := HS7.out.1; have := HL6.out; have := HS3.out; omega))
          have Z11 := h3.blk (HN.out.blk HZ9.out (by decide)) (hbM _ (by have := HS7.out.1; have := HL6.out; omega))
          have U11 := (HN.out.wo HU9.out DU.out).only h3 (fun q cs hq e => (HN.out.lv A9.out).ln.no_int q cs hq (.inl e))
          have Y11 := (HN.out.wo HW9.out DY.out).only h3 (fun q cs hq e => (HN.out.lv A9.out).ln.no_int q cs hq (.inl e))
          have eyu : one y u = true := decide_eq_true (HPY.out.trans (HPV.out.trans HPU.out.symm))
          have emu : one mm u = true := decide_eq_true HPU.out.symm
          have esm : sames [y] [u] = true := decide_eq_true (by simp only [List.map_cons, List.map_nil]; rw [of_decide_eq_true eyu])
          have M11 : Wr w11 mm := HM.out.1.below A11.out.bl
          have HBL := Lib.hid A11.out.bl
          simp only [List.headD, List.isEmpty, Bool.not_false]
          have hb12 := b01 w11 (.cells #[.slice y.a y.ws.length y.c, .int .i64 y.ln, .int .i64 y.st, .int .i64 y.lt, .int .i64 y.sq] 33)
          have G12 := Blk.new w11 33 #[.slice y.a y.ws.length y.c, .int .i64 y.ln, .int .i64 y.st, .int .i64 y.lt, .int .i64 y.sq]
          have H12 := Lib.hid (And.intro (X11.bel hb12) (And.intro (Z11.bel hb12) (And.intro (U11.wr.below hb12) (And.intro (Y11.wr.below hb12) (M11.below hb12)))))
          have HG12 := Lib.hid G12
          have HB12 := Lib.hid (bt HBL.out hb12)
          clear h1 h2 h3 hbM X11 Z11 U11 Y11 M11 HBL hb12 G12 C
          unfold MV.val
          have HT := Lib.hid (And.intro eyu (And.intro emu esm))
          clear eyu emu esm
          obtain ⟨w12, hw12⟩ : ∃ w12, w11.alloc (.cells #[.slice y.a y.ws.length y.c, .int .i64 y.ln, .int .i64 y.st, .int .i64 y.lt, .int .i64 y.sq] 33) = w12 := ⟨_, rfl⟩
          rw [hw12] at H12 HG12 HB12
          have g0 := HG12.out.cell 0
          have g1 := HG12.out.cell 1
          have g2 := HG12.out.cell 2
          have g3 := HG12.out.cell 3
          have g4 := HG12.out.cell 4
          have z0 := H12.out.2.1.cell 0
          have z1 := H12.out.2.1.cell 1
          have z2 := H12.out.2.1.cell 2
          have z3 := H12.out.2.1.cell 3
          have z4 := H12.out.2.1.cell 4
          unfold mcs at z0 z1 z2 z3 z4
          simp only [List.getElem?_toArray, List.getElem?_cons_zero, List.getElem?_cons_succ] at g0 g1 g2 g3 g4 z0 z1 z2 z3 z4
          have C12 := Lib.hid (one_any H12.out.2.2.2.1 H12.out.2.2.1)
          rw [HT.out.1] at C12
          unfold MV.val at C12
          go_wp2_with fail
          refine C12.out.mono ?_
          rintro e w13 ⟨rfl, hg13⟩
          have hb13 := hg13.below
          have H13 := Lib.hid (And.intro (H12.out.1.bel hb13) (And.intro (H12.out.2.1.bel hb13) (And.intro (H12.out.2.2.1.below hb13) (And.intro (H12.out.2.2.2.1.below hb13) (H12.out.2.2.2.2.below hb13)))))
          have HG13 := Lib.hid (HG12.out.bel hb13)
          have HB13 := Lib.hid (bt HB12.out hb13)
          clear g0 g1 g2 g3 g4 z0 z1 z2 z3 z4 hg13 hb13 C12 H12 HG12 HB12 hw12
          have k0 := H13.out.1.cell 0
          have k1 := H13.out.1.cell 1
          have k2 := H13.out.1.cell 2
          have k3 := H13.out.1.cell 3
          have k4 := H13.out.1.cell 4
          rw [HMV.out.2] at k0 k1 k2 k3 k4
          have z0 := H13.out.2.1.cell 0
          have z1 := H13.out.2.1.cell 1
          have z2 := H13.out.2.1.cell 2
          have z3 := H13.out.2.1.cell 3
          have z4 := H13.out.2.1.cell 4
          unfold mcs at z0 z1 z2 z3 z4
          simp only [List.getElem?_toArray, List.getElem?_cons_zero, List.getElem?_cons_succ] at k0 k1 k2 k3 k4 z0 z1 z2 z3 z4
          have C13 := Lib.hid (one_any H13.out.2.2.2.2 H13.out.2.2.1)
          rw [HT.out.2.1, HMV.out.1] at C13
          unfold MV.val at C13
          go_wp2_with fail
          refine C13.out.mono ?_
          rintro e w14 ⟨rfl, hg14⟩
          have hb14 := hg14.below
          have b15 := b01 w14 (.cells #[.slice y.a y.ws.length y.c, .int .i64 y.ln, .int .i64 y.st, .int .i64 y.lt, .int .i64 y.sq] 33)
          have b16 := b01 (w14.alloc (.cells #[.slice y.a y.ws.length y.c, .int .i64 y.ln, .int .i64 y.st, .int .i64 y.lt, .int .i64 y.sq] 33)) (.cells #[.slice u.a u.ws.length u.c, .int .i64 u.ln, .int .i64 u.st, .int .i64 u.lt, .int .i64 u.sq] 33)
          have hb16 := bt hb14 (bt b15 b16)
          have R1 : Row ((w14.alloc (.cells #[.slice y.a y.ws.length y.c, .int .i64 y.ln, .int .i64 y.st, .int .i64 y.lt, .int .i64 y.sq] 33)).alloc (.cells #[.slice u.a u.ws.length u.c, .int .i64 u.ln, .int .i64 u.st, .int .i64 u.lt, .int .i64 u.sq] 33)) (some ⟨w14.heap.size, 0, none⟩) (mvs [y]) := by
            rw [show mvs [y] = y.cells by simp [mvs]]; exact (row_one w14 y).below b16
          have R2 : Row ((w14.alloc (.cells #[.slice y.a y.ws.length y.c, .int .i64 y.ln, .int .i64 y.st, .int .i64 y.lt, .int .i64 y.sq] 33)).alloc (.cells #[.slice u.a u.ws.length u.c, .int .i64 u.ln, .int .i64 u.st, .int .i64 u.lt, .int .i64 u.sq] 33)) (some ⟨w14.heap.size + 1, 0, none⟩) (mvs [u]) := by
            rw [show mvs [u] = u.cells by simp [mvs]]
            have := row_one (w14.alloc (.cells #[.slice y.a y.ws.length y.c, .int .i64 y.ln, .int .i64 y.st, .int .i64 y.lt, .int .i64 y.sq] 33)) u
            simp only [World.size_alloc] at this
            exact this
          have C16 := Lib.hid (same_any (c := 1) (d := 1) R1 R2 (fun m hm => by rw [List.mem_singleton.1 hm]; exact H13.out.2.2.2.1.below hb16) (fun m hm => by rw [List.mem_singleton.1 hm]; exact H13.out.2.2.1.below hb16) (show 1 ≤ 1000 by decide) (show 1 ≤ 1000 by decide))
          rw [HT.out.2.2] at C16
          simp only [List.length_cons, List.length_nil] at C16
          have HB16 := Lib.hid (bt HB13.out hb16)
          have G14 := HG13.out.bel hb14
          have Z14 := (H13.out.2.1.bel hb14).bel b15
          clear k0 k1 k2 k3 k4 z0 z1 z2 z3 z4 C13 R1 R2
          have g0 := G14.cell 0
          have g1 := G14.cell 1
          have g2 := G14.cell 2
          have g3 := G14.cell 3
          have g4 := G14.cell 4
          have z0 := Z14.cell 0
          have z1 := Z14.cell 1
          have z2 := Z14.cell 2
          have z3 := Z14.cell 3
          have z4 := Z14.cell 4
          unfold mcs at z0 z1 z2 z3 z4
          simp only [List.getElem?_toArray, List.getElem?_cons_zero, List.getElem?_cons_succ] at g0 g1 g2 g3 g4 z0 z1 z2 z3 z4
          clear G14 Z14 b15 b16 hb16 hb14 hg14
          go_wp2_with fail
          refine C16.out.mono ?_
          rintro e w17 ⟨rfl, hb17⟩
          go_wp2_with fail
          go_ret
          exact ⟨rfl, bt HB16.out hb17⟩
end Go.Proofs.Ytjkdajkfbphnpaa.laneOwns
