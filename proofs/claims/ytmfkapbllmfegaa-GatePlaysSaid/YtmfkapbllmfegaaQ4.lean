/- Lanes: those, which tells clones of the messages that a function tells: a contract over that function's own. -/
import Derived.Test.YtmfkapbllmfegaaQ3
namespace Go.Proofs.Ytmfkapbllmfegaa.L10
open Go.RowKit Go.Proofs.Ytmfkapbllmfegaa.G
set_option maxRecDepth 100000
variable {w w' : World} {b L P : Nat} {r : Value} {d : List MV}

/-- A list of messages in memory of its own, their words too. -/
structure Msgs (w : World) (B : Nat) (v : Value) (l : List MV) : Prop where
  own : Own w B 43 5 v l.length (mvs l)
  ws : ∀ m ∈ l, Wo w B m
theorem Msgs.below {B : Nat} {v : Value} {l : List MV} (h : Msgs w B v l) (hb : Below w.heap.size w w') : Msgs w' B v l := ⟨h.own.below hb, fun m hm => (h.ws m hm).below hb⟩
theorem Msgs.less {B B' : Nat} {v : Value} {l : List MV} (h : Msgs w B v l) (hB : B' ≤ B) : Msgs w B' v l := ⟨h.own.less hB, fun m hm => (h.ws m hm).less hB⟩
theorem Msgs.nil_ (w : World) (B : Nat) : Msgs w B (.slice none 0 0) [] := ⟨Own.nil_ _ _ _ _, fun m hm => absurd hm (by simp)⟩
theorem Msgs.only {F : Nat → Prop} {B : Nat} {v : Value} {l : List MV} (h : Msgs w B v l) (k : Only F w w') (hv : ∀ q, v.ownBlock = some q → ¬ F q) (hn : ∀ g cs, Blk w g 3 cs → ¬ F g) : Msgs w' B v l :=
  ⟨k.own h.own hv, fun m hm => (h.ws m hm).only k hn⟩
theorem Wo.grown {m : MV} {B B' n : Nat} {v : Value} {xs : List Value} (h : Wo w B m) (ho : Own w B' 43 5 v n xs) (hg : w.grownBy w' v.ownBlock) : Wo w' B m :=
  Own.grown h hg fun q hq e => by
    obtain ⟨cs, hc⟩ := h.typ hq
    obtain ⟨_, cur, hc'⟩ := ho.block_lt e.symm
    exact Blk.ne_ hc hc' (by decide) rfl
structure InvT (w : World) (b L P : Nat) (r : Value) (d : List MV) (g : Nat → MV → Bool) (St : Nat → World → Prop) (k j : Nat) (gv : Value) (l : List MV) (V : World) : Prop where
  og : Msgs V w.heap.size gv l
  pl : l.map MV.pl = (sel g 0 (d.take k)).map MV.pl
  ln : Ln V b L P r d
  st : St j V
  on : Below w.heap.size w V
section
variable {fv : Value} {g : Nat → MV → Bool} {St : Nat → World → Prop} {K : Nat → Prop} {fn : Nat} {bs : Array Value} {k j : Nat} {gv : Value} {l : List MV} {V V' : World}
theorem InvT.len (h : InvT w b L P r d g St k j gv l V) : l.length ≤ d.length := by
  have h1 := congrArg List.length h.pl
  have h2 := sel_len g (d.take k) 0
  simp only [List.length_map, List.length_take] at h1 h2
  omega
theorem InvT.below (h : InvT w b L P r d g St k j gv l V) (hF : Fun fv g St K fn bs) (hb : Below V.heap.size V V') : InvT w b L P r d g St k j gv l V' :=
  ⟨h.og.below hb, h.pl, h.ln.below hb, hF.keep _ _ _ h.st (.below hb), bt h.on hb⟩
theorem below_of {F : Nat → Prop} (h : Only F w w') (hF : ∀ k, ¬ F k) : Below w.heap.size w w' := ⟨h.os, h.tape, h.output, h.size, fun q hq => h.block q hq (hF q)⟩
theorem InvT.called (h : InvT w b L P r d g St k j gv l V) (hK : ∀ k, ¬ K k) (hs : St (j + 1) V') (ho : Only K V V') : InvT w b L P r d g St k (j + 1) gv l V' :=
  ⟨h.og.below (below_of ho hK), h.pl, h.ln.below (below_of ho hK), hs, bt h.on (below_of ho hK)⟩
theorem InvT.add (h : InvT w b L P r d g St k j gv l V) (hF : Fun fv g St K fn bs) (h0 : ∀ q, FL b r q → q < w.heap.size) {m m' : MV} (hm : d[k]? = some m) (hg : g k m = true) (hp : m'.pl = m.pl) (hw : Wo V w.heap.size m') {gv' : Value}
    (ho : Own V' w.heap.size 43 5 gv' (l.length + 1) (mvs l ++ m'.cells)) (hgr : V.grownBy V' gv.ownBlock) : InvT w b L P r d g St (k + 1) j gv' (l ++ [m']) V' := by
  have hd : ∀ q, gv.ownBlock = some q → w.heap.size ≤ q := fun q hq => (h.og.own.block_lt hq).1
  refine ⟨⟨?_, fun m1 hm1 => ?_⟩, ?_, ⟨?_, ?_⟩, hF.keep _ _ _ h.st (ints_grown h.og.own hgr), h.on.grown hgr h.on.size hd⟩
  · rw [List.length_append, mvs_snoc]; exact ho
  · rcases List.mem_append.1 hm1 with h1 | h1
    · exact (h.og.ws m1 h1).grown h.og.own hgr
    · obtain rfl : m1 = m' := by simpa using h1
      exact hw.grown h.og.own hgr
  · rw [sel_yes hm hg, List.map_append, List.map_append, h.pl]; simp [hp]
  · exact blk_grown h.ln.blk hgr fun e => by have := hd b e.symm; have := h0 b (.inl rfl); omega
  · exact h.ln.own.grown hgr fun q hq e => by have := hd q e.symm; have := h0 q (.inr hq); omega
end
def ThPost (d : List MV) (g : Nat → MV → Bool) (w : World) (e : Ending) (w' : World) : Prop := ∃ v l, e = .returned v ∧ Msgs w' w.heap.size v l ∧ l.map MV.pl = (sel g 0 d).map MV.pl ∧ Below w.heap.size w w'
theorem those_nil (f : Value) (w : World) : Calls Try.prog 69 #[.pointer none, f] w fun e w' => e = .returned (.slice none 0 0) ∧ Below w.heap.size w w' := by
  go_enter Try.func69, Try.ntmps69
  go_wp2_with fail
  refine (there_nil _).mono ?_
  rintro e w1 ⟨rfl, rfl⟩
  go_wp2_with fail
  go_loopw [5, 11] (fun l i V => l = .slice none 0 0 ∧ i = .int .i64 0 ∧ Below w.heap.size w V) (fun _ _ _ => 0)
  case atStart => exact ⟨rfl, rfl, Below.refl _ _⟩
  case round =>
    obtain ⟨rfl, rfl, hb⟩ := hrel
    go_wp2_with fail
    go_ret
    exact ⟨rfl, hb⟩
set_option maxHeartbeats 4000000 in
theorem those_any {fv : Value} {g : Nat → MV → Bool} {St : Nat → World → Prop} {K : Nat → Prop} {fn : Nat} {bs : Array Value} (h : Ln w b L P r d) (h0 : ∀ q, FL b r q → q < w.heap.size) (hw : ∀ m ∈ d, Wr w m ∧ m.ws.length ≤ 1000) (hF : Fun fv g St K fn bs) (hK : ∀ k, ¬ K k) (hs : St 0 w) (hd : d.length ≤ 1000) :
    Calls Try.prog 69 #[.pointer (some ⟨b, 0, none⟩), fv] w (ThPost d g w) := by
  obtain ⟨i0, hi, hz0, hz1, hz2⟩ := info_parts infoM
  have HT := Lib.hid (there_any h)
  have HH := Lib.hid h
  have H0 := Lib.hid h0
  have HF := Lib.hid hF
  have HS := Lib.hid hs
  have HW := Lib.hid hw
  have HK := Lib.hid hK
  have ent := hF.ent
  obtain ⟨A, c, rfl, hx⟩ := h.own.row
  clear hx
  have ev := hF.val
  subst ev
  clear h h0 hF hs hw hK
  go_enter Try.func69, Try.ntmps69
  go_wp2_with fail
  refine HT.out.mono ?_
  rintro e w1 ⟨rfl, rfl⟩
  go_wp2_with fail
  go_loopw [5, 11] (fun gv i V => ∃ (k : Nat) (l : List MV), i = .int .i64 k ∧ k ≤ d.length ∧ InvT w b L P (.slice A d.length c) d g St k k gv l V) (fun _ i _ => d.length - (intOf i).toNat)
  case atStart => exact ⟨0, [], rfl, by omega, ⟨.nil_ _ _, rfl, HH.out, HS.out, Below.refl _ _⟩⟩
  case round =>
    obtain ⟨k, l, rfl, hk, hI⟩ := hrel
    obtain ⟨A1, c1, rfl, hx1⟩ := hI.og.own.row
    clear hx1
    have HI := Lib.hid hI
    by_cases hlt : k < d.length
    · obtain ⟨m, hm⟩ : ∃ m, d[k]? = some m := ⟨_, List.getElem?_eq_getElem hlt⟩
      obtain ⟨hx3, gg, rfl, hgg, q0, q1, q2, q3, q4⟩ := own_msg hI.ln.own hm
      clear hx3
      have f1 : (k : Int) < d.length := by omega
      have HM := Lib.hid hm
      have HI1 := Lib.hid (hI.below HF.out (b01 wr (.cells #[.slice m.a m.ws.length m.c, .int .i64 m.ln, .int .i64 m.st, .int .i64 m.lt, .int .i64 m.sq] 43)))
      have N0 := Lib.hid (Blk.new wr 43 #[.slice m.a m.ws.length m.c, .int .i64 m.ln, .int .i64 m.st, .int .i64 m.lt, .int .i64 m.sq])
      have n0 := N0.out.cell 0
      have n1 := N0.out.cell 1
      have n2 := N0.out.cell 2
      have n3 := N0.out.cell 3
      have n4 := N0.out.cell 4
      simp only [List.getElem?_toArray, List.getElem?_cons_zero, List.getElem?_cons_succ] at n0 n1 n2 n3 n4
      have HWm := Lib.hid (HW.out m (List.mem_of_getElem? hm))
      clear hI hm HI HH HS HT
      have HC := HF.out.call k m _ (by omega) HI1.out.st
      unfold MV.val at HC
      cases hgk : g k m with
      | true =>
        have HG := Lib.hid hgk
        rw [hgk] at HC
        have HC' := Lib.hid HC
        clear HC hgk
        go_wp2_with fail
        refine HC'.out.mono ?_
        rintro e w1 ⟨rfl, hs1, ho1⟩
        have B0 := ho1.blk N0.out (HF.out.off HI1.out.st N0.out (by decide))
        have HI2 := Lib.hid (HI1.out.called HK.out hs1 ho1)
        clear n0 n1 n2 n3 n4 N0 HI1 hs1 ho1 HC' q0 q1 q2 q3 q4
        have n0 := B0.cell 0
        have n1 := B0.cell 1
        have n2 := B0.cell 2
        have n3 := B0.cell 3
        have n4 := B0.cell 4
        simp only [List.getElem?_toArray, List.getElem?_cons_zero, List.getElem?_cons_succ] at n0 n1 n2 n3 n4
        have HCl := Lib.hid (clone_any (HWm.out.1.below HI2.out.on) HWm.out.2)
        unfold MV.val at HCl
        clear B0
        go_wp2_with fail
        refine HCl.out.mono ?_
        rintro e w2 ⟨m', rfl, hp, hwo, hb2⟩
        unfold MV.val
        have HI3 := Lib.hid ((HI2.out.below HF.out hb2).below HF.out (b01 w2 (.cells #[.slice m'.a m'.ws.length m'.c, .int .i64 m'.ln, .int .i64 m'.st, .int .i64 m'.lt, .int .i64 m'.sq] 43)))
        have HP := Lib.hid hp
        have HO := Lib.hid ((hwo.less HI2.out.on.size).below (b01 w2 (.cells #[.slice m'.a m'.ws.length m'.c, .int .i64 m'.ln, .int .i64 m'.st, .int .i64 m'.lt, .int .i64 m'.sq] 43)))
        have HR := Lib.hid (row_one w2 m')
        have HSz := Lib.hid HI3.out.on.size
        have HL := Lib.hid HI3.out.len
        clear hp hwo hb2 HI2 HCl
        go_wp2_with (at_builtin; go_must (refine wpList_app Try.underlying29 hi hz0 hz1 hz2 rfl (by decide) rfl (.tmp 18) (.tmp 21) rfl w.heap.size (.slice A1 l.length c1) l.length (mvs l) rfl HI3.out.og.own (some ⟨w2.heap.size, 0, none⟩) 1 1 m'.cells rfl HR.out rfl (MV.one m') (by have := HL.out; omega) (by decide) HSz.out ?_); intro v' w5 ho5 hb5 hg5 hob5; have H5 := Lib.hid (And.intro ho5 hg5); clear ho5 hb5 hg5 hob5)
        go_roundw
        case rel => exact ⟨k + 1, l ++ [m'], by go_num, by omega, HI3.out.add HF.out H0.out HM.out HG.out HP.out HO.out H5.out.1 H5.out.2⟩
        case measure => simp [intOf]; omega
      | false =>
        have HG := Lib.hid hgk
        rw [hgk] at HC
        have HC' := Lib.hid HC
        clear HC hgk
        go_wp2_with fail
        refine HC'.out.mono ?_
        rintro e w1 ⟨rfl, hs1, ho1⟩
        have HI2 := Lib.hid (HI1.out.called HK.out hs1 ho1)
        clear n0 n1 n2 n3 n4 N0 HI1 hs1 ho1 HC' q0 q1 q2 q3 q4
        go_wp2_with fail
        go_roundw
        case rel => exact ⟨k + 1, l, by go_num, by omega, HI2.out.og, by rw [sel_no HM.out HG.out]; exact HI2.out.pl, HI2.out.ln, HI2.out.st, HI2.out.on⟩
        case measure => simp [intOf]; omega
    · obtain rfl : k = d.length := by omega
      clear hI hlt HH HS HT
      go_wp2_with fail
      go_ret
      have hp := HI.out.pl
      rw [List.take_length] at hp
      exact ⟨_, l, rfl, HI.out.og, hp, HI.out.on⟩
end Go.Proofs.Ytmfkapbllmfegaa.L10
