/- Lanes: what a Put leaves, in the words of what the messages tell; two Lanes side by side. -/
import Derived.Test.YtmfkapbllmfegaaQStep
namespace Go.Proofs.Ytmfkapbllmfegaa.L10
open Go.RowKit Go.Proofs.Ytmfkapbllmfegaa.G
set_option maxRecDepth 100000
variable {w w' : World} {b L P : Nat} {r : Value} {d : List MV}
/-- Behind those of its lane, and of lower-numbered ones. -/
def insP (d : List Pm) (m : Pm) : List Pm := d.filter (fun x => decide (x.ln ≤ m.ln)) ++ m :: d.filter (fun x => !decide (x.ln ≤ m.ln))
theorem insL_pl (d : List MV) (m : MV) : (insL d m).map MV.pl = insP (d.map MV.pl) m.pl := by
  unfold insL insP
  rw [List.map_append, List.map_cons, List.filter_map, List.filter_map]
  rfl
theorem cnt_pl {d e : List MV} (h : d.map MV.pl = e.map MV.pl) (k : Int) : cnt d k = cnt e k := by
  have q : ∀ x : List MV, cnt x k = ((x.map MV.pl).filter (fun y => decide (y.ln = k))).length := fun x => by
    unfold cnt
    rw [List.filter_map, List.length_map]
    rfl
  rw [q, q, h]
theorem pcode_pl {d e : List MV} (h : d.map MV.pl = e.map MV.pl) (l : Int) : pcode L P d l = pcode L P e l := by unfold pcode; rw [cnt_pl h]
/-- What a Put leaves, told. -/
def putP (L P : Nat) (d : List MV) (m : MV) : List Pm := if pcode L P d m.ln = 0 then insP (d.map MV.pl) m.pl else d.map MV.pl
theorem putP_pl {d e : List MV} (h : d.map MV.pl = e.map MV.pl) (m : MV) : putP L P d m = putP L P e m := by unfold putP; rw [pcode_pl h, h]
def PpPost (w : World) (b L P : Nat) (r : Value) (d : List MV) (m : MV) (e : Ending) (w' : World) : Prop := ∃ r' d', e = .returned (.int .i64 (pcode L P d m.ln)) ∧ PaW w b L P r d m.ln r' d' w' ∧ d'.map MV.pl = putP L P d m
theorem putp_any (h : Ln w b L P r d) (hs : St L P d) {m : MV} (hw : Wr w m) (hwl : m.ws.length ≤ 1000) : Calls Try.prog 60 #[.pointer (some ⟨b, 0, none⟩), m.val] w (PpPost w b L P r d m) := by
  cases hl : isL L m.ln with
  | false =>
    have e : pcode L P d m.ln = 3 := by unfold pcode; rw [hl]; rfl
    refine (put_no h m hl).mono fun x w' ⟨he, hb⟩ => ⟨r, d, by rw [e]; exact he, ⟨h.below hb, hs, fun k => ?_, .of hb, .refl _ _, fun hd => hd.below hb⟩, by unfold putP; rw [e, if_neg (by decide)]⟩
    rw [e, if_neg (fun hh => absurd hh.1 (by decide))]; rfl
  | true =>
    by_cases hr : cnt d m.ln < P
    · have e : pcode L P d m.ln = 0 := by unfold pcode; rw [hl, if_pos rfl, if_pos hr]
      refine (put_ok h hs hw hwl hl hr).mono fun x w' ⟨m', r', he, hp⟩ => ?_
      have e1 : m'.ln = m.ln := congrArg Pm.ln hp.pl
      refine ⟨r', insL d m', by rw [e]; exact he, ⟨hp.ln, hs.put (by rw [e1]; exact hl) (by rw [e1]; exact hr), fun k => ?_, hp.on, hp.nw, fun hd x hx => ?_⟩, by unfold putP; rw [e, if_pos rfl, insL_pl, hp.pl]⟩
      · rw [cnt_insL d m' hs.srt, e1, e]
        by_cases c : m.ln = k <;> simp [c]
      · rcases insL_mem hx with rfl | hx
        · refine ⟨hp.wo.less (Nat.zero_le _), ?_⟩
          have h1 : x.ws = m.ws := congrArg Pm.ws hp.pl
          rw [h1]; exact hwl
        · exact ⟨(hd x hx).1.only hp.on h.no_int, (hd x hx).2⟩
    · have hr' : cnt d m.ln = P := by have := hs.cn m.ln; omega
      have e : pcode L P d m.ln = 10 := by unfold pcode; rw [hl, if_pos rfl, if_neg hr]
      refine (put_full h hs m hl hr').mono fun x w' ⟨he, hb⟩ => ⟨r, d, by rw [e]; exact he, ⟨h.below hb, hs, fun k => ?_, .of hb, .refl _ _, fun hd => hd.below hb⟩, by unfold putP; rw [e, if_neg (by decide)]⟩
      rw [e, if_neg (fun hh => absurd hh.1 (by decide))]; rfl
/-- Two Lanes that share no block. -/
structure Two (w0 w : World) (a b L P : Nat) (q r : Value) (c d : List MV) : Prop where
  va : Lv w0 w a L P q c
  vb : Lv w0 w b L P r d
  sa : St L P c
  sb : St L P d
  wa : Wd w c
  wb : Wd w d
  ap : ∀ k, FL a q k → ¬ FL b r k
variable {w0 : World} {a : Nat} {q : Value} {c : List MV}
theorem Two.swap (h : Two w0 w a b L P q r c d) : Two w0 w b a L P r q d c := ⟨h.vb, h.va, h.sb, h.sa, h.wb, h.wa, fun k hk h2 => h.ap k h2 hk⟩
theorem Two.below (h : Two w0 w a b L P q r c d) (hb : Below w.heap.size w w') : Two w0 w' a b L P q r c d := ⟨h.va.below hb, h.vb.below hb, h.sa, h.sb, h.wa.below hb, h.wb.below hb, h.ap⟩
theorem Lv.fl_ge (h : Lv w0 w b L P r d) {k : Nat} (hk : FL b r k) : w0.heap.size ≤ k := h.ab k hk
/-- The first has turned. -/
theorem Two.put (h : Two w0 w a b L P q r c d) {l : Int} {q' : Value} {c' : List MV} (hp : PaW w a L P q c l q' c' w') : Two w0 w' a b L P q' r c' d :=
  ⟨h.va.step hp.ln hp.on hp.nw, h.vb.other hp.on fun k hk => ⟨h.ap k hk, h.va.fl_ge hk⟩, hp.st, h.sb, hp.wd h.wa, h.wb.only hp.on h.va.ln.no_int, fun k hk h2 => off_nw hp.nw (fun h3 => h.ap k h3 h2) (h.vb.ln.lts k h2) hk⟩
/-- The first has given something up. -/
theorem Two.out (h : Two w0 w a b L P q r c d) {q' : Value} {c' : List MV} (hl : Ln w' a L P q' c') (ho : Only (fun k => k = a) w w') (hn : ∀ k, q'.ownBlock = some k → w.heap.size ≤ k) (hs : c'.Sublist c) : Two w0 w' a b L P q' r c' d :=
  ⟨h.va.out hl ho hn, h.vb.other ho fun k hk => by
    have e : k = a := hk
    subst e
    exact ⟨h.ap _ (.inl rfl), h.va.fl_ge (.inl rfl)⟩, ⟨h.sa.l3, h.sa.p8, h.sa.srt.sublist hs, fun x hx => h.sa.ln x (hs.subset hx), fun k => Nat.le_trans (hs.filter _).length_le (h.sa.cn k)⟩, h.sb, (h.wa.sub fun x hx => hs.subset hx).only ho fun g cs hg e => h.va.ln.no_int g cs hg (.inl e), h.wb.only ho fun g cs hg e => h.va.ln.no_int g cs hg (.inl e), fun k hk h2 => by
    rcases hk with e | hk
    · exact h.ap k (.inl e) h2
    · have := hn k hk; have := h.vb.ln.lts k h2; omega⟩
theorem Two.new {w1 w2 w3 : World} (h1 : Below w0.heap.size w0 w1) (h2 : Ln w2 w1.heap.size L P (.slice none 0 0) []) (b2 : Below w1.heap.size w1 w2) (h3 : Ln w3 w2.heap.size L P (.slice none 0 0) []) (b3 : Below w2.heap.size w2 w3) (hL : L ≤ 3) (hP : P ≤ 8) : Two w0 w3 w1.heap.size w2.heap.size L P (.slice none 0 0) (.slice none 0 0) [] [] := by
  have s1 := h1.size
  have s2 := h2.lt
  have hb := bt h1 (bt b2 b3)
  have n : ∀ k, ¬ (Value.slice none 0 0).ownBlock = some k := fun k hk => by simp [Value.ownBlock] at hk
  refine ⟨⟨h2.below b3, fun k hk => ?_, hb⟩, ⟨h3, fun k hk => ?_, hb⟩, St.nil_ L P hL hP, St.nil_ L P hL hP, Wd.nil_ _, Wd.nil_ _, fun k hk h => ?_⟩
  · rcases hk with e | hk
    · omega
    · exact absurd hk (n k)
  · rcases hk with e | hk
    · omega
    · exact absurd hk (n k)
  · rcases hk with e | hk
    · rcases h with e2 | h
      · omega
      · exact absurd h (n k)
    · exact absurd hk (n k)
end Go.Proofs.Ytmfkapbllmfegaa.L10
