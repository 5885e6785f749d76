/- Lanes: Put, whatever it answers: a contract. -/
import Derived.Test.YtmfkapbllmfegaaQArgs
namespace Go.Proofs.Ytmfkapbllmfegaa.L10
open Go.RowKit Go.Proofs.Ytmfkapbllmfegaa.G
set_option maxRecDepth 100000
variable {w w' : World} {b L P : Nat} {r : Value} {d : List MV}
/-- What a Put answers. -/
def pcode (L P : Nat) (d : List MV) (l : Int) : Int := if isL L l = true then (if cnt d l < P then 0 else 10) else 3
/-- The words of the row's messages lie in memory of their own. -/
def Wd (w : World) (d : List MV) : Prop := ∀ x ∈ d, Wo w 0 x ∧ x.ws.length ≤ 1000
theorem Wd.below (h : Wd w d) (hb : Below w.heap.size w w') : Wd w' d := fun x hx => ⟨(h x hx).1.below hb, (h x hx).2⟩
theorem Wd.only {F : Nat → Prop} (h : Wd w d) (ho : Only F w w') (hn : ∀ g cs, Blk w g 3 cs → ¬ F g) : Wd w' d := fun x hx => ⟨(h x hx).1.only ho hn, (h x hx).2⟩
theorem Wd.ws (h : Wd w d) : Ws w d := fun x hx => ⟨(h x hx).1.wr, (h x hx).2⟩
theorem Wd.nil_ (w : World) : Wd w [] := fun x hx => absurd hx (by simp)
theorem Wd.sub {d' : List MV} (h : Wd w d) (hs : ∀ x ∈ d', x ∈ d) : Wd w d' := fun x hx => h x (hs x hx)
structure PaW (w : World) (b L P : Nat) (r : Value) (d : List MV) (l : Int) (r' : Value) (d' : List MV) (w' : World) : Prop where
  ln : Ln w' b L P r' d'
  st : St L P d'
  cn : ∀ k, cnt d' k = cnt d k + if pcode L P d l = 0 ∧ l = k then 1 else 0
  on : Only (FL b r) w w'
  nw : Nw w.heap.size r r'
  wd : Wd w d → Wd w' d'
def PaPost (w : World) (b L P : Nat) (r : Value) (d : List MV) (l : Int) (e : Ending) (w' : World) : Prop := ∃ r' d', e = .returned (.int .i64 (pcode L P d l)) ∧ PaW w b L P r d l r' d' w'
theorem put_any (h : Ln w b L P r d) (hs : St L P d) {m : MV} (hw : Wr w m) (hwl : m.ws.length ≤ 1000) : Calls Try.prog 60 #[.pointer (some ⟨b, 0, none⟩), m.val] w (PaPost w b L P r d m.ln) := by
  cases hl : isL L m.ln with
  | false =>
    have e : pcode L P d m.ln = 3 := by unfold pcode; rw [hl]; rfl
    refine (put_no h m hl).mono fun x w' ⟨he, hb⟩ => ⟨r, d, by rw [e]; exact he, h.below hb, hs, fun k => ?_, .of hb, .refl _ _, fun hd => hd.below hb⟩
    rw [e, if_neg (fun hh => absurd hh.1 (by decide))]; rfl
  | true =>
    by_cases hr : cnt d m.ln < P
    · have e : pcode L P d m.ln = 0 := by unfold pcode; rw [hl, if_pos rfl, if_pos hr]
      refine (put_ok h hs hw hwl hl hr).mono fun x w' ⟨m', r', he, hp⟩ => ?_
      have e1 : m'.ln = m.ln := congrArg Pm.ln hp.pl
      refine ⟨r', insL d m', by rw [e]; exact he, hp.ln, hs.put (by rw [e1]; exact hl) (by rw [e1]; exact hr), fun k => ?_, hp.on, hp.nw, fun hd x hx => ?_⟩
      · rw [cnt_insL d m' hs.srt, e1, e]
        by_cases c : m.ln = k <;> simp [c]
      · rcases insL_mem hx with rfl | hx
        · refine ⟨hp.wo.less (Nat.zero_le _), ?_⟩
          have h1 : x.ws = m.ws := congrArg Pm.ws hp.pl
          rw [h1]; exact hwl
        · exact ⟨(hd x hx).1.only hp.on h.no_int, (hd x hx).2⟩
    · have hr' : cnt d m.ln = P := by have := hs.cn m.ln; omega
      have e : pcode L P d m.ln = 10 := by unfold pcode; rw [hl, if_pos rfl, if_neg hr]
      refine (put_full h hs m hl hr').mono fun x w' ⟨he, hb⟩ => ⟨r, d, by rw [e]; exact he, h.below hb, hs, fun k => ?_, .of hb, .refl _ _, fun hd => hd.below hb⟩
      rw [e, if_neg (fun hh => absurd hh.1 (by decide))]; rfl
/-- A block that isn't theirs stays another's. -/
theorem off_nw {n x : Nat} {r r' : Value} (hn : Nw n r r') (hx : ¬ FL b r x) (h : x < n) : ¬ FL b r' x := fun hk => by
  rcases hk with e | hk
  · exact hx (.inl e)
  · rcases hn with hn | hn
    · exact hx (.inr (by rw [← hn]; exact hk))
    · have := hn x hk; omega
def modU (n f : Int) : Int := (IntKind.u64.wrap n).tmod f
theorem modU_bd (n f : Int) (h : 0 < f) : 0 ≤ modU n f ∧ modU n f < f :=
  ⟨Int.tmod_nonneg _ (by rw [IntKind.wrap_u64]; omega), Int.tmod_lt_of_pos _ h⟩
theorem room_in {k : Int} (h : isL L k = true) : room L P d k = (P : Int) - cnt d k := by unfold room; rw [if_pos h]
theorem room_out {k : Int} (h : isL L k = false) : room L P d k = 0 := by unfold room; rw [if_neg (by rw [h]; simp)]
theorem Lv.other {w0 : World} {X : Nat → Prop} (h : Lv w0 w b L P r d) (ho : Only X w w') (hX : ∀ k, X k → ¬ FL b r k ∧ w0.heap.size ≤ k) : Lv w0 w' b L P r d :=
  ⟨⟨ho.blk h.ln.blk (fun hx => (hX b hx).1 (.inl rfl)), ho.own h.ln.own fun q hq hx => (hX q hx).1 (.inr hq)⟩, h.ab, Only.to_below h.bl ho (fun k hk => (hX k hk).2) h.bl.size⟩
/-- Three numbers, of which the first k are laid. -/
def arr3 (R : Nat → Int) (k : Nat) : Array Value := #[.int .i64 (if 0 < k then R 0 else 0), .int .i64 (if 1 < k then R 1 else 0), .int .i64 (if 2 < k then R 2 else 0)]
end Go.Proofs.Ytmfkapbllmfegaa.L10
