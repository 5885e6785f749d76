/- An Offer inside a statement that stores its message in a box, whose place in the row of operations is open: what it leaves, in each order. -/
import Derived.Test.YtmfkapbllmfegaaAAll
import Derived.Test.YtmfkapbllmfegaaAArgs
import Derived.Test.YtmfkapbllmfegaaKAll
namespace Go.Proofs.Ytmfkapbllmfegaa.A12
open Go.RowKit Go.Proofs.Ytmfkapbllmfegaa.G Go.Proofs.Ytmfkapbllmfegaa.L10 Go.Proofs.Ytmfkapbllmfegaa.C04
set_option maxRecDepth 100000
variable {w V0 W V V' : World} {g : Nat} {a : Ga} {s : Gs}
structure Of2 (w V0 : World) (g : Nat) (a : Ga) (s : Gs) (M : Pm) (code : Int) (ask : Bool) (T1 N1 : Int) (m' : MV) (s' : Gs) (km : Nat) (V : World) : Prop where
  gt : Gt w V g a s'
  wo : Wo V 0 m'
  mp : m'.pl = if code = 0 then M else z0.pl
  dp : s'.d.map MV.pl = if code = 0 then insP (s.d.map MV.pl) M else s.d.map MV.pl
  q : s'.q = if code = 0 then s.q + 1 else s.q
  T : s'.T = if ask = true then K11.less T1 else s.T
  N : s'.N = if ask = true then N1 else s.N
  on : Only (FG g a s.r) V0 V
  nw : Nw V0.heap.size s.r s'.r
  bx : Blk V km 43 #[.slice m'.a m'.ws.length m'.c, .int .i64 m'.ln, .int .i64 m'.st, .int .i64 m'.lt, .int .i64 m'.sq]
  nf : ¬ FG g a s'.r km
  ge : V0.heap.size ≤ km
variable {M : Pm} {code T1 N1 : Int} {ask : Bool} {m' : MV} {s' : Gs}
theorem nw_le {n m : Nat} {r r' : Value} (h : Nw m r r') (hn : n ≤ m) : Nw n r r' := by
  rcases h with h | h
  · exact .inl h
  · exact .inr fun k hk => Nat.le_trans hn (h k hk)
theorem of2_new (hB : Below V0.heap.size V0 W) (h : OfW w W g a s M code ask T1 N1 m' s' V) : Of2 w V0 g a s M code ask T1 N1 m' s' V.heap.size (V.alloc (.cells #[.slice m'.a m'.ws.length m'.c, .int .i64 m'.ln, .int .i64 m'.st, .int .i64 m'.lt, .int .i64 m'.sq] 43)) :=
  ⟨h.gt.alloc _, h.wo.below (b01 _ _), h.mp, h.dp, h.q, h.T, h.N, ((Only.of hB).trans_ h.on).alloc _, nw_le h.nw hB.size, Blk.new V 43 _, fun hf => by have := h.gt.fg_lt hf; omega, Nat.le_trans hB.size h.on.size⟩
theorem of2_set {km : Nat} {z0' z1 z2 z3 z4 : Value} (hG : Gt w V0 g a s) (hB : Below V0.heap.size V0 W) (hk : V0.heap.size ≤ km) (b : Blk W km 43 #[z0', z1, z2, z3, z4]) (h : OfW w W g a s M code ask T1 N1 m' s' V) :
    Of2 w V0 g a s M code ask T1 N1 m' s' km (((((V.setCell ⟨km, 0, none⟩ (.slice m'.a m'.ws.length m'.c)).setCell ⟨km, 1, none⟩ (.int .i64 m'.ln)).setCell ⟨km, 2, none⟩ (.int .i64 m'.st)).setCell ⟨km, 3, none⟩ (.int .i64 m'.lt)).setCell ⟨km, 4, none⟩ (.int .i64 m'.sq)) := by
  have hnf : ¬ FG g a s.r km := fun hf => by have := hG.fg_lt hf; omega
  have b1 : Blk V km 43 #[z0', z1, z2, z3, z4] := h.on.blk b hnf
  have ho := only5 (Only.refl (fun k => k = km) V) (.inl rfl) (.slice m'.a m'.ws.length m'.c) (.int .i64 m'.ln) (.int .i64 m'.st) (.int .i64 m'.lt) (.int .i64 m'.sq)
  have hne : s'.r.ownBlock ≠ some km := fun e => by
    rcases h.nw with n | n
    · exact hnf (.inl (.inr (by rw [← n]; exact e)))
    · have := n km e; have := b.lt; omega
  have hg := h.gt.box b1 hne (Nat.le_trans hG.bl.size hk) ho
  refine ⟨hg, h.wo.only ho fun k cs hk e => hk.ne_ b1 (by decide) e, h.mp, h.dp, h.q, h.T, h.N, ((Only.of hB).trans_ h.on).trans (ho.mono fun k hk' => .inr (by have e : k = km := hk'; omega)), nw_le h.nw hB.size, blk5 b1 _ _ _ _ _, ?_, hk⟩
  refine hg.off (blk5 b1 _ _ _ _ _) (fun hf => ?_) (by decide) (by decide)
  rcases hf with e | e
  · exact b1.ne_ h.gt.lv.ln.blk (by decide) e
  · exact hne e
theorem bfar5 {k q : Nat} {t : TypeId} {cs : Array Value} (h : Blk V k t cs) (hn : k ≠ q) (u0 u1 u2 u3 u4 : Value) : Blk (((((V.setCell ⟨q, 0, none⟩ u0).setCell ⟨q, 1, none⟩ u1).setCell ⟨q, 2, none⟩ u2).setCell ⟨q, 3, none⟩ u3).setCell ⟨q, 4, none⟩ u4) k t cs :=
  ((((h.far (p := ⟨q, 0, none⟩) hn u0).far (p := ⟨q, 1, none⟩) hn u1).far (p := ⟨q, 2, none⟩) hn u2).far (p := ⟨q, 3, none⟩) hn u3).far (p := ⟨q, 4, none⟩) hn u4
/-! ### Lists that are told, and stay -/
/-- A list that is told, all its memory from n on. -/
structure Tl (n : Nat) (V : World) (A : Option Addr) (c : Nat) (l : List MV) : Prop where
  own : Own V n 43 5 (.slice A l.length c) l.length (mvs l)
  ws : ∀ y ∈ l, Wo V n y
theorem Tl.below {n : Nat} {A : Option Addr} {c : Nat} {l : List MV} (h : Tl n V A c l) (hb : Below V.heap.size V V') : Tl n V' A c l := ⟨h.own.below hb, fun y hy => (h.ws y hy).below hb⟩
theorem Tl.only {F : Nat → Prop} {n : Nat} {A : Option Addr} {c : Nat} {l : List MV} (h : Tl n V A c l) (ho : Only F V V') (hF : ∀ k, F k → k < n) : Tl n V' A c l :=
  ⟨ho.own h.own fun k hk hf => by have := (h.own.block_lt hk).1; have := hF k hf; omega, fun y hy => ho.own (h.ws y hy) fun k hk hf => by have := ((h.ws y hy).block_lt hk).1; have := hF k hf; omega⟩
theorem Tl.row {n : Nat} {A : Option Addr} {c : Nat} {l : List MV} (h : Tl n V A c l) : Row V A (mvs l) ∧ WsR V l := by
  obtain ⟨A', c', e, z0, _⟩ := h.own.row
  injection e with e1 _ _
  subst e1
  exact ⟨z0, fun y hy => (h.ws y hy).wr⟩
def LsO (w : World) (l0 : List Pm) (e : Ending) (w' : World) : Prop := ∃ A c l, e = .returned (.slice A l.length c) ∧ Tl w.heap.size w' A c l ∧ l.map MV.pl = l0 ∧ Below w.heap.size w w'
theorem ls_o {l0 : List MV} {e : Ending} (h : LsPost l0 V e V') : LsO V (l0.map MV.pl) e V' := by
  obtain ⟨v, l, rfl, hm, hp, hb⟩ := h
  obtain ⟨A', c', rfl, z0, _⟩ := hm.own.row
  exact ⟨A', c', l, rfl, ⟨hm.own, fun y hy => hm.ws y hy⟩, hp, hb⟩
theorem all_own (h : Gt w V g a s) : Calls Try.prog 21 #[.pointer (some ⟨g, 0, none⟩)] V (LsO V (s.d.map MV.pl)) := by
  have HT := Lib.hid (there_any h)
  have HL := Lib.hid ((L10.all_any h.lv.ln h.wd.ws (by have := h.len; omega)).mono fun e w' hx => ls_o hx)
  clear h
  go_enter Try.func21, Try.ntmps21
  go_wp2_with fail
  refine HT.out.mono ?_
  rintro e w' ⟨rfl, rfl⟩
  go_wp2_with fail
  refine HL.out.mono ?_
  rintro e w' ⟨A, c, l, rfl, h1⟩
  have H1 := Lib.hid h1
  clear h1
  go_wp2_with fail
  go_ret
  exact ⟨A, c, l, rfl, H1.out⟩
theorem filt_len2 (p : Pm → Bool) : ∀ D : List Pm, (D.filter p).length + (D.filter fun x => !p x).length = D.length
  | [] => rfl
  | x :: t => by
    have := filt_len2 p t
    cases h : p x <;> simp [List.filter_cons, h] <;> omega
theorem insp_len (D : List Pm) (m : Pm) : (insP D m).length = D.length + 1 := by
  have := filt_len2 (fun x => decide (x.ln ≤ m.ln)) D
  unfold insP
  rw [List.length_append, List.length_cons]
  omega
/-! ### What codes mean -/
theorem oc_zero {mode lane r : Int} {ws : List Int} (h : oc a s mode lane ws r = 0) : asks a s mode lane ws = true ∧ K11.ctok a.R a.C s.T s.N r ≠ 0 := by
  unfold oc at h
  by_cases h1 : jdg a.k mode lane ws = 0
  · rw [if_neg (by omega)] at h
    by_cases h2 : room a.L a.P s.d lane = 0
    · rw [if_pos h2] at h; omega
    · rw [if_neg h2] at h
      by_cases h3 : K11.ctok a.R a.C s.T s.N r = 0
      · rw [if_pos h3] at h; omega
      · exact ⟨decide_eq_true ⟨h1, h2⟩, h3⟩
  · rw [if_pos h1] at h; exact absurd h h1
theorem oc_non {mode lane r : Int} {ws : List Int} (h : oc a s mode lane ws r ≠ 0) : asks a s mode lane ws = false ∨ K11.ctok a.R a.C s.T s.N r = 0 := by
  by_cases h1 : jdg a.k mode lane ws = 0 ∧ room a.L a.P s.d lane ≠ 0
  · right
    unfold oc at h
    rw [if_neg (by omega), if_neg h1.2] at h
    by_cases h3 : K11.ctok a.R a.C s.T s.N r = 0
    · exact h3
    · rw [if_neg h3] at h; exact absurd rfl h
  · left; exact decide_eq_false h1
end Go.Proofs.Ytmfkapbllmfegaa.A12
