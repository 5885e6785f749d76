/- LaneRow, plain: what a row of calls keeps of the numbers that the messages bear. -/
import Derived.Test.YtjkdajkfbphnpaaQFlush
namespace Go.Proofs.Ytjkdajkfbphnpaa.L10
open Go.RowKit Go.Proofs.Ytjkdajkfbphnpaa.G
set_option maxRecDepth 100000
def Rp (x y : Pm) : Prop := x.ln < y.ln ∨ (x.ln = y.ln ∧ x.sq < y.sq)
def upd3 (f : Nat → Int) (k : Nat) (v : Int) : Nat → Int := fun i => if i = k then v else f i
structure RowI (ni no : Nat) (f : Nat → Int) (D : List Pm) : Prop where
  pw : D.Pairwise Rp
  le : ∀ x ∈ D, x.sq ≤ ni
  la : ∀ x ∈ D, f x.ln.toNat < x.sq
  bd : ∀ k, f k ≤ ni
  ct : D.length + no = ni
theorem filt_len (p : Pm → Bool) : ∀ D : List Pm, (D.filter p).length + (D.filter fun x => !p x).length = D.length
  | [] => rfl
  | x :: t => by
    have := filt_len p t
    cases h : p x <;> simp [List.filter_cons, h] <;> omega
theorem insP_len (D : List Pm) (m : Pm) : (insP D m).length = D.length + 1 := by
  have := filt_len (fun x => decide (x.ln ≤ m.ln)) D
  unfold insP
  rw [List.length_append, List.length_cons]
  omega
theorem insP_mem {D : List Pm} {m x : Pm} (h : x ∈ insP D m) : x = m ∨ x ∈ D := by
  unfold insP at h
  rcases List.mem_append.1 h with h | h
  · exact .inr (List.mem_filter.1 h).1
  · rcases List.mem_cons.1 h with h | h
    · exact .inl h
    · exact .inr (List.mem_filter.1 h).1
theorem RowI.nil_ : RowI 0 0 (fun _ => 0) [] := ⟨List.Pairwise.nil, fun _ h => absurd h (by simp), fun _ h => absurd h (by simp), fun _ => Int.le_refl _, rfl⟩
theorem RowI.put {ni no : Nat} {f : Nat → Int} {D : List Pm} (h : RowI ni no f D) {m : Pm} (hm : m.sq = (ni : Int) + 1) : RowI (ni + 1) no f (insP D m) := by
  refine ⟨?_, fun x hx => ?_, fun x hx => ?_, fun k => ?_, ?_⟩
  · unfold insP
    refine List.pairwise_append.2 ⟨h.pw.filter _, List.pairwise_cons.2 ⟨fun y hy => ?_, h.pw.filter _⟩, fun x hx y hy => ?_⟩
    · have := (List.mem_filter.1 hy).2
      simp only [Bool.not_eq_true', decide_eq_false_iff_not] at this
      exact .inl (by omega)
    · have h1 := of_decide_eq_true (List.mem_filter.1 hx).2
      have h2 := h.le x (List.mem_filter.1 hx).1
      rcases List.mem_cons.1 hy with rfl | hy
      · unfold Rp; omega
      · have := (List.mem_filter.1 hy).2
        simp only [Bool.not_eq_true', decide_eq_false_iff_not] at this
        exact .inl (by omega)
  · rcases insP_mem hx with rfl | hx
    · omega
    · have := h.le x hx; omega
  · rcases insP_mem hx with rfl | hx
    · have := h.bd x.ln.toNat; omega
    · exact h.la x hx
  · have := h.bd k; omega
  · rw [insP_len]; have := h.ct; omega
theorem RowI.take {ni no : Nat} {f : Nat → Int} {h0 : Pm} {T : List Pm} (h : RowI ni no f (h0 :: T)) (hp : ∀ x ∈ h0 :: T, 0 ≤ x.ln) : RowI ni (no + 1) (upd3 f h0.ln.toNat h0.sq) T := by
  have hc := List.pairwise_cons.1 h.pw
  refine ⟨hc.2, fun x hx => h.le x (List.mem_cons_of_mem _ hx), fun x hx => ?_, fun k => ?_, ?_⟩
  · have h1 := hc.1 x hx
    have h2 := h.la x (List.mem_cons_of_mem _ hx)
    have h3 := hp x (List.mem_cons_of_mem _ hx)
    have h4 := hp h0 (List.mem_cons_self ..)
    unfold upd3
    by_cases e : x.ln.toNat = h0.ln.toNat
    · rw [if_pos e]; unfold Rp at h1; omega
    · rw [if_neg e]; exact h2
  · unfold upd3
    by_cases e : k = h0.ln.toNat
    · rw [if_pos e]; exact h.le h0 (List.mem_cons_self ..)
    · rw [if_neg e]; exact h.bd k
  · have := h.ct; simp only [List.length_cons] at this; omega
theorem RowI.head {ni no : Nat} {f : Nat → Int} {h0 : Pm} {T : List Pm} (h : RowI ni no f (h0 :: T)) {x : Pm} (hx : x ∈ h0 :: T) : h0.ln < x.ln ∨ (h0.ln = x.ln ∧ h0.sq ≤ x.sq) := by
  rcases List.mem_cons.1 hx with rfl | hx
  · exact .inr ⟨rfl, Int.le_refl _⟩
  · rcases (List.pairwise_cons.1 h.pw).1 x hx with h1 | ⟨h1, h2⟩
    · exact .inl h1
    · exact .inr ⟨h1, by omega⟩
/-- The last ones, as they lie. -/
def arr (f : Nat → Int) : Array Value := #[.int .i64 (f 0), .int .i64 (f 1), .int .i64 (f 2)]
theorem arr_at (f : Nat → Int) {k : Nat} (h : k < 3) : (arr f)[k]? = some (.int .i64 (f k)) := by
  rcases (show k = 0 ∨ k = 1 ∨ k = 2 by omega) with rfl | rfl | rfl <;> rfl
theorem arr_set (f : Nat → Int) {k : Nat} (h : k < 3) (v : Int) : (arr f).setIfInBounds k (.int .i64 v) = arr (upd3 f k v) := by
  rcases (show k = 0 ∨ k = 1 ∨ k = 2 by omega) with rfl | rfl | rfl <;> rfl
def RowS (w V : World) (b L P g ni no : Nat) : Prop := ∃ r d f, Lv w V b L P r d ∧ St L P d ∧ Wd V d ∧ Blk V g 56 (arr f) ∧ w.heap.size ≤ g ∧ RowI ni no f (d.map MV.pl)
theorem RowS.below {w V V' : World} {b L P g ni no : Nat} (h : RowS w V b L P g ni no) (hb : Below V.heap.size V V') : RowS w V' b L P g ni no := by
  obtain ⟨r, d, f, h1, h2, h3, h4, h5, h6⟩ := h
  exact ⟨r, d, f, h1.below hb, h2, h3.below hb, h4.bel hb, h5, h6⟩
/-- The first is taken; its number is noted. -/
theorem RowS.took {w V V' : World} {b L P g ni no : Nat} {r r' : Value} {h : MV} {T : List MV} {f : Nat → Int} (hv : Lv w V b L P r (h :: T)) (hs : St L P (h :: T)) (hw : Wd V (h :: T)) (hg : Blk V g 56 (arr f)) (hwg : w.heap.size ≤ g) (hI : RowI ni no f ((h :: T).map MV.pl)) (hl : Ln V' b L P r' T) (hn : ∀ k, r'.ownBlock = some k → V.heap.size ≤ k) (ho : Only (fun k => k = b) V V') :
    Lv w V' b L P r' T ∧ St L P T ∧ Wd V' T ∧ Blk V' g 56 (arr f) := by
  have hsub : T.Sublist (h :: T) := List.sublist_cons_self _ _
  refine ⟨hv.out hl ho hn, ⟨hs.l3, hs.p8, hs.srt.sublist hsub, fun x hx => hs.ln x (hsub.subset hx), fun k => Nat.le_trans (hsub.filter _).length_le (hs.cn k)⟩, (hw.sub fun x hx => hsub.subset hx).only ho fun g cs hg e => hv.ln.no_int g cs hg (.inl e), ho.blk hg fun e => hv.ln.off hg (by decide) (by decide) (.inl e)⟩
theorem RowS.note {w V : World} {b L P g ni no : Nat} {r : Value} {h : MV} {T : List MV} {f : Nat → Int} (hv : Lv w V b L P r T) (hs : St L P T) (hs0 : ∀ x ∈ h :: T, 0 ≤ x.ln) (hw : Wd V T) (hg : Blk V g 56 (arr f)) (hwg : w.heap.size ≤ g) (hI : RowI ni no f ((h :: T).map MV.pl)) {j : Nat} (hj : h.ln = j) (hj3 : j < 3) : RowS w (V.setCell ⟨g, j, none⟩ (.int .i64 h.sq)) b L P g ni (no + 1) := by
  have on : Only (fun q => q = g) V (V.setCell ⟨g, j, none⟩ (.int .i64 h.sq)) := (Only.refl (fun q => q = g) V).set_ (.inl rfl) j _
  have hI' := RowI.take (h0 := h.pl) (T := T.map MV.pl) hI fun x hx => by
    rcases List.mem_cons.1 hx with rfl | hx
    · exact hs0 h (List.mem_cons_self ..)
    · obtain ⟨y, hy, rfl⟩ := List.mem_map.1 hx
      exact hs0 y (List.mem_cons_of_mem _ hy)
  have e1 : h.pl.ln.toNat = j := by show h.ln.toNat = j; omega
  rw [e1] at hI'
  refine ⟨r, T, upd3 f j h.sq, hv.other on fun q hq => ?_, hs, hw.only on fun g' cs hg' e => Blk.ne_ hg' hg (by decide) e, ?_, hwg, hI'⟩
  · have e : q = g := hq
    subst e
    exact ⟨hv.ln.off hg (by decide) (by decide), hwg⟩
  · have := hg.set_ j (.int .i64 h.sq)
    rw [arr_set f hj3] at this
    exact this
theorem pcode_room {L P : Nat} {d : List MV} (h : ∀ k, cnt d k ≤ P) (l : Int) : (pcode L P d l == 0) = decide (room L P d l > 0) := by
  have hc := h l
  unfold pcode room
  cases isL L l with
  | false => simp
  | true =>
    by_cases hr : cnt d l < P
    · simp [hr]
    · simp [hr]
end Go.Proofs.Ytjkdajkfbphnpaa.L10
