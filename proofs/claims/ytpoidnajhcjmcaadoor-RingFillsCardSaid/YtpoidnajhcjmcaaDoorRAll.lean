/- A ring: Step against the plain state. -/
import Derived.Test.YtpoidnajhcjmcaaDoorRStep
import Derived.Test.YtpoidnajhcjmcaaDoorRAcc3
import Derived.Test.YtpoidnajhcjmcaaDoorRAcc4
import Derived.Test.YtpoidnajhcjmcaaDoorRAcc5
namespace Go.Proofs.YtpoidnajhcjmcaaDoor.R8
open Go.RowKit Go.Proofs.YtpoidnajhcjmcaaDoor.G Go.Proofs.YtpoidnajhcjmcaaDoor.Cell Go.Proofs.YtpoidnajhcjmcaaDoor.Ob
set_option maxRecDepth 100000
variable {w w' : World} {br bm gm : Nat} {u o : Sv} {s : St} {c : Int} {F : Nat → Prop} {x : Pu} {y : Po}

/-! ### The callee of a method value -/
theorem cf_any (br : Nat) : (∀ V : World, (callFunc 89 #[.pointer (some ⟨br, 0, none⟩)]).run Tryd.prog V = .ok (.enter 89 #[.pointer (some ⟨br, 0, none⟩)]) V) ∧ (∀ V : World, (callFunc 116 #[.pointer (some ⟨br, 0, none⟩)]).run Tryd.prog V = .ok (.enter 116 #[.pointer (some ⟨br, 0, none⟩)]) V) ∧
    (∀ V : World, (callFunc 123 #[.pointer (some ⟨br, 0, none⟩)]).run Tryd.prog V = .ok (.enter 123 #[.pointer (some ⟨br, 0, none⟩)]) V) ∧ (∀ V : World, (callFunc 129 #[.pointer (some ⟨br, 0, none⟩)]).run Tryd.prog V = .ok (.enter 129 #[.pointer (some ⟨br, 0, none⟩)]) V) ∧
    (∀ V : World, (callFunc 90 #[.pointer (some ⟨br, 0, none⟩)]).run Tryd.prog V = .ok (.enter 90 #[.pointer (some ⟨br, 0, none⟩)]) V) ∧ (∀ V : World, (callFunc 117 #[.pointer (some ⟨br, 0, none⟩)]).run Tryd.prog V = .ok (.enter 117 #[.pointer (some ⟨br, 0, none⟩)]) V) ∧
    (∀ V : World, (callFunc 124 #[.pointer (some ⟨br, 0, none⟩)]).run Tryd.prog V = .ok (.enter 124 #[.pointer (some ⟨br, 0, none⟩)]) V) ∧ (∀ V : World, (callFunc 130 #[.pointer (some ⟨br, 0, none⟩)]).run Tryd.prog V = .ok (.enter 130 #[.pointer (some ⟨br, 0, none⟩)]) V) := by
  refine ⟨?_, ?_, ?_, ?_, ?_, ?_, ?_, ?_⟩ <;> (intro V; kernel_rfl)

/-! ### Behind an access -/
theorem Reg.ustep (h : Reg w br bm gm u o s c F) (hx : s.pu = some x) {V : World} {u1 : Sv} {m' : List Int} {c' : Int} (hm : MemAt V bm gm m' c') (hb : Blk V br 132 (hd s.D s.W bm u1 o)) (hO : Only (O3 bm gm br) w V) (x' : Pu) {K' : Nat} (hK : uK s.W x'.k = K')
    (e1 : u1.h = .int .i64 x'.h) (e2 : u1.t = .int .i64 x'.t) (e3 : u1.o = u.o) (hl : ∀ N, LF w N u.l (x.l.drop (x.k - 2)) → LF w N u1.l (x'.l.drop (x'.k - 2))) :
    Reg (V.setCell ⟨br, 3, none⟩ (fnV K' br)) br bm gm { u1 with n := fnV K' br } o { s with m := m', pu := some x' } c' F ∧ Only F w (V.setCell ⟨br, 3, none⟩ (fnV K' br)) := by
  subst hK
  have hp := h.pu
  rw [hx] at hp
  obtain ⟨p1, p2, p3, p4, p5⟩ := hp
  have hO' : Only (O3 bm gm br) w (V.setCell ⟨br, 3, none⟩ (fnV (uK s.W x'.k) br)) := hO.set_ (.inr (.inr rfl)) 3 _
  refine h.unew hO' (hb.set_ 3 _) (mem_far hm hb 3 _) ⟨rfl, e1, e2, (hl _ p4).only hO' (fun g hg e => ?_), by show u1.o = _; rw [e3]; exact p5⟩
  rcases e with e | e | e
  · exact hg.2.2.1 e
  · exact hg.2.2.2.1 e
  · exact hg.2.1 e
theorem put5_blk3 {V : World} {D W : Nat} (hb : Blk V br 132 (hd D W bm u o)) : Blk (put5 V br 3) br 132 (hd D W bm zS o) := by
  have h := ((((hb.set_ 3 .nilFunc).set_ 4 (.int .i64 0)).set_ 5 (.int .i64 0)).set_ 6 (.slice none 0 0)).set_ 7 (.slice none 0 0)
  exact h
theorem put5_blk8 {V : World} {D W : Nat} (hb : Blk V br 132 (hd D W bm u o)) : Blk (put5 V br 8) br 132 (hd D W bm u zS) := by
  have h := ((((hb.set_ 8 .nilFunc).set_ 9 (.int .i64 0)).set_ 10 (.int .i64 0)).set_ 11 (.slice none 0 0)).set_ 12 (.slice none 0 0)
  exact h
theorem put5_only (V : World) (br i : Nat) : Only (fun b => b = br) V (put5 V br i) := by
  have h0 : Only (fun b => b = br) V V := Only.refl _ _
  exact ((((h0.set_ rfl i _).set_ rfl (i + 1) _).set_ rfl (i + 2) _).set_ rfl (i + 3) _).set_ rfl (i + 4) _
theorem mem_only {V V' : World} {m : List Int} {D W : Nat} (hm : MemAt V bm gm m c) (hb : Blk V br 132 (hd D W bm u o)) (hO : Only (fun b => b = br) V V') : MemAt V' bm gm m c :=
  ⟨Only.blk hm.head hO (fun e => hb.ne_ hm.head (by decide) e.symm), Only.blk hm.words hO (fun e => hb.ne_ hm.words (by decide) e.symm)⟩
theorem Reg.uend (h : Reg w br bm gm u o s c F) {V : World} {u1 : Sv} {m' : List Int} {c' : Int} (hm : MemAt V bm gm m' c') (hb : Blk V br 132 (hd s.D s.W bm u1 o)) (hO : Only (O3 bm gm br) w V) :
    Reg (put5 V br 3) br bm gm zS o { s with m := m', pu := none } c' F ∧ Only F w (put5 V br 3) :=
  h.unew (hO.trans_ ((put5_only V br 3).mono fun b e => .inr (.inr e))) (put5_blk3 hb) (mem_only hm hb (put5_only V br 3)) rfl
theorem Reg.ostep (h : Reg w br bm gm u o s c F) (hy : s.po = some y) {V : World} {o1 : Sv} {m' : List Int} {c' : Int} (hm : MemAt V bm gm m' c') (hb : Blk V br 132 (hd s.D s.W bm u o1)) (hO : Only (Oo br bm gm o.o) w V) (y' : Po) {K' : Nat} (hK : oK s.W y'.k = K')
    (e1 : o1.h = .int .i64 y'.h) (e2 : o1.t = .int .i64 y'.t) (e3 : o1.l = o.l) (hl : Lst V 0 o1.o y'.o) (hg : ∀ g, o1.o.ownBlock = some g → o.o.ownBlock = some g ∨ w.heap.size ≤ g) :
    Reg (V.setCell ⟨br, 8, none⟩ (fnV K' br)) br bm gm u { o1 with n := fnV K' br } { s with m := m', po := some y' } c' (Gr F w.heap.size) ∧ Only F w (V.setCell ⟨br, 8, none⟩ (fnV K' br)) := by
  subst hK
  have hp := h.po
  rw [hy] at hp
  obtain ⟨p1, p2, p3, p4, p5, p6⟩ := hp
  have hO' : Only (Oo br bm gm o.o) w (V.setCell ⟨br, 8, none⟩ (fnV (oK s.W y'.k) br)) := hO.set_ (.inl (.inr (.inr rfl))) 8 _
  refine h.onew hO' (hb.set_ 8 _) (mem_far hm hb 8 _) ⟨rfl, e1, e2, by show o1.l = _; rw [e3]; exact p4, Own.far hl hb (by decide) 8 _, fun g hg' => ?_⟩ (fun g e => (p6 g e).1) hg
  have hlt := h.head.lt
  have hlt2 := h.mem.head.lt
  have hlt3 := h.mem.words.lt
  rcases hg g hg' with e | e
  · exact ⟨.inl (p6 g e).1, (p6 g e).2⟩
  · exact ⟨.inr e, by omega, by omega, by omega⟩
theorem Reg.oend (h : Reg w br bm gm u o s c F) (hf : ∀ g, o.o.ownBlock = some g → F g) {V : World} {o1 : Sv} {m' : List Int} {c' : Int} (hm : MemAt V bm gm m' c') (hb : Blk V br 132 (hd s.D s.W bm u o1)) (hO : Only (Oo br bm gm o.o) w V) :
    Reg (put5 V br 8) br bm gm u zS { s with m := m', po := none } c' (Gr F w.heap.size) ∧ Only F w (put5 V br 8) :=
  h.onew (hO.trans_ ((put5_only V br 8).mono fun b e => .inl (.inr (.inr e)))) (put5_blk8 hb) (mem_only hm hb (put5_only V br 8)) rfl hf (fun g e => by simp [zS, Value.ownBlock] at e)
/-- The words that are left, one at least. -/
theorem lf_first {N : Nat → Prop} {v : Value} {l : List Int} (h : LF w N v l) (h0 : 0 < l.length) : ∃ g a cp, v = .slice (some ⟨g, a, none⟩) l.length cp ∧ l.length ≤ cp ∧ cp ≤ 9223372036854775807 ∧ N g ∧ g < w.heap.size ∧ w.cell? ⟨g, a, none⟩ = some (.int .i64 (nth l 0)) ∧
    (2 ≤ l.length → ∀ N', LF w N' v l → LF w N' (.slice (some ⟨g, a + 1, none⟩) (l.length - 1) (cp - 1)) (l.drop 1)) := by
  obtain ⟨A, c, e, h1, h2, h3⟩ := h
  obtain ⟨g, a, rfl, hN, hg, hc⟩ := h3 h0
  refine ⟨g, a, c, e, h1, h2, hN, hg, by have := hc 0 h0; rwa [Nat.add_zero] at this, fun h2' N' hL => ?_⟩
  obtain ⟨A', c', e', _, _, h3'⟩ := hL
  rw [e] at e'
  injection e' with e1 _ e2
  subst e2
  obtain ⟨g', a', e3, hN', _⟩ := h3' h0
  rw [← e1] at e3
  injection e3 with e3
  injection e3 with e3 e4
  subst e3 e4
  refine ⟨some ⟨g, a + 1, none⟩, c - 1, by rw [List.length_drop], by rw [List.length_drop]; omega, by omega, fun hp => ⟨g, a + 1, rfl, hN', hg, fun j hj => ?_⟩⟩
  rw [List.length_drop] at hj
  have := hc (j + 1) (by omega)
  rw [show a + 1 + j = a + (j + 1) by omega, this]
  unfold nth
  rw [List.getD_eq_getElem?_getD, List.getD_eq_getElem?_getD, List.getElem?_drop, Nat.add_comm 1 j]
def USPost (br bm gm : Nat) (o : Sv) (s : St) (c : Int) (F : Nat → Prop) (w : World) (e : Ending) (w' : World) : Prop :=
  e = .returned (.tuple #[.slice none 0 0, .bool (uOver s), .int .i64 (uErr s)]) ∧ (∃ u' c', 0 ≤ c' ∧ c' ≤ c + 1 ∧ Reg w' br bm gm u' o (uStep s) c' F) ∧ Only F w w'
theorem uend_post {s' : St} {Q : World → Prop} {n : Int} {e : Ending} (c0 : 0 ≤ c) (h : SEnd br 3 Q (.slice none 0 0) n e w') (hb : uOver s = true) (hn : uErr s = n) (hs : uStep s = s') (hq : ∀ V, Q V → Reg (put5 V br 3) br bm gm zS o s' (c + 1) F ∧ Only F w (put5 V br 3)) : USPost br bm gm o s c F w e w' := by
  obtain ⟨rfl, V, hV, rfl⟩ := h
  obtain ⟨h1, h2⟩ := hq V hV
  exact ⟨by rw [hb, hn], ⟨_, _, by omega, Int.le_refl _, by rw [hs]; exact h1⟩, h2⟩
theorem ugo_post {s' : St} {Q : World → Prop} {nv : Value} {u' : Sv} {e : Ending} (c0 : 0 ≤ c) (h : SGo br 3 Q nv e w') (hb : uOver s = false) (hn : uErr s = 0) (hs : uStep s = s') (hq : ∀ V, Q V → Reg (V.setCell ⟨br, 3, none⟩ nv) br bm gm u' o s' (c + 1) F ∧ Only F w (V.setCell ⟨br, 3, none⟩ nv)) : USPost br bm gm o s c F w e w' := by
  obtain ⟨rfl, V, hV, rfl⟩ := h
  obtain ⟨h1, h2⟩ := hq V hV
  exact ⟨by rw [hb, hn], ⟨u', _, by omega, Int.le_refl _, by rw [hs]; exact h1⟩, h2⟩
theorem ustep_reg (h : Reg w br bm gm u o s c F) (ok : Ok s) (c0 : 0 ≤ c) (c1 : c ≤ 1099511627776) : Calls Tryd.prog 61 #[P br, .bool true] w (USPost br bm gm o s c F w) := by
  have hlen := ok.len
  have hDW := DW_bd ok
  have hd8 : 1 ≤ s.D ∧ s.D ≤ 8 := ⟨ok.d1, ok.d8⟩
  have hl2 : 2 ≤ s.m.length ∧ s.m.length ≤ 4096 := by omega
  obtain ⟨f1, f2, f3, f4, -⟩ := cf_any br
  cases hx : s.pu with
  | none =>
    have hp := h.pu
    rw [hx] at hp
    have hp : u = zS := hp
    subst hp
    refine (step_un h.head).mono ?_
    rintro e w' ⟨rfl, rfl⟩
    exact ⟨by simp [uOver, uErr, hx], ⟨zS, c, c0, by omega, by simp only [uStep, hx]; exact h⟩, .refl _ _⟩
  | some x =>
    have hu := ok.pu x hx
    have hk := hu.k
    have hlx := hu.len
    have hp := h.pu
    rw [hx] at hp
    obtain ⟨p1, p2, p3, p4, p5⟩ := hp
    have es : uStep s = uNext s x := by simp [uStep, hx]
    by_cases k0 : x.k = 0
    · have pn : u.n = fnV 89 br := by rw [p1, uK, if_pos k0]
      refine (step_ugo h.head pn f1 (Q := fun V => MemAt V bm gm s.m (c + 1) ∧ Blk V br 132 (hd s.D s.W bm { u with h := .int .i64 (nth s.m 0) } o) ∧ Only (O3 bm gm br) w V) (uhead_any h.head h.mem hl2 c0 c1) (fun V hV => ⟨_, _, hV.2.1⟩)).mono ?_
      intro e w' hp
      refine ugo_post c0 hp (by simp [uOver, hx, k0]; omega) (by simp [uErr, hx, k0]) (es.trans (by rw [uNext, if_pos k0])) fun V hV => h.ustep hx hV.1 hV.2.1 hV.2.2 { x with k := 1, h := nth s.m 0 } rfl rfl p3 rfl (fun N hl => ?_)
      rwa [k0] at hl
    · by_cases k1 : x.k = 1
      · have pn : u.n = fnV 116 br := by rw [p1, uK, if_neg k0, if_pos k1]
        by_cases hf : held s.D x.h (nth s.m 1) = s.D
        · have hF : uFull s x = true := by simp [uFull, hf]
          refine (step_uend h.head pn f2 (Q := fun V => MemAt V bm gm s.m (c + 1) ∧ Blk V br 132 (hd s.D s.W bm { u with t := .int .i64 (nth s.m 1) } o) ∧ Only (O3 bm gm br) w V) (utail_full h.head h.mem hl2 c0 c1 hd8 p2 (hu.h (by omega)) ok.t hf) (fun V hV => ⟨_, _, hV.2.1, pn, p5⟩)).mono ?_
          intro e w' hp
          exact uend_post c0 hp (by simp [uOver, hx, k1, hF]) (by simp [uErr, hx, k1, hF]) (es.trans (by rw [uNext, if_neg k0, if_pos k1, if_pos hF])) fun V hV => h.uend hV.1 hV.2.1 hV.2.2
        · have hF : uFull s x = false := by simp [uFull, hf]
          refine (step_ugo h.head pn f2 (Q := fun V => MemAt V bm gm s.m (c + 1) ∧ Blk V br 132 (hd s.D s.W bm { u with t := .int .i64 (nth s.m 1) } o) ∧ Only (O3 bm gm br) w V) (utail_go h.head h.mem hl2 c0 c1 hd8 p2 (hu.h (by omega)) ok.t hf) (fun V hV => ⟨_, _, hV.2.1⟩)).mono ?_
          intro e w' hp
          have hW := ok.w1
          refine ugo_post c0 hp (by simp [uOver, hx, k1, hF]; omega) (by simp [uErr, hx, hF]) (es.trans (by rw [uNext, if_neg k0, if_pos k1, hF]; rfl)) fun V hV => h.ustep hx hV.1 hV.2.1 hV.2.2 { x with k := 2, t := nth s.m 1 } (by show uK s.W 2 = _; rw [uK, if_neg (by omega), if_neg (by omega), if_pos (by omega)]) p2 rfl rfl (fun N hl => ?_)
          rwa [k1] at hl
      · by_cases k2 : x.k < 2 + s.W
        · have pn : u.n = fnV 123 br := by rw [p1, uK, if_neg k0, if_neg k1, if_pos k2]
          have hdl : (x.l.drop (x.k - 2)).length = s.W - (x.k - 2) := by rw [List.length_drop, hlx]
          obtain ⟨g, a, cp, ev, hcp, hcp2, hN, hgs, hz, hnext⟩ := lf_first p4 (by omega)
          have hz0 : nth (x.l.drop (x.k - 2)) 0 = nth x.l (x.k - 2) := by unfold nth; rw [List.getD_eq_getElem?_getD, List.getD_eq_getElem?_getD, List.getElem?_drop]; rfl
          rw [hz0] at hz
          have es' : uStep s = { s with m := s.m.set (wd s.D s.W x.t (x.k - 2)) (nth x.l (x.k - 2)), pu := some { x with k := x.k + 1 } } := es.trans (by rw [uNext, if_neg k0, if_neg k1, if_pos k2])
          have hO1 : uOver s = false := by simp [uOver, hx, k1]; omega
          have hE1 : uErr s = 0 := by simp [uErr, hx, k1]
          rw [hdl] at ev hcp hnext
          by_cases hm : 2 ≤ s.W - (x.k - 2)
          · refine (step_ugo h.head pn f3 (Q := fun V => MemAt V bm gm (s.m.set (wd s.D s.W x.t (x.k - 2)) (nth x.l (x.k - 2))) (c + 1) ∧ Blk V br 132 (hd s.D s.W bm { u with l := .slice (some ⟨g, a + 1, none⟩) (s.W - (x.k - 2) - 1) (cp - 1) } o) ∧ Only (O3 bm gm br) w V) (uword_more h.head h.mem hlen c0 c1 hd8 ok.w6 p3 (hu.t (by omega)) ev (show s.W - (x.k - 2) + (x.k - 2) = s.W by omega) hm hcp hcp2 hz (hu.ok _) ⟨hgs, hN.2.1, hN.2.2.1, hN.2.2.2.1⟩) (fun V hV => ⟨_, _, hV.2.1⟩)).mono ?_
            intro e w' hp
            refine ugo_post c0 hp hO1 hE1 es' fun V hV => h.ustep hx hV.1 hV.2.1 hV.2.2 { x with k := x.k + 1 } (by show uK s.W (x.k + 1) = _; rw [uK, if_neg (by omega), if_neg (by omega), if_pos (by omega)]) p2 p3 rfl (fun N hl => ?_)
            have := hnext hm N hl
            rw [List.drop_drop] at this
            show LF w N _ (x.l.drop (x.k + 1 - 2))
            rwa [show x.k + 1 - 2 = x.k - 2 + 1 by omega]
          · refine (step_ugo h.head pn f3 (K' := 129) (n := 0) (Q := fun V => ∃ a9 c9, c9 ≤ cp ∧ MemAt V bm gm (s.m.set (wd s.D s.W x.t (x.k - 2)) (nth x.l (x.k - 2))) (c + 1) ∧ Blk V br 132 (hd s.D s.W bm { u with l := .slice (some ⟨g, a9, none⟩) 0 c9 } o) ∧ Only (O3 bm gm br) w V) ((uword_end h.head h.mem hlen c0 c1 hd8 ok.w6 p3 (hu.t (by omega)) ev (show s.W - (x.k - 2) + (x.k - 2) = s.W by omega) (show s.W - (x.k - 2) = 1 by omega) hcp hcp2 hz (hu.ok _) ⟨hgs, hN.2.1, hN.2.2.1, hN.2.2.2.1⟩).mono (fun e w9 hh => ?_)) (fun V hV => ?_)).mono ?_
            · obtain ⟨a9, c9, h9, he, hr⟩ := hh
              exact ⟨he, a9, c9, h9, hr⟩
            · obtain ⟨a9, c9, h9, h1, h2, h3⟩ := hV
              exact ⟨_, _, h2⟩
            · intro e w' hp
              obtain ⟨rfl, V, ⟨a9, c9, h9, h1, h2, h3⟩, rfl⟩ := hp
              have hw := h.ustep hx h1 h2 h3 { x with k := x.k + 1 } (K' := 129) (by show uK s.W (x.k + 1) = _; rw [uK, if_neg (by omega), if_neg (by omega), if_neg (by omega)]) p2 p3 rfl (fun N hl => by
                have e0 : x.l.drop (x.k + 1 - 2) = [] := by rw [List.drop_eq_nil_iff]; omega
                show LF w N _ (x.l.drop (x.k + 1 - 2))
                rw [e0]
                exact ⟨_, c9, rfl, by simp, by omega, fun h0 => absurd h0 (by simp)⟩)
              exact ⟨by rw [hO1, hE1], ⟨_, _, by omega, Int.le_refl _, by rw [es']; exact hw.1⟩, hw.2⟩
        · have k3 : x.k = 2 + s.W := by omega
          have pn : u.n = fnV 129 br := by rw [p1, uK, if_neg k0, if_neg k1, if_neg k2]
          refine (step_uend h.head pn f4 (Q := fun V => MemAt V bm gm (s.m.set 1 (nx s.D x.t)) (c + 1) ∧ Blk V br 132 (hd s.D s.W bm u o) ∧ Only (O3 bm gm br) w V) (ulast_any h.head h.mem hl2 c0 c1 hd8 p3 (hu.t (by omega))) (fun V hV => ⟨_, _, hV.2.1, pn, p5⟩)).mono ?_
          intro e w' hp
          exact uend_post c0 hp (by simp [uOver, hx, k3]) (by simp [uErr, hx, k1]) (es.trans (by rw [uNext, if_neg k0, if_neg k1, if_neg k2])) fun V hV => h.uend hV.1 hV.2.1 hV.2.2
end Go.Proofs.YtpoidnajhcjmcaaDoor.R8
