/- A ring: Step of a pop against the plain state. -/
import Derived.Test.YtpoidnajhcjmcaaDoorRAll
namespace Go.Proofs.YtpoidnajhcjmcaaDoor.R8
open Go.RowKit Go.Proofs.YtpoidnajhcjmcaaDoor.G Go.Proofs.YtpoidnajhcjmcaaDoor.Cell Go.Proofs.YtpoidnajhcjmcaaDoor.Ob
set_option maxRecDepth 100000
variable {w w' : World} {br bm gm : Nat} {u o : Sv} {s : St} {c : Int} {F : Nat → Prop} {x : Pu} {y : Po}
/-- A list that is told: whose it was. -/
def Tld (w : World) (F : Nat → Prop) (v : Value) (l : List Int) : Prop := Lst w 0 v l ∧ ∀ g, v.ownBlock = some g → F g
theorem Tld.nil (w : World) (F : Nat → Prop) : Tld w F (.slice none 0 0) [] := ⟨Own.nil_ w 0 3 1, fun g e => by simp [Value.ownBlock] at e⟩
def OSPost (br bm gm : Nat) (u : Sv) (s : St) (c : Int) (F : Nat → Prop) (w : World) (e : Ending) (w' : World) : Prop :=
  ∃ v, e = .returned (.tuple #[v, .bool (oOver s), .int .i64 (oErr s)]) ∧ Tld w' F v (oTold s) ∧ (∃ o' c', 0 ≤ c' ∧ c' ≤ c + 1 ∧ Reg w' br bm gm u o' (oStep s) c' (Gr F w.heap.size)) ∧ Only F w w'
theorem oend_post {s' : St} {Q : World → Prop} {T : Value} {n : Int} {e : Ending} (c0 : 0 ≤ c) (h : SEnd br 8 Q T n e w') (hb : oOver s = true) (hn : oErr s = n) (hs : oStep s = s') (hT : ∀ V, Q V → Tld (put5 V br 8) F T (oTold s)) (hq : ∀ V, Q V → Reg (put5 V br 8) br bm gm u zS s' (c + 1) (Gr F w.heap.size) ∧ Only F w (put5 V br 8)) : OSPost br bm gm u s c F w e w' := by
  obtain ⟨rfl, V, hV, rfl⟩ := h
  obtain ⟨h1, h2⟩ := hq V hV
  exact ⟨T, by rw [hb, hn], hT V hV, ⟨_, _, by omega, Int.le_refl _, by rw [hs]; exact h1⟩, h2⟩
theorem ogo_post {s' : St} {Q : World → Prop} {nv : Value} {e : Ending} (c0 : 0 ≤ c) (h : SGo br 8 Q nv e w') (hb : oOver s = false) (hn : oErr s = 0) (ht : oTold s = []) (hs : oStep s = s') (hq : ∀ V, Q V → ∃ o', Reg (V.setCell ⟨br, 8, none⟩ nv) br bm gm u o' s' (c + 1) (Gr F w.heap.size) ∧ Only F w (V.setCell ⟨br, 8, none⟩ nv)) : OSPost br bm gm u s c F w e w' := by
  obtain ⟨rfl, V, hV, rfl⟩ := h
  obtain ⟨o', h1, h2⟩ := hq V hV
  exact ⟨_, by rw [hb, hn], by rw [ht]; exact Tld.nil _ _, ⟨o', _, by omega, Int.le_refl _, by rw [hs]; exact h1⟩, h2⟩
theorem ostep_reg (h : Reg w br bm gm u o s c F) (ok : Ok s) (c0 : 0 ≤ c) (c1 : c ≤ 1099511627776) : Calls Tryd.prog 61 #[P br, .bool false] w (OSPost br bm gm u s c F w) := by
  have hlen := ok.len
  have hDW := DW_bd ok
  have hd8 : 1 ≤ s.D ∧ s.D ≤ 8 := ⟨ok.d1, ok.d8⟩
  have hl2 : 2 ≤ s.m.length ∧ s.m.length ≤ 4096 := by omega
  have hW := ok.w1
  have hW6 := ok.w6
  obtain ⟨-, -, -, -, f1, f2, f3, f4⟩ := cf_any br
  cases hy : s.po with
  | none =>
    have hp := h.po
    rw [hy] at hp
    have hp : o = zS := hp
    subst hp
    refine (step_on h.head).mono ?_
    rintro e w' ⟨rfl, rfl⟩
    exact ⟨.slice none 0 0, by simp [oOver, oErr, hy], by simp only [oTold, hy]; exact Tld.nil _ _, ⟨zS, c, c0, by omega, by simp only [oStep, hy]; exact h.mono fun _ _ hf => .inl hf⟩, .refl _ _⟩
  | some y =>
    have hu := ok.po y hy
    have hk := hu.k
    have hly := hu.len
    have hp := h.po
    rw [hy] at hp
    obtain ⟨p1, p2, p3, p4, p5, p6⟩ := hp
    have es : oStep s = oNext s y := by simp [oStep, hy]
    have hto : ∀ V, Only (O3 bm gm br) w V → Only (Oo br bm gm o.o) w V := fun V hO => hO.mono fun b hb => .inl hb
    have hown : ∀ V, Only (O3 bm gm br) w V → Lst V 0 o.o y.o := fun V hO => own_only p5 hO fun g e hx => by
      obtain ⟨_, n1, n2, n3⟩ := p6 g e
      rcases hx with hx | hx | hx
      · exact n2 hx
      · exact n3 hx
      · exact n1 hx
    have hbr : ∀ g, o.o.ownBlock = some g → g ≠ br ∧ g ≠ bm ∧ g ≠ gm := fun g e => (p6 g e).2
    by_cases k0 : y.k = 0
    · have pn : o.n = fnV 90 br := by rw [p1, oK, if_pos k0]
      refine (step_ogo h.head pn f1 (Q := fun V => MemAt V bm gm s.m (c + 1) ∧ Blk V br 132 (hd s.D s.W bm u { o with t := .int .i64 (nth s.m 1) }) ∧ Only (O3 bm gm br) w V) (otail_any h.head h.mem hl2 c0 c1) (fun V hV => ⟨_, _, hV.2.1⟩)).mono ?_
      intro e w' hp
      exact ogo_post c0 hp (by simp [oOver, hy, k0]; omega) (by simp [oErr, hy, k0]) (by simp [oTold, hy, k0]; omega) (es.trans (by rw [oNext, if_pos k0])) fun V hV => ⟨_, h.ostep hy hV.1 hV.2.1 (hto V hV.2.2) { y with k := 1, t := nth s.m 1 } rfl p2 rfl rfl (hown V hV.2.2) (fun g e => .inl e)⟩
    · by_cases k1 : y.k = 1
      · have pn : o.n = fnV 117 br := by rw [p1, oK, if_neg k0, if_pos k1]
        have ho0 : y.o = [] := List.eq_nil_of_length_eq_zero (by omega)
        by_cases hf : held s.D (nth s.m 0) y.t = 0
        · have hF : oLow s y = true := by simp [oLow, hf]
          have ht : oTold s = y.o := by rw [ho0]; simp [oTold, hy, ho0]
          refine (step_oend h.head pn f2 (Q := fun V => MemAt V bm gm s.m (c + 1) ∧ Blk V br 132 (hd s.D s.W bm u { o with h := .int .i64 (nth s.m 0) }) ∧ Only (O3 bm gm br) w V) (ohead_full h.head h.mem hl2 c0 c1 hd8 p3 (hu.t (by omega)) ok.h hf) (fun V hV => ⟨_, _, hV.2.1, pn, rfl⟩)).mono ?_
          intro e w' hp
          exact oend_post c0 hp (by simp [oOver, hy, k1, hF]) (by simp [oErr, hy, k1, hF]) (es.trans (by rw [oNext, if_neg k0, if_pos k1, if_pos hF])) (fun V hV => ⟨by rw [ht]; exact own_only (hown V hV.2.2) (put5_only V br 8) (fun g e hx => (hbr g e).1 hx), fun g e => (p6 g e).1⟩) fun V hV => h.oend (fun g e => (p6 g e).1) hV.1 hV.2.1 (hto V hV.2.2)
        · have hF : oLow s y = false := by simp [oLow, hf]
          refine (step_ogo h.head pn f2 (Q := fun V => MemAt V bm gm s.m (c + 1) ∧ Blk V br 132 (hd s.D s.W bm u { o with h := .int .i64 (nth s.m 0) }) ∧ Only (O3 bm gm br) w V) (ohead_go h.head h.mem hl2 c0 c1 hd8 p3 (hu.t (by omega)) ok.h hf) (fun V hV => ⟨_, _, hV.2.1⟩)).mono ?_
          intro e w' hp
          exact ogo_post c0 hp (by simp [oOver, hy, k1, hF]; omega) (by simp [oErr, hy, hF]) (by simp [oTold, hy, k1]; omega) (es.trans (by rw [oNext, if_neg k0, if_pos k1, hF]; rfl)) fun V hV => ⟨_, h.ostep hy hV.1 hV.2.1 (hto V hV.2.2) { y with k := 2, h := nth s.m 0 } (by show oK s.W 2 = _; rw [oK, if_neg (by omega), if_neg (by omega), if_pos (by omega)]) rfl p3 rfl (hown V hV.2.2) (fun g e => .inl e)⟩
      · by_cases k2 : y.k < 2 + s.W
        · have pn : o.n = fnV 124 br := by rw [p1, oK, if_neg k0, if_neg k1, if_pos k2]
          have es' : oStep s = { s with po := some { y with k := y.k + 1, o := y.o ++ [nth s.m (wd s.D s.W y.h (y.k - 2))] } } := es.trans (by rw [oNext, if_neg k0, if_neg k1, if_pos k2])
          have hO1 : oOver s = false := by simp [oOver, hy, k1]; omega
          have hE1 : oErr s = 0 := by simp [oErr, hy, k1]
          have hT1 : oTold s = [] := by simp [oTold, hy]; omega
          obtain ⟨A, cp, ev, _, hcp, hcp2, _⟩ := Own.row p5
          unfold maxLen at hcp2
          rw [← hly] at es'
          by_cases hm : y.o.length + 1 < s.W
          · refine (step_ogo h.head pn f3 (K' := 124) (n := 0) (Q := fun V => ∃ v', OP2 br bm gm s.D s.W u o s.m (c + 1) w y.o (nth s.m (wd s.D s.W y.h y.o.length)) v' V) ((oword_more h.head h.mem hlen c0 c1 hd8 ok.w6 p2 (hu.h (by omega)) ev p5 hm hcp hcp2 hbr).mono (fun e V hh => ?_)) (fun V hV => ?_)).mono ?_
            · obtain ⟨v', he, hr⟩ := hh
              exact ⟨he, v', hr⟩
            · obtain ⟨v', hr⟩ := hV
              exact ⟨_, _, hr.2.1⟩
            · intro e w' hp
              exact ogo_post c0 hp hO1 hE1 hT1 es' fun V hV => by
                obtain ⟨v', r1, r2, r3, r4, r5⟩ := hV
                exact ⟨_, h.ostep hy r1 r2 r5 { y with k := y.k + 1, o := y.o ++ [nth s.m (wd s.D s.W y.h y.o.length)] } (by show oK s.W (y.k + 1) = _; rw [oK, if_neg (by omega), if_neg (by omega), if_pos (by omega)]) p2 p3 rfl r3 r4⟩
          · refine (step_ogo h.head pn f3 (K' := 130) (n := 0) (Q := fun V => ∃ v', OP2 br bm gm s.D s.W u o s.m (c + 1) w y.o (nth s.m (wd s.D s.W y.h y.o.length)) v' V) ((oword_end h.head h.mem hlen c0 c1 hd8 ok.w6 p2 (hu.h (by omega)) ev p5 (show y.o.length + 1 = s.W by omega) hcp hcp2 hbr).mono (fun e V hh => ?_)) (fun V hV => ?_)).mono ?_
            · obtain ⟨v', he, hr⟩ := hh
              exact ⟨he, v', hr⟩
            · obtain ⟨v', hr⟩ := hV
              exact ⟨_, _, hr.2.1⟩
            · intro e w' hp
              exact ogo_post c0 hp hO1 hE1 hT1 es' fun V hV => by
                obtain ⟨v', r1, r2, r3, r4, r5⟩ := hV
                exact ⟨_, h.ostep hy r1 r2 r5 { y with k := y.k + 1, o := y.o ++ [nth s.m (wd s.D s.W y.h y.o.length)] } (by show oK s.W (y.k + 1) = _; rw [oK, if_neg (by omega), if_neg (by omega), if_neg (by omega)]) p2 p3 rfl r3 r4⟩
        · have k3 : y.k = 2 + s.W := by omega
          have pn : o.n = fnV 130 br := by rw [p1, oK, if_neg k0, if_neg k1, if_neg k2]
          have ht : oTold s = y.o := by simp [oTold, hy, k3]
          refine (step_oend h.head pn f4 (Q := fun V => MemAt V bm gm (s.m.set 0 (nx s.D y.h)) (c + 1) ∧ Blk V br 132 (hd s.D s.W bm u o) ∧ Only (O3 bm gm br) w V) (olast_any h.head h.mem hl2 c0 c1 hd8 p2 (hu.h (by omega))) (fun V hV => ⟨_, _, hV.2.1, pn, rfl⟩)).mono ?_
          intro e w' hp
          exact oend_post c0 hp (by simp [oOver, hy, k3]) (by simp [oErr, hy, k1]) (es.trans (by rw [oNext, if_neg k0, if_neg k1, if_neg k2])) (fun V hV => ⟨by rw [ht]; exact own_only (hown V hV.2.2) (put5_only V br 8) (fun g e hx => (hbr g e).1 hx), fun g e => (p6 g e).1⟩) fun V hV => h.oend (fun g e => (p6 g e).1) hV.1 hV.2.1 (hto V hV.2.2)
end Go.Proofs.YtpoidnajhcjmcaaDoor.R8
