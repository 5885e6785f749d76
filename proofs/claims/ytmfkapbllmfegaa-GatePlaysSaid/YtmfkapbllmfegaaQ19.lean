/- Lanes: Put: contracts. -/
import Derived.Test.YtmfkapbllmfegaaQ18
import Derived.Test.YtmfkapbllmfegaaQ13
import Derived.Deep.RegionLaw
namespace Go.Proofs.Ytmfkapbllmfegaa.L10
open Go.RowKit Go.Proofs.Ytmfkapbllmfegaa.G
set_option maxRecDepth 100000
variable {w w' : World} {b L P : Nat} {r : Value} {d : List MV}

/-- What lanes are, plain. -/
structure St (L P : Nat) (d : List MV) : Prop where
  l3 : L ≤ 3
  p8 : P ≤ 8
  srt : SrtL d
  ln : ∀ x ∈ d, 0 ≤ x.ln ∧ x.ln < L
  cn : ∀ k, cnt d k ≤ P
theorem cnt3 : ∀ (d : List MV), (∀ x ∈ d, 0 ≤ x.ln ∧ x.ln < 3) → d.length = cnt d 0 + cnt d 1 + cnt d 2
  | [], _ => rfl
  | x :: t, h => by
    have ih := cnt3 t fun y hy => h y (List.mem_cons_of_mem _ hy)
    have hx := h x (List.mem_cons_self ..)
    have e : ∀ k, cnt (x :: t) k = cnt t k + if x.ln = k then 1 else 0 := fun k => by
      unfold cnt
      rw [List.filter_cons]
      by_cases c : x.ln = k <;> simp [c]
    rw [e, e, e, List.length_cons, ih]
    rcases (show x.ln = 0 ∨ x.ln = 1 ∨ x.ln = 2 by omega) with c | c | c <;> simp [c] <;> omega
theorem St.len (h : St L P d) : d.length ≤ 24 := by
  have h1 := cnt3 d fun x hx => by have := h.ln x hx; have := h.l3; omega
  have := h.cn 0
  have := h.cn 1
  have := h.cn 2
  have := h.p8
  omega
theorem cnt_insL (d : List MV) (m : MV) (h : SrtL d) (k : Int) : cnt (insL d m) k = cnt d k + if m.ln = k then 1 else 0 := by
  conv => rhs; rw [← split_srt m d h]
  unfold insL
  rw [cnt_app, cnt_app]
  have e : cnt (m :: d.filter fun x => !le m x) k = cnt (d.filter fun x => !le m x) k + if m.ln = k then 1 else 0 := by
    unfold cnt
    rw [List.filter_cons]
    by_cases c : m.ln = k <;> simp [c]
  rw [e]; omega
theorem St.put (h : St L P d) {m : MV} (hl : isL L m.ln = true) (hr : cnt d m.ln < P) : St L P (insL d m) := by
  refine ⟨h.l3, h.p8, insL_srt d m h.srt, fun x hx => ?_, fun k => ?_⟩
  · rcases insL_mem hx with rfl | hx
    · exact isL_of hl
    · exact h.ln x hx
  · rw [cnt_insL d m h.srt]
    by_cases c : m.ln = k
    · rw [if_pos c, ← c]; omega
    · rw [if_neg c]; exact h.cn k
theorem put_nil (m : MV) (w : World) : Calls Try.prog 60 #[.pointer none, m.val] w fun e w' => e = .returned (.int .i64 3) ∧ Below w.heap.size w w' := by
  unfold MV.val
  go_enter Try.func60, Try.ntmps60
  go_wp2_with fail
  refine (has_nil m.ln _).mono ?_
  rintro e w' ⟨rfl, rfl⟩
  go_wp2_with fail
  go_ret
  exact ⟨rfl, b01 _ _⟩
theorem put_no (h : Ln w b L P r d) (m : MV) (hl : isL L m.ln = false) : Calls Try.prog 60 #[.pointer (some ⟨b, 0, none⟩), m.val] w fun e w' => e = .returned (.int .i64 3) ∧ Below w.heap.size w w' := by
  have HA := Lib.hid (has_any (h.below (b01 w (.cells #[.slice m.a m.ws.length m.c, .int .i64 m.ln, .int .i64 m.st, .int .i64 m.lt, .int .i64 m.sq] 43))) m.ln hl)
  clear h hl
  unfold MV.val
  go_enter Try.func60, Try.ntmps60
  go_wp2_with fail
  refine HA.out.mono ?_
  rintro e w' ⟨rfl, rfl⟩
  go_wp2_with fail
  go_ret
  exact ⟨rfl, b01 _ _⟩
theorem put_full (h : Ln w b L P r d) (hs : St L P d) (m : MV) (hl : isL L m.ln = true) (hr : cnt d m.ln = P) : Calls Try.prog 60 #[.pointer (some ⟨b, 0, none⟩), m.val] w fun e w' => e = .returned (.int .i64 10) ∧ Below w.heap.size w w' := by
  have h1 := h.below (b01 w (.cells #[.slice m.a m.ws.length m.c, .int .i64 m.ln, .int .i64 m.st, .int .i64 m.lt, .int .i64 m.sq] 43))
  have HA := Lib.hid (has_any h1 m.ln hl)
  have HR := Lib.hid (room_any h1 m.ln hs.p8 (by have := hs.len; omega))
  have e0 : room L P d m.ln = 0 := by unfold room; rw [if_pos hl, hr]; omega
  rw [e0] at HR
  have N := (Blk.new w 43 #[.slice m.a m.ws.length m.c, .int .i64 m.ln, .int .i64 m.st, .int .i64 m.lt, .int .i64 m.sq])
  have n1 := N.cell 1
  simp only [List.getElem?_toArray, List.getElem?_cons_zero, List.getElem?_cons_succ] at n1
  clear h hs hl hr h1 e0 N
  unfold MV.val
  go_enter Try.func60, Try.ntmps60
  go_wp2_with fail
  refine HA.out.mono ?_
  rintro e w' ⟨rfl, rfl⟩
  go_wp2_with fail
  refine HR.out.mono ?_
  rintro e w' ⟨rfl, hb⟩
  go_wp2_with fail
  go_ret
  exact ⟨rfl, bt (b01 _ _) hb⟩
/-- What a Put leaves. -/
structure PutW (w : World) (b L P : Nat) (r : Value) (d : List MV) (m m' : MV) (r' : Value) (w' : World) : Prop where
  pl : m'.pl = m.pl
  ln : Ln w' b L P r' (insL d m')
  wo : Wo w' w.heap.size m'
  on : Only (FL b r) w w'
  nw : Nw w.heap.size r r'
def PutPost (w : World) (b L P : Nat) (r : Value) (d : List MV) (m : MV) (e : Ending) (w' : World) : Prop := ∃ m' r', e = .returned (.int .i64 0) ∧ PutW w b L P r d m m' r' w'
theorem fin_app {V V' : World} {v' : Value} {m' : MV} (h : Ln V b L P r d) (ho : Own V' 0 43 5 v' (d.length + 1) (mvs (d ++ [m']))) (hg : V.grownBy V' r.ownBlock) (hne : ∀ q, r.ownBlock = some q → q ≠ b) (hob : v'.ownBlock = r.ownBlock ∨ v'.ownBlock = some V.heap.size) :
    Blk V' b 94 #[.int .i64 L, .int .i64 P, r] ∧ Ln (V'.setCell ⟨b, 2, none⟩ v') b L P v' (d ++ [m']) ∧ Only (FL b r) V (V'.setCell ⟨b, 2, none⟩ v') := by
  have e1 : Blk V' b 94 #[.int .i64 L, .int .i64 P, r] := blk_grown h.blk hg fun e => hne b e.symm rfl
  have e2 : Only (FL b r) V V' := (Only.refl _ V).grown hg fun k hk => .inl (.inr hk)
  refine ⟨e1, ⟨e1.set_ 2 v', ?_⟩, e2.set_ (.inl (.inl rfl)) 2 v'⟩
  have : d.length + 1 = (d ++ [m']).length := by rw [List.length_append]; rfl
  rw [← this]
  exact ho.far e1 (by decide) 2 v'
theorem put_fin {m m' : MV} {v w1 w5 : World} {ob : Obj} {A9 : Option Addr} {c9 V0 : Nat} (h : Ln w b L P r d) (hs : St L P d) (hl : isL L m.ln = true) (hB : Below w.heap.size w v) (S1 : Below v.heap.size v w1) (hp : m'.pl = m.pl) (hwo : Wo w1 V0 m') (hV0 : w.heap.size ≤ V0)
    (hq : Ln w5 b L P (.slice A9 (d.length + 1) c9) (d ++ [m'])) (ho : Only (FL b r) (w1.alloc ob) w5) (hn : (Value.slice A9 (d.length + 1) c9).ownBlock = r.ownBlock ∨ (Value.slice A9 (d.length + 1) c9).ownBlock = some (w1.alloc ob).heap.size) :
    ∃ g9, A9 = some ⟨g9, 0, none⟩ ∧ Calls Try.prog 72 #[.slice (some ⟨g9, 0, none⟩) (d.length + 1) c9, .func (.func 73) #[] #[]] w5 fun e w6 => e = .returned (.tuple #[]) ∧ PutW w b L P r d m m' (.slice (some ⟨g9, 0, none⟩) (d.length + 1) c9) w6 := by
  have e1 : (d ++ [m']).length = d.length + 1 := by rw [List.length_append]; rfl
  have hown := hq.own
  rw [e1] at hown
  have hA : ∃ g9, A9 = some ⟨g9, 0, none⟩ := by
    rcases hown.2 with ⟨_, h0⟩ | ⟨g, cap, cur, e, _⟩
    · omega
    · injection e with e _ _; exact ⟨g, e⟩
  obtain ⟨g9, rfl⟩ := hA
  refine ⟨g9, rfl, ?_⟩
  have hm' : m'.ln = m.ln := by have := congrArg Pm.ln hp; exact this
  have hlen := hs.len
  have hown' : Own w5 0 43 5 (.slice (some ⟨g9, 0, none⟩) (d ++ [m']).length c9) (d ++ [m']).length (mvs (d ++ [m'])) := by rw [e1]; exact hown
  have hc := sortBy_any hown' (ls_fn _).symm (by rw [e1]; omega)
  rw [put_srt d m' hs.srt (by omega) (fun x hx => by have := hs.ln x hx; have := hs.l3; omega) (by have := isL_of hl; have := hs.l3; omega), e1] at hc
  have hBw : Below w.heap.size w (w1.alloc ob) := ba1 (bt hB S1) ob
  have hg : ∃ cur, Blk w5 g9 43 cur := (hown.block_lt (g := g9) (by simp [Value.ownBlock])).2
  have hgb : b ≠ g9 := fun e => by
    obtain ⟨cur, hc'⟩ := hg
    subst e
    exact Blk.ne_ hc' hq.blk (by decide) rfl
  have hnw : Nw w.heap.size r (.slice (some ⟨g9, 0, none⟩) (d.length + 1) c9) := by
    rcases hn with hn | hn
    · exact .inl hn
    · exact .inr fun k hk => by rw [hn] at hk; injection hk with hk; have := hBw.size; omega
  refine hc.mono fun e w6 hh => ?_
  obtain ⟨he, hown6, hon6⟩ := hh
  refine ⟨he, hp, ⟨hon6.blk hq.blk hgb, ?_⟩, ?_, ?_, hnw⟩
  · rw [insL_len d m' hs.srt]; exact hown6
  · have h1 : Wo w5 V0 m' := ((hwo.below (b01 w1 ob)).only ho fun g cs hgb hk => (h.below hBw).no_int g cs hgb hk)
    exact (h1.only hon6 fun g cs hgi e => by
      obtain ⟨cur, hc'⟩ := hg
      have e' : g = g9 := e
      subst e'
      exact Blk.ne_ hc' hgi (by decide) rfl).less hV0
  · refine only_FL (n := w.heap.size) (r' := .slice (some ⟨g9, 0, none⟩) (d.length + 1) c9) ?_ hnw (Nat.le_refl _) (hon6.mono fun k hk => .inr (by have e' : k = g9 := hk; rw [e']; simp [Value.ownBlock]))
    exact (Only.of hBw).trans_ ho
set_option maxHeartbeats 4000000 in
theorem put_ok (h : Ln w b L P r d) (hs : St L P d) {m : MV} (hw : Wr w m) (hwl : m.ws.length ≤ 1000) (hl : isL L m.ln = true) (hr : cnt d m.ln < P) : Calls Try.prog 60 #[.pointer (some ⟨b, 0, none⟩), m.val] w (PutPost w b L P r d m) := by
  have h1 := h.below (b01 w (.cells #[.slice m.a m.ws.length m.c, .int .i64 m.ln, .int .i64 m.st, .int .i64 m.lt, .int .i64 m.sq] 43))
  have HA := Lib.hid (has_any h1 m.ln hl)
  have HR := Lib.hid (room_any h1 m.ln hs.p8 (by have := hs.len; omega))
  obtain ⟨rm, hrm⟩ : ∃ rm, room L P d m.ln = rm := ⟨_, rfl⟩
  have hr0 : (rm == 0) = false := by
    rw [beq_eq_false_iff_ne, ← hrm]; unfold room; rw [if_pos hl]; omega
  rw [hrm] at HR
  have N := (Blk.new w 43 #[.slice m.a m.ws.length m.c, .int .i64 m.ln, .int .i64 m.st, .int .i64 m.lt, .int .i64 m.sq])
  have HN := Lib.hid N
  have n1 := N.cell 1
  simp only [List.getElem?_toArray, List.getElem?_cons_zero, List.getElem?_cons_succ] at n1
  have HL := Lib.hid h
  have H1 := Lib.hid h1
  have HS := Lib.hid hs
  have HW := Lib.hid (And.intro hw hwl)
  have HI := Lib.hid hl
  obtain ⟨A, c, rfl, hx⟩ := h.own.row
  clear h hs hl hr h1 N hw hwl hrm hx
  unfold MV.val
  go_enter Try.func60, Try.ntmps60
  go_wp2_with fail
  refine HA.out.mono ?_
  rintro e w' ⟨rfl, rfl⟩
  go_wp2_with fail
  refine HR.out.mono ?_
  rintro e v ⟨rfl, hb⟩
  have HB := Lib.hid (bt (b01 w (.cells #[.slice m.a m.ws.length m.c, .int .i64 m.ln, .int .i64 m.st, .int .i64 m.lt, .int .i64 m.sq] 43)) hb)
  have HV := Lib.hid (H1.out.below hb)
  have HX := Lib.hid (HN.out.bel hb)
  have HC : Hid (∀ V, Below v.heap.size v V → Calls Try.prog 61 #[m.val] V (ClPost m V)) := fun V hV => clone_any ((HW.out.1.below HB.out).below hV) HW.out.2
  have HK : Hid (∀ V, Below v.heap.size v V → V.cell? ⟨b, 2, none⟩ = some (.slice A d.length c)) := fun V hV => (HV.out.below hV).cells.2.2
  have HM : Hid (∀ V, Below v.heap.size v V → MsgAt V w.heap.size 0 m) := fun V hV => by
    have q := (HX.out.bel hV).cell
    exact ⟨by rw [q]; rfl, by rw [q]; rfl, by rw [q]; rfl, by rw [q]; rfl, by rw [q]; rfl⟩
  have S0 : Below v.heap.size v v.drew := (Below.refl _ _).drew
  have K0 := HK.out _ S0
  obtain ⟨x0, x1, x2, x3, x4⟩ := HM.out _ S0
  have HNE : Hid (∀ q, (Value.slice A d.length c).ownBlock = some q → q ≠ b) := fun q hq e => by
    subst e
    obtain ⟨_, cur, hc⟩ := HL.out.own.block_lt hq
    exact Blk.ne_ hc HL.out.blk (by decide) rfl
  have HLen : Hid (d.length ≤ 1000) := by have := HS.out.len; show d.length ≤ 1000; omega
  unfold MV.val at HC
  clear n1 hb HN HA HR H1
  go_wp2_with fail
  go_region_law
    (first
      | ((refine step_app (by rfl) _ _ (by rfl) (by rfl) (HO3.out _) (by rfl) (row_one _ _) HLen.out ?_); intro v' w4 hv4 hg4 hn4; obtain ⟨A9, c9, rfl, hx9⟩ := Own.row hv4; clear hx9; have HQ := Lib.hid (FIN.out _ w4 _ hv4 hg4 hn4); have HN4 := Lib.hid hn4; have k4 := HQ.out.1.cell; have f4 := HQ.out.1.frozen; clear hv4 hg4 hn4)
      | ((rw [if_pos (by simp [Region.wanted])]; go_simp; go_at_call 61; (with_reducible refine (HC.out _ S0).mono ?_); rintro e w1 ⟨m', rfl, hp, hwo, hb1⟩; have S1 := bt S0 hb1; have K1 := HK.out _ S1; have K2 := HK.out _ (ba1 S1 (.cells #[.slice m'.a m'.ws.length m'.c, .int .i64 m'.ln, .int .i64 m'.st, .int .i64 m'.lt, .int .i64 m'.sq] 43)); have HO3 : Hid (∀ ob, Own (w1.alloc ob) 0 43 5 (.slice A d.length c) d.length (mvs d)) := (fun ob => ((HV.out.below S1).own.below (b01 _ _))); have HP := Lib.hid hp; have HWo := Lib.hid hwo; have FIN : Hid (∀ (ob : Obj) (w4 : World) (v' : Value), Own w4 0 43 5 v' (d.length + 1) (mvs (d ++ [m'])) → (w1.alloc ob).grownBy w4 (Value.slice A d.length c).ownBlock → (v'.ownBlock = (Value.slice A d.length c).ownBlock ∨ v'.ownBlock = some (w1.alloc ob).heap.size) → Blk w4 b 94 #[.int .i64 L, .int .i64 P, .slice A d.length c] ∧ Ln (w4.setCell ⟨b, 2, none⟩ v') b L P v' (d ++ [m']) ∧ Only (FL b (.slice A d.length c)) (w1.alloc ob) (w4.setCell ⟨b, 2, none⟩ v')) := (fun ob w4 v' h1 h2 h3 => fin_app ((HV.out.below S1).below (b01 _ _)) h1 h2 HNE.out h3); unfold MV.val)))
  all_goals
    obtain ⟨g9, rfl, hcs⟩ := put_fin HL.out HS.out HI.out HB.out S1 HP.out HWo.out (by have := HB.out.size; have := S0.size; omega) HQ.out.2.1 HQ.out.2.2 HN4.out
    have HCs := Lib.hid hcs
    have k5 := HQ.out.2.1.cells.2.2
    clear hcs K0 K1 K2 k4 f4 FIN HQ HN4 HO3 HC HK HM x0 x1 x2 x3 x4
    generalize w4.setCell ⟨b, 2, none⟩ (.slice (some ⟨g9, 0, none⟩) (d.length + 1) c9) = w5 at *
    go_wp2_with fail
    refine HCs.out.mono ?_
    rintro e w6 ⟨rfl, h6⟩
    have H6 := Lib.hid h6
    clear h6
    go_wp2_with fail
    go_ret
    exact ⟨m', _, rfl, H6.out⟩
end Go.Proofs.Ytmfkapbllmfegaa.L10
