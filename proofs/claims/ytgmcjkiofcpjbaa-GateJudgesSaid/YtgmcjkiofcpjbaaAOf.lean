/- Texts laid together: A3, A4. -/
import Derived.Test.YtgmcjkiofcpjbaaAAll
/- A gate: what lets a message in, and Offer, whatever it answers: contracts. -/
namespace Go.Proofs.Ytgmcjkiofcpjbaa.A12
open Go.RowKit Go.Proofs.Ytgmcjkiofcpjbaa.G Go.Proofs.Ytgmcjkiofcpjbaa.L10 Go.Proofs.Ytgmcjkiofcpjbaa.C04
set_option maxRecDepth 100000
variable {w0 w00 w w' : World} {g : Nat} {a : Ga} {s : Gs}
/-- The message that is let in, as it is handed to the lanes. -/
def lm (a : Ga) (A : Option Addr) (ws : List Int) (c : Nat) (lane now q : Int) : MV := ⟨A, ws, c, lane, Sat.cut now, Sat.add (Sat.cut now) a.k.li, q⟩
/-- What it tells. -/
def pm (a : Ga) (ws : List Int) (lane now q : Int) : Pm := ⟨ws, lane, Sat.cut now, Sat.add (Sat.cut now) a.k.li, q⟩
theorem Gt.rlt (h : Gt w0 w g a s) {k : Nat} (hk : s.r.ownBlock = some k) : k < w.heap.size := h.lv.ln.lts k (.inr hk)
/-- A block that is none of the lanes'. -/
theorem Gt.nofl (h : Gt w0 w g a s) {k : Nat} (hk : w.heap.size ≤ k) : ¬ FL a.lb s.r k := fun hf => by have := h.lv.ln.lts k hf; omega
/-- Cells that are read, apart from all that is the gate's. -/
structure Ap (w : World) (g : Nat) (a : Ga) (r : Value) (A : Option Addr) (xs : List Value) : Prop where
  row : Row w A xs
  ap : 0 < xs.length → ∀ q o, A = some ⟨q, o, none⟩ → ¬ FL a.lb r q ∧ q ≠ g ∧ q ≠ a.bb
theorem only_row {F : Nat → Prop} {A : Option Addr} {xs : List Value} (h : Row w A xs) (k : Only F w w') (hn : 0 < xs.length → ∀ q o, A = some ⟨q, o, none⟩ → ¬ F q) : Row w' A xs := fun h0 => by
  obtain ⟨q, o, ea, hq, hc⟩ := h h0
  refine ⟨q, o, ea, Nat.lt_of_lt_of_le hq k.size, fun j u hj => ?_⟩
  have := hc j u hj
  unfold World.cell? at this ⊢
  rw [k.block q hq (hn h0 q o ea)]
  exact this
theorem Ap.below {A : Option Addr} {xs : List Value} {r : Value} (h : Ap w g a r A xs) (hb : Below w.heap.size w w') : Ap w' g a r A xs := ⟨h.row.below hb, h.ap⟩
theorem Ap.drew {A : Option Addr} {xs : List Value} {r : Value} (h : Ap w g a r A xs) : Ap w.drew g a r A xs := ⟨h.row.drewN 1, h.ap⟩
theorem Ap.num {A : Option Addr} {xs : List Value} {r : Value} (h : Ap w g a r A xs) (i : Nat) (u : Value) : Ap (w.setCell ⟨g, i, none⟩ u) g a r A xs :=
  ⟨fun h0 => (h.row.far (p := ⟨g, i, none⟩) (fun q o e => (h.ap h0 q o e).2.1) u) h0, h.ap⟩
theorem Ap.bucket {A : Option Addr} {xs : List Value} {r : Value} (h : Ap w g a r A xs) (ho : K11.Ob a.bb w w') : Ap w' g a r A xs :=
  ⟨only_row h.row (ob_only ho) fun h0 q o e => (h.ap h0 q o e).2.2, h.ap⟩
theorem Ap.lanes {A : Option Addr} {xs : List Value} {r : Value} (h : Ap w g a r A xs) (ho : Only (FL a.lb r) w w') : Row w' A xs :=
  only_row h.row ho fun h0 q o e => (h.ap h0 q o e).1
/-- A row that was there ahead of the gate. -/
theorem Gt.ap_old (h : Gt w0 w g a s) {A : Option Addr} {xs : List Value} (hr : Row w0 A xs) : Ap w g a s.r A xs := by
  refine ⟨hr.below h.bl, fun h0 q o e => ?_⟩
  obtain ⟨q', o', e', hq, _⟩ := hr h0
  rw [e] at e'
  injection e' with e'
  injection e' with e1 e2
  subst e1
  have h1 := h.bg
  have h2 := h.ge
  refine ⟨fun hf => ?_, by omega, by omega⟩
  have := h.lv.ab q hf
  omega
/-- A row in a block that is new. -/
theorem Gt.ap_new (h : Gt w0 w g a s) {w1 : World} {A : Option Addr} {xs : List Value} (hr : Row w1 A xs) (hq : 0 < xs.length → ∀ q o, A = some ⟨q, o, none⟩ → w.heap.size ≤ q) : Ap w1 g a s.r A xs := by
  refine ⟨hr, fun h0 q o e => ?_⟩
  have h1 := hq h0 q o e
  have h2 := h.bx.lt
  have h3 := h.bk.lt
  exact ⟨h.nofl h1, by omega, by omega⟩
structure LtW (w0 w : World) (g : Nat) (a : Ga) (s : Gs) (M : Pm) (m' : MV) (r' : Value) (d' : List MV) (w' : World) : Prop where
  pl : m'.pl = M
  wo : Wo w' w.heap.size m'
  gt : Gt w0 w' g a ⟨r', d', s.T, s.N, s.q + 1⟩
  dp : d'.map MV.pl = insP (s.d.map MV.pl) M
  nw : Nw w.heap.size s.r r'
  on : Only (FG g a s.r) w w'
def LtP (w0 w : World) (g : Nat) (a : Ga) (s : Gs) (M : Pm) (e : Ending) (w' : World) : Prop := ∃ m' r' d', e = .returned m'.val ∧ LtW w0 w g a s M m' r' d' w'
/-- A Put that takes. -/
structure PuW (w0 V : World) (g : Nat) (a : Ga) (s : Gs) (M : Pm) (r' : Value) (d' : List MV) (V' : World) : Prop where
  gt : Gt w0 V' g a ⟨r', d', s.T, s.N, s.q⟩
  dp : d'.map MV.pl = insP (s.d.map MV.pl) M
  nw : Nw V.heap.size s.r r'
  on : Only (FL a.lb s.r) V V'
def PuP (w0 V : World) (g : Nat) (a : Ga) (s : Gs) (M : Pm) (e : Ending) (V' : World) : Prop := ∃ r' d', e = .returned (.int .i64 0) ∧ PuW w0 V g a s M r' d' V'
theorem put_g (h : Gt w0 w g a s) {m : MV} (hw : Wr w m) (hl : m.ws.length ≤ 1000) (hp : pcode a.L a.P s.d m.ln = 0) : Calls Try.prog 68 #[.pointer (some ⟨a.lb, 0, none⟩), m.val] w (PuP w0 w g a s m.pl) :=
  (putp_any h.lv.ln h.st hw hl).mono fun x V' ⟨r', d', hx, hq, hd⟩ => by
    rw [hp] at hx
    unfold putP at hd
    rw [hp, if_pos rfl] at hd
    exact ⟨r', d', hx, h.lanes hq.ln hq.st (hq.wd h.wd) hq.on hq.nw, hd, hq.nw, hq.on⟩
theorem bel5 {B q : Nat} {x V : World} (h : Below B x V) (hq : B ≤ q) (u0 u1 u2 u3 u4 : Value) : Below B x (((((V.setCell ⟨q, 0, none⟩ u0).setCell ⟨q, 1, none⟩ u1).setCell ⟨q, 2, none⟩ u2).setCell ⟨q, 3, none⟩ u3).setCell ⟨q, 4, none⟩ u4) :=
  ((((h.setCell (p := ⟨q, 0, none⟩) hq u0).setCell (p := ⟨q, 1, none⟩) hq u1).setCell (p := ⟨q, 2, none⟩) hq u2).setCell (p := ⟨q, 3, none⟩) hq u3).setCell (p := ⟨q, 4, none⟩) hq u4
theorem blk5 {V : World} {q : Nat} {z0 z1 z2 z3 z4 : Value} (h : Blk V q 43 #[z0, z1, z2, z3, z4]) (u0 u1 u2 u3 u4 : Value) : Blk (((((V.setCell ⟨q, 0, none⟩ u0).setCell ⟨q, 1, none⟩ u1).setCell ⟨q, 2, none⟩ u2).setCell ⟨q, 3, none⟩ u3).setCell ⟨q, 4, none⟩ u4) q 43 #[u0, u1, u2, u3, u4] :=
  ((((h.set_ 0 u0).set_ 1 u1).set_ 2 u2).set_ 3 u3).set_ 4 u4
theorem let_fin {W4 V4 V5 : World} {M : Pm} {r4 : Value} {d4 : List MV} {m' : MV} {kx : Nat} {q : Int} {b5 : Array Value} (hW : w.heap.size = kx) (hg : w0.heap.size ≤ w.heap.size) (hx : ¬ FL a.lb s.r kx) (b4 : Blk W4 kx 43 b5) (h : PuW w0 W4 g a ⟨s.r, s.d, s.T, s.N, q⟩ M r4 d4 V4) (hp : m'.pl = M) (hw : Wo V5 V4.heap.size m') (hb : Below V4.heap.size V4 V5) (u0 u1 u2 u3 u4 : Value) (hq : q = s.q + 1) (hkp : Only (fun k => k = g) w W4) :
    LtW w0 w g a s M m' r4 d4 (((((V5.setCell ⟨kx, 0, none⟩ u0).setCell ⟨kx, 1, none⟩ u1).setCell ⟨kx, 2, none⟩ u2).setCell ⟨kx, 3, none⟩ u3).setCell ⟨kx, 4, none⟩ u4) := by
  have ho := only5 (Only.refl (fun k => k = kx) V5) (.inl rfl) u0 u1 u2 u3 u4
  have bk : Blk V5 kx 43 b5 := (h.on.blk b4 hx).bel hb
  have hk4 := b4.lt
  subst hq
  have hr : r4.ownBlock ≠ some kx := fun e => by
    rcases h.nw with n | n
    · exact hx (.inr (by rw [← n]; exact e))
    · have := n kx e; omega
  refine ⟨hp, (hw.less (by have := h.on.size; omega)).only ho fun k cs hk e => hk.ne_ bk (by decide) e, (h.gt.below hb).box bk hr (by omega) ho, h.dp, ?_, ?_⟩
  · rcases h.nw with n | n
    · exact .inl n
    · exact .inr fun k hk => by have := n k hk; omega
  · have h1 : Only (FG g a s.r) w W4 := hkp.mono fun k hk => .inr (.inl hk)
    have h2 : Only (FG g a s.r) w V4 := h1.trans_ (fg_lanes h.on fun k hk => hk)
    exact (h2.bel hb).trans (ho.mono fun k hk => .inr (by have e : k = kx := hk; omega))
set_option maxHeartbeats 4000000 in
theorem let_any (h : Gt w0 w g a s) {A : Option Addr} {ws : List Int} {c : Nat} {lane : Int} (now : Int) (hr : Ap w g a s.r A (L10.iv ws)) (hc : ws.length ≤ c) (hc2 : c ≤ 9223372036854775807) (hl : ws.length ≤ 1000) (hq0 : 0 ≤ s.q) (hq : s.q ≤ 1000000) (hp : pcode a.L a.P s.d lane = 0) :
    Calls Try.prog 46 #[.pointer (some ⟨g, 0, none⟩), .int .i64 lane, .slice A ws.length c, .int .i64 now] w (LtP w0 w g a s (pm a ws lane now (s.q + 1))) := by
  have b0 := b01 w (.cells zC 43)
  have h0 := h.below b0
  have N0 := Blk.new w 43 zC
  have h1 := h0.num (s.q + 1)
  have N1 : Blk ((w.alloc (.cells zC 43)).setCell ⟨g, 13, none⟩ (.int .i64 (s.q + 1))) w.heap.size 43 zC := N0.far (p := ⟨g, 13, none⟩) (fun e => N0.ne_ h0.bx (by decide) e) _
  have HN := Lib.hid N1
  have HKP : Hid (Only (fun k => k = g) w ((w.alloc (.cells zC 43)).setCell ⟨g, 13, none⟩ (.int .i64 (s.q + 1)))) := ((Only.refl (fun k => k = g) w).alloc _).set_ (.inl rfl) 13 _
  have H1 := Lib.hid h1
  have HW := Lib.hid ((hr.below b0).num 13 (.int .i64 (s.q + 1)))
  have HC0 := Lib.hid (And.intro hc hc2)
  have HL := Lib.hid hl
  have HP := Lib.hid hp
  have HF := Lib.hid (h.nofl (Nat.le_refl _))
  have HG := Lib.hid h.bl.size
  have c0 := h0.bx.cell
  have f0 := h0.bx.frozen 13
  unfold gcells at c0
  have CC := Lib.hid (fun V => Sat.cut_any now V)
  have CA := Lib.hid (fun V => Sat.add_any (Sat.cut now) a.k.li V)
  unfold pm
  generalize Sat.add (Sat.cut now) a.k.li = la at *
  generalize Sat.cut now = st at *
  clear h h0 h1 b0 N0 N1 hr hc hc2 hl hp
  unfold zC at *
  go_enter Try.func46, Try.ntmps46
  go_upto_region 2 with fail
  obtain ⟨kx, hkx⟩ : ∃ kx, w.heap.size = kx := ⟨_, rfl⟩
  generalize (w.alloc (.cells #[.slice none 0 0, .int .i64 0, .int .i64 0, .int .i64 0, .int .i64 0] 43)).setCell ⟨g, 13, none⟩ (.int .i64 (s.q + 1)) = W1 at *
  clear c0 f0
  go_wp2_with (go_at_call 66; refine (CC.out _).mono ?_; rintro e w' ⟨rfl, rfl⟩)
  rw [hkx] at HN
  have HKX := Lib.hid hkx
  clear hkx
  have HS : Hid (∀ V, Below W1.heap.size W1 V → ∀ i, V.cell? ⟨g, i, none⟩ = (gcells a (s.q + 1))[i]?) := fun V hV => (H1.out.bx.bel hV).cell
  unfold gcells at HS
  have S0 : Below W1.heap.size W1 W1.drew := (Below.refl _ _).drew
  have K0 := HS.out _ S0
  go_region_held3 (fun V => ∀ i, V.cell? ⟨g, i, none⟩ = (#[.int .i64 a.k.k, .int .i64 a.k.f, .int .i64 a.k.t, .int .i64 a.k.w, .int .i64 a.k.r, .int .i64 a.k.la, .int .i64 a.k.d, .int .i64 a.k.h, .int .i64 a.k.li, .int .i64 a.k.ra, .int .i64 a.k.c, .pointer (some ⟨a.lb, 0, none⟩), .pointer (some ⟨a.bb, 0, none⟩), .int .i64 (s.q + 1)] : Array Value)[i]?) (first | (with_reducible exact HS.out _ S0) | (with_reducible exact HS.out _ (ba1 S0 _)) | (with_reducible exact HS.out _ ((b01 W1 _).drew)) | ((with_reducible refine HS.out _ (bel5 ?_ (Nat.le_refl _) _ _ _ _ _)); first | exact (b01 W1 _).drew | exact ba1 S0 _ | fail) | fail)
    (first
      | (go_at_call 67; (with_reducible refine (CA.out _).mono ?_); rintro e w1 ⟨rfl, rfl⟩)
      | fail)
  all_goals
    have HKP3 : Hid (Only (fun k => k = g) w (W1.alloc (.cells #[.slice A ws.length c, .int .i64 lane, .int .i64 st, .int .i64 la, .int .i64 (s.q + 1)] 43)).drew) := (HKP.out.alloc _).drewN 1
    have HWA : Hid (Ap (W1.alloc (.cells #[.slice A ws.length c, .int .i64 lane, .int .i64 st, .int .i64 la, .int .i64 (s.q + 1)] 43)).drew g a s.r A (L10.iv ws)) := (HW.out.below (b01 _ _)).drew
    have H3 := Lib.hid ((H1.out.alloc (.cells #[.slice A ws.length c, .int .i64 lane, .int .i64 st, .int .i64 la, .int .i64 (s.q + 1)] 43)).drewN 1)
    have N3 : Hid (Blk (W1.alloc (.cells #[.slice A ws.length c, .int .i64 lane, .int .i64 st, .int .i64 la, .int .i64 (s.q + 1)] 43)).drew W1.heap.size 43 #[.slice A ws.length c, .int .i64 lane, .int .i64 st, .int .i64 la, .int .i64 (s.q + 1)]) := (Blk.new W1 43 _).drewN 1
    have B3 : Hid (Blk (W1.alloc (.cells #[.slice A ws.length c, .int .i64 lane, .int .i64 st, .int .i64 la, .int .i64 (s.q + 1)] 43)).drew kx 43 #[.slice none 0 0, .int .i64 0, .int .i64 0, .int .i64 0, .int .i64 0]) := (HN.out.alloc _).drewN 1
    clear K0 S0 HS HN
    obtain ⟨ky, hky⟩ : ∃ ky, W1.heap.size = ky := ⟨_, rfl⟩
    rw [hky] at N3 ⊢
    have HKY := Lib.hid hky
    clear hky
    have H3 : Hid (Gt w0 (W1.alloc (.cells #[.slice A ws.length c, .int .i64 lane, .int .i64 st, .int .i64 la, .int .i64 (s.q + 1)] 43)).drew g a ⟨s.r, s.d, s.T, s.N, s.q + 1⟩) := H3
    generalize (W1.alloc (.cells #[.slice A ws.length c, .int .i64 lane, .int .i64 st, .int .i64 la, .int .i64 (s.q + 1)] 43)).drew = W3 at *
    have k0 := H3.out.bx.cell
    have m0 := N3.out.cell
    unfold gcells at k0
    go_wp2_with fail
    have H4 : Hid (Gt w0 W3.drew g a ⟨s.r, s.d, s.T, s.N, s.q + 1⟩) := H3.out.drewN 1
    have N4 : Hid (Blk W3.drew ky 43 #[.slice A ws.length c, .int .i64 lane, .int .i64 st, .int .i64 la, .int .i64 (s.q + 1)]) := N3.out.drewN 1
    have HW4 : Hid (Ap W3.drew g a s.r A (L10.iv ws)) := HWA.out.drew
    have HP4 := Lib.hid (put_g (m := ⟨A, ws, c, lane, st, la, s.q + 1⟩) H4.out ⟨HW4.out.row, HC0.out.1, HC0.out.2⟩ HL.out HP.out)
    unfold MV.val at HP4
    simp only at HP4
    have HX : Hid (¬ FL a.lb s.r kx ∧ ¬ FL a.lb s.r ky) := ⟨by rw [← HKX.out]; exact HF.out, by rw [← HKY.out]; exact H1.out.nofl (Nat.le_refl _)⟩
    have HS : Hid (∀ V M r' d', PuW w0 W3.drew g a ⟨s.r, s.d, s.T, s.N, s.q + 1⟩ M r' d' V → ((∀ i, V.cell? ⟨g, i, none⟩ = (gcells a (s.q + 1))[i]?) ∧ ∀ i, V.cell? ⟨ky, i, none⟩ = (#[.slice A ws.length c, .int .i64 lane, .int .i64 st, .int .i64 la, .int .i64 (s.q + 1)] : Array Value)[i]?)) := fun V M r' d' h => ⟨h.gt.bx.cell, (h.on.blk N4.out HX.out.2).cell⟩
    unfold gcells at HS
    have K0 : (∀ i, W3.drew.cell? ⟨g, i, none⟩ = _) ∧ ∀ i, W3.drew.cell? ⟨ky, i, none⟩ = _ := ⟨k0, m0⟩
    go_region_held3 (fun V => (∀ i, V.cell? ⟨g, i, none⟩ = (#[.int .i64 a.k.k, .int .i64 a.k.f, .int .i64 a.k.t, .int .i64 a.k.w, .int .i64 a.k.r, .int .i64 a.k.la, .int .i64 a.k.d, .int .i64 a.k.h, .int .i64 a.k.li, .int .i64 a.k.ra, .int .i64 a.k.c, .pointer (some ⟨a.lb, 0, none⟩), .pointer (some ⟨a.bb, 0, none⟩), .int .i64 (s.q + 1)] : Array Value)[i]?) ∧ ∀ i, V.cell? ⟨ky, i, none⟩ = (#[.slice A ws.length c, .int .i64 lane, .int .i64 st, .int .i64 la, .int .i64 (s.q + 1)] : Array Value)[i]?) (first | exact K0 | (with_reducible exact HS.out _ _ _ _ h4) | fail)
      (first
        | (go_at_call 68; (with_reducible refine HP4.out.mono ?_); rintro e w4 ⟨r4, d4, rfl, h4⟩)
        | fail)
    have H5 := Lib.hid h4
    have B4 : Hid (Blk W3.drew kx 43 #[.slice none 0 0, .int .i64 0, .int .i64 0, .int .i64 0, .int .i64 0]) := B3.out.drewN 1
    have m4 := (h4.on.blk N4.out HX.out.2).cell
    have b4 := h4.on.blk B4.out HX.out.1
    have HC := Lib.hid (clone_any (m := ⟨A, ws, c, lane, st, la, s.q + 1⟩) ⟨HW4.out.lanes h4.on, HC0.out.1, HC0.out.2⟩ HL.out)
    have HB4 := Lib.hid b4
    unfold MV.val ClPost at HC
    simp only at HC
    clear K0 k0 m0 h4 b4 HP4 HS
    go_wp2_with fail
    refine HC.out.mono ?_
    rintro e w5 ⟨m', rfl, hm5, hw5, hb5⟩
    have H6 := Lib.hid (And.intro hm5 (And.intro hw5 hb5))
    have b5 := HB4.out.bel hb5
    have c5 := b5.cell
    have f5 := b5.frozen
    clear hm5 hw5 hb5 b5 m4
    unfold MV.val
    go_wp2_with fail
    refine bodyPost_ret (v := .agg #[.slice m'.a m'.ws.length m'.c, .int .i64 m'.ln, .int .i64 m'.st, .int .i64 m'.lt, .int .i64 m'.sq]) (by simp [results, Try.results46, go_sem, c5]) rfl ⟨m', r4, d4, rfl, ?_⟩
    exact let_fin HKX.out HG.out HX.out.1 B4.out H5.out H6.out.1 H6.out.2.1 H6.out.2.2 _ _ _ _ _ rfl (HKP3.out.drewN 1)
end Go.Proofs.Ytgmcjkiofcpjbaa.A12
/- A gate: Offer, whatever it answers: a contract. -/
namespace Go.Proofs.Ytgmcjkiofcpjbaa.A12
open Go.RowKit Go.Proofs.Ytgmcjkiofcpjbaa.G Go.Proofs.Ytgmcjkiofcpjbaa.L10 Go.Proofs.Ytgmcjkiofcpjbaa.C04
set_option maxRecDepth 100000
variable {w0 w00 w w' : World} {g : Nat} {a : Ga} {s : Gs}
/-- Its bucket is asked. -/
def asks (a : Ga) (s : Gs) (mode lane : Int) (ws : List Int) : Bool := decide (jdg a.k mode lane ws = 0 ∧ room a.L a.P s.d lane ≠ 0)
/-- What an Offer answers. -/
def oc (a : Ga) (s : Gs) (mode lane : Int) (ws : List Int) (r : Int) : Int := if jdg a.k mode lane ws ≠ 0 then jdg a.k mode lane ws else if room a.L a.P s.d lane = 0 then 2 else if K11.ctok a.R a.C s.T s.N r = 0 then 2 else 0
/-- What an Offer leaves. -/
structure OfW (w0 w : World) (g : Nat) (a : Ga) (s : Gs) (M : Pm) (code : Int) (ask : Bool) (T1 N1 : Int) (m' : MV) (s' : Gs) (w' : World) : Prop where
  gt : Gt w0 w' g a s'
  wo : Wo w' 0 m'
  mp : m'.pl = if code = 0 then M else z0.pl
  dp : s'.d.map MV.pl = if code = 0 then insP (s.d.map MV.pl) M else s.d.map MV.pl
  q : s'.q = if code = 0 then s.q + 1 else s.q
  T : s'.T = if ask = true then K11.less T1 else s.T
  N : s'.N = if ask = true then N1 else s.N
  on : Only (FG g a s.r) w w'
  nw : Nw w.heap.size s.r s'.r
def OfP (w0 w : World) (g : Nat) (a : Ga) (s : Gs) (M : Pm) (code : Int) (ask : Bool) (T1 N1 : Int) (e : Ending) (w' : World) : Prop := ∃ m' s', e = .returned (.tuple #[m'.val, .int .i64 code]) ∧ OfW w0 w g a s M code ask T1 N1 m' s' w'
theorem pcode_of {L P : Nat} {d : List MV} {l : Int} (h : room L P d l ≠ 0) (hs : cnt d l ≤ P) : pcode L P d l = 0 := by
  unfold room at h
  unfold pcode
  split at h
  · rename_i h1
    rw [if_pos h1, if_pos (by omega)]
  · exact absurd rfl h
/-- Refused: the box of the answer alone has turned. -/
theorem of_no {W V : World} {M : Pm} {code : Int} {ask : Bool} {T1 N1 : Int} {s1 : Gs} {cs : Array Value} {kx : Nat} (hW : W.heap.size = kx) (hg : w0.heap.size ≤ W.heap.size) (h : Gt w0 V g a s1) (hb : Blk V kx 43 cs) (hr : s.r = s1.r) (hd : s.d = s1.d) (hq : s.q = s1.q) (hx : s.r.ownBlock ≠ some kx) (hc : code ≠ 0) (hT : s1.T = if ask = true then K11.less T1 else s.T) (hN : s1.N = if ask = true then N1 else s.N) (hO : Only (FG g a s.r) W V) (u0 u1 u2 u3 u4 : Value) :
    OfW w0 W g a s M code ask T1 N1 z0 s1 (((((V.setCell ⟨kx, 0, none⟩ u0).setCell ⟨kx, 1, none⟩ u1).setCell ⟨kx, 2, none⟩ u2).setCell ⟨kx, 3, none⟩ u3).setCell ⟨kx, 4, none⟩ u4) :=
  ⟨h.box hb (by rw [← hr]; exact hx) (by omega) (only5 (Only.refl (fun k => k = kx) V) (.inl rfl) u0 u1 u2 u3 u4), Own.nil_ _ _ _ _, by rw [if_neg hc], by rw [if_neg hc, hd], by rw [if_neg hc, hq], hT, hN, hO.trans ((only5 (Only.refl (fun k => k = kx) V) (.inl rfl) u0 u1 u2 u3 u4).mono fun k hk => .inr (by have e : k = kx := hk; omega)), .inl (by rw [hr])⟩
theorem of_yes {W V2 V : World} {M : Pm} {T1 N1 : Int} {s1 : Gs} {cs : Array Value} {kx : Nat} {m' : MV} {r' : Value} {d' : List MV} (hW : W.heap.size = kx) (hg : w0.heap.size ≤ W.heap.size) (h : LtW w0 V2 g a s1 M m' r' d' V) (hb : Blk V kx 43 cs) (hV : kx < V2.heap.size) (hr : s.r = s1.r) (hd : s.d = s1.d) (hq : s.q = s1.q) (hx : s.r.ownBlock ≠ some kx) (hT : s1.T = K11.less T1) (hN : s1.N = N1) (hO : Only (FG g a s.r) W V2) (u0 u1 u2 u3 u4 : Value) :
    OfW w0 W g a s M 0 true T1 N1 m' ⟨r', d', s1.T, s1.N, s1.q + 1⟩ (((((V.setCell ⟨kx, 0, none⟩ u0).setCell ⟨kx, 1, none⟩ u1).setCell ⟨kx, 2, none⟩ u2).setCell ⟨kx, 3, none⟩ u3).setCell ⟨kx, 4, none⟩ u4) := by
  have ho := only5 (Only.refl (fun k => k = kx) V) (.inl rfl) u0 u1 u2 u3 u4
  refine ⟨h.gt.box hb (fun e => ?_) (by omega) ho, (h.wo.less (Nat.zero_le _)).only ho fun k cs hk e => hk.ne_ hb (by decide) e, by rw [if_pos rfl]; exact h.pl, by rw [if_pos rfl, hd]; exact h.dp, by rw [if_pos rfl, hq], by rw [if_pos rfl]; exact hT, by rw [if_pos rfl]; exact hN, (hO.trans_ (by rw [hr]; exact h.on)).trans (ho.mono fun k hk => .inr (by have e : k = kx := hk; omega)), ?_⟩
  · rcases h.nw with n | n
    · exact hx (by rw [hr, ← n]; exact e)
    · have := n kx e; omega
  · rcases h.nw with n | n
    · exact .inl (by rw [hr]; exact n)
    · exact .inr fun k hk => by have := n k hk; omega
set_option maxHeartbeats 4000000 in
theorem offer_any (h : Gt w0 w g a s) {A : Option Addr} {ws : List Int} {c : Nat} (mode lane now r : Int) (hr : Ap w g a s.r A (L10.iv ws)) (hc : ws.length ≤ c) (hc2 : c ≤ 9223372036854775807) (hl : ws.length ≤ 1000) (hq0 : 0 ≤ s.q) (hq : s.q ≤ 1000000) :
    Calls Try.prog 18 #[.pointer (some ⟨g, 0, none⟩), .int .i64 mode, .int .i64 lane, .slice A ws.length c, .int .i64 now, .int .i64 r] w (OfP w0 w g a s (pm a ws lane now (s.q + 1)) (oc a s mode lane ws r) (asks a s mode lane ws) (K11.ctok a.R a.C s.T s.N r) (K11.crnd s.N r)) := by
  have b0 := b01 w (.cells zC 43)
  have h0 := h.below b0
  have N0 := Blk.new w 43 zC
  have HH := Lib.hid h0
  have HN := Lib.hid N0
  have HJ := Lib.hid (judge_any (c := c) (w := w.alloc (.cells zC 43)) a.k mode lane (hr.below b0).row hl)
  have HW := Lib.hid (show w0.heap.size ≤ w.heap.size from h.bl.size)
  have HX : Hid (s.r.ownBlock ≠ some w.heap.size) := fun e => by have := h.rlt e; omega
  have HF := Lib.hid (h.nofl (Nat.le_refl _))
  have HRo := Lib.hid (fun V (hV : Gt w0 V g a s) => room_any hV.lv.ln lane hV.st.p8 (by have := hV.len; omega))
  have HTk := Lib.hid (fun V (hV : Gt w0 V g a s) => K11.take_any hV.bk r)
  have HLe := Lib.hid (fun V s1 (hV : Gt w0 V g a s1) (hA : Ap V g a s1.r A (L10.iv ws)) (h0 : 0 ≤ s1.q) (h1 : s1.q ≤ 1000000) (h2 : pcode a.L a.P s1.d lane = 0) => let_any hV (c := c) now hA hc hc2 hl h0 h1 h2)
  have HA0 := Lib.hid (hr.below b0)
  have HO0 := Lib.hid (Only.of (F := FG g a s.r) b0)
  have HPc : Hid (room a.L a.P s.d lane ≠ 0 → pcode a.L a.P s.d lane = 0) := fun hh => pcode_of hh (h.st.cn lane)
  have c0 := h0.bx.cell
  unfold oc asks
  obtain ⟨T0, hT0⟩ : ∃ T0, K11.ctok a.R a.C s.T s.N r = T0 := ⟨_, rfl⟩
  obtain ⟨M0, hM0⟩ : ∃ M0, K11.crnd s.N r = M0 := ⟨_, rfl⟩
  obtain ⟨T1, hT1⟩ : ∃ T1, T0 = T1 := ⟨_, rfl⟩
  obtain ⟨N1, hN1⟩ : ∃ N1, M0 = N1 := ⟨_, rfl⟩
  rw [hT0, hM0] at HTk
  rw [hT0, hM0, hT1, hN1]
  obtain ⟨R0, hRR⟩ : ∃ R0, room a.L a.P s.d lane = R0 := ⟨_, rfl⟩
  obtain ⟨R, hR0⟩ : ∃ R, R0 = R := ⟨_, rfl⟩
  rw [hRR] at HRo HPc ⊢
  rw [hR0] at HPc ⊢
  have HT1 := Lib.hid hT1
  have HN1r := Lib.hid hN1
  clear hT0 hM0 hRR hT1 hN1
  obtain ⟨M, hM⟩ : ∃ M, pm a ws lane now (s.q + 1) = M := ⟨_, rfl⟩
  have HM := Lib.hid hM
  rw [hM]
  clear hM
  generalize jdg a.k mode lane ws = J at *
  unfold gcells zC at *
  unfold Chn.val at HJ
  clear h h0 b0 N0 hr hc hc2 hl
  by_cases hJ : J = 0
  · subst hJ
    by_cases hR : R = 0
    · have HRR : Hid (R0 = R) := hR0
      rw [if_neg (by simp), if_pos hR, show decide ((0 : Int) = 0 ∧ R ≠ 0) = false from decide_eq_false (fun hh => hh.2 hR)]
      have tR : (R == 0) = true := by rw [beq_iff_eq]; exact hR
      clear hR hR0
      go_enter Try.func18, Try.ntmps18
      go_wp2_with fail
      refine HJ.out.mono ?_
      rintro e w1 ⟨rfl, hb1⟩
      have H1 := Lib.hid (HH.out.below hb1)
      have HO1 := Lib.hid (HO0.out.bel hb1)
      have HA1 := Lib.hid (HA0.out.below hb1)
      have N1' := HN.out.bel hb1
      have HN1 := Lib.hid N1'
      have q0 := N1'.cell
      have f0 := N1'.frozen
      have c1 := H1.out.bx.cell
      unfold gcells at c1
      clear hb1 N1' c0
      go_wp2_with fail
      refine (HRo.out _ H1.out).mono ?_
      rintro e w2 ⟨rfl, hb2⟩
      rw [HRR.out]
      have H2 := Lib.hid (H1.out.below hb2)
      have HO2 := Lib.hid (HO1.out.bel hb2)
      have HA2 := Lib.hid (HA1.out.below hb2)
      have N2' := HN1.out.bel hb2
      have HN2 := Lib.hid N2'
      clear q0 f0 c1 hb2
      have q0 := N2'.cell
      have f0 := N2'.frozen
      have c1 := H2.out.bx.cell
      unfold gcells at c1
      clear N2'
      go_wp2_with fail
      refine bodyPost_ret (v := .tuple #[z0.val, .int .i64 2]) (by simp [results, Try.results18, go_sem, q0, z0, MV.val]) rfl ⟨z0, s, rfl, ?_⟩
      exact of_no (s := s) rfl HW.out H2.out HN2.out rfl rfl rfl HX.out (by decide) rfl rfl HO2.out _ _ _ _ _
    · by_cases hT : T1 = 0
      · rw [if_neg (by simp), if_neg hR, if_pos hT, show decide ((0 : Int) = 0 ∧ R ≠ 0) = true from decide_eq_true ⟨rfl, hR⟩]
        have HRR : Hid (R0 = R) := hR0
        have HR0 := Lib.hid hR
        have tR : (R == 0) = false := by rw [beq_eq_false_iff_ne]; exact hR
        have tT : (T1 != 0) = false := by rw [bne_eq_false_iff_eq]; exact hT
        clear hR hR0 hT
        go_enter Try.func18, Try.ntmps18
        go_wp2_with fail
        refine HJ.out.mono ?_
        rintro e w1 ⟨rfl, hb1⟩
        have H1 := Lib.hid (HH.out.below hb1)
        have HO1 := Lib.hid (HO0.out.bel hb1)
        have HA1 := Lib.hid (HA0.out.below hb1)
        have N1' := HN.out.bel hb1
        have HN1 := Lib.hid N1'
        have q0 := N1'.cell
        have f0 := N1'.frozen
        have c1 := H1.out.bx.cell
        unfold gcells at c1
        clear hb1 N1' c0
        go_wp2_with fail
        refine (HRo.out _ H1.out).mono ?_
        rintro e w2 ⟨rfl, hb2⟩
        rw [HRR.out]
        have H2 := Lib.hid (H1.out.below hb2)
        have HO2 := Lib.hid (HO1.out.bel hb2)
        have HA2 := Lib.hid (HA1.out.below hb2)
        have N2' := HN1.out.bel hb2
        have HN2 := Lib.hid N2'
        clear q0 f0 c1 hb2
        have q0 := N2'.cell
        have f0 := N2'.frozen
        have c1 := H2.out.bx.cell
        unfold gcells at c1
        clear N2'
        go_wp2_with fail
        refine (HTk.out _ H2.out).mono ?_
        rintro e w3 ⟨rfl, hb3, ho3⟩
        rw [HT1.out, HN1r.out] at hb3
        have H3 := Lib.hid (H2.out.bucket hb3 ho3)
        have HO3 := Lib.hid (HO2.out.trans_ (fg_bb ho3))
        have HA3 := Lib.hid (HA2.out.bucket ho3)
        have N3' := (ob_only ho3).blk HN2.out (fun e => HN2.out.ne_ H2.out.bk.blk (by decide) e)
        have HN3 := Lib.hid N3'
        clear q0 f0 c1 hb3 ho3
        have q0 := N3'.cell
        have f0 := N3'.frozen
        have c1 := H3.out.bx.cell
        unfold gcells at c1
        clear N3'
        rw [HT1.out]
        go_wp2_with fail
        refine bodyPost_ret (v := .tuple #[z0.val, .int .i64 2]) (by simp [results, Try.results18, go_sem, q0, z0, MV.val]) rfl ⟨z0, ⟨s.r, s.d, K11.less T1, N1, s.q⟩, rfl, ?_⟩
        exact of_no (s := s) rfl HW.out H3.out HN3.out rfl rfl rfl HX.out (by decide) rfl rfl HO3.out _ _ _ _ _
      · rw [if_neg (by simp), if_neg hR, if_neg hT, show decide ((0 : Int) = 0 ∧ R ≠ 0) = true from decide_eq_true ⟨rfl, hR⟩]
        have HRR : Hid (R0 = R) := hR0
        have HR0 := Lib.hid hR
        have tR : (R == 0) = false := by rw [beq_eq_false_iff_ne]; exact hR
        have HT0 := Lib.hid hT
        clear hR hR0 hT
        go_enter Try.func18, Try.ntmps18
        go_wp2_with fail
        refine HJ.out.mono ?_
        rintro e w1 ⟨rfl, hb1⟩
        have H1 := Lib.hid (HH.out.below hb1)
        have HO1 := Lib.hid (HO0.out.bel hb1)
        have HA1 := Lib.hid (HA0.out.below hb1)
        have N1' := HN.out.bel hb1
        have HN1 := Lib.hid N1'
        have q0 := N1'.cell
        have f0 := N1'.frozen
        have c1 := H1.out.bx.cell
        unfold gcells at c1
        clear hb1 N1' c0
        go_wp2_with fail
        refine (HRo.out _ H1.out).mono ?_
        rintro e w2 ⟨rfl, hb2⟩
        rw [HRR.out]
        have H2 := Lib.hid (H1.out.below hb2)
        have HO2 := Lib.hid (HO1.out.bel hb2)
        have HA2 := Lib.hid (HA1.out.below hb2)
        have N2' := HN1.out.bel hb2
        have HN2 := Lib.hid N2'
        clear q0 f0 c1 hb2
        have q0 := N2'.cell
        have f0 := N2'.frozen
        have c1 := H2.out.bx.cell
        unfold gcells at c1
        clear N2'
        go_wp2_with fail
        refine (HTk.out _ H2.out).mono ?_
        rintro e w3 ⟨rfl, hb3, ho3⟩
        rw [HT1.out, HN1r.out] at hb3
        have H3 := Lib.hid (H2.out.bucket hb3 ho3)
        have HO3 := Lib.hid (HO2.out.trans_ (fg_bb ho3))
        have HA3 := Lib.hid (HA2.out.bucket ho3)
        have N3' := (ob_only ho3).blk HN2.out (fun e => HN2.out.ne_ H2.out.bk.blk (by decide) e)
        have HN3 := Lib.hid N3'
        clear q0 f0 c1 hb3 ho3
        have q0 := N3'.cell
        have f0 := N3'.frozen
        have c1 := H3.out.bx.cell
        unfold gcells at c1
        clear N3'
        rw [HT1.out]
        have tT : (T1 != 0) = true := by rw [bne_iff_ne]; exact HT0.out
        have HL3 := Lib.hid (HLe.out _ _ H3.out HA3.out hq0 hq (HPc.out HR0.out))
        go_wp2_with fail
        refine HL3.out.mono ?_
        rintro e w4 ⟨m', r', d', rfl, h4⟩
        rw [HM.out] at h4
        have H4 := Lib.hid h4
        have N4' := h4.on.blk HN3.out (H3.out.off HN3.out HF.out (by decide) (by decide))
        have HN4 := Lib.hid N4'
        clear q0 f0 c1 h4
        have q0 := N4'.cell
        have f0 := N4'.frozen
        clear N4'
        unfold MV.val
        go_wp2_with fail
        refine bodyPost_ret (v := .tuple #[m'.val, .int .i64 0]) (by simp [results, Try.results18, go_sem, q0, MV.val]) rfl ⟨m', ⟨r', d', K11.less T1, N1, s.q + 1⟩, rfl, ?_⟩
        exact of_yes (s := s) (N1 := N1) rfl HW.out H4.out HN4.out HN3.out.lt rfl rfl rfl HX.out rfl rfl HO3.out _ _ _ _ _
  · rw [if_pos hJ, show decide (J = 0 ∧ R ≠ 0) = false from decide_eq_false (fun hh => hJ hh.1)]
    have tJ : (J != 0) = true := by rw [bne_iff_ne]; exact hJ
    have HJ0 := Lib.hid hJ
    clear hJ
    go_enter Try.func18, Try.ntmps18
    go_wp2_with fail
    refine HJ.out.mono ?_
    rintro e w1 ⟨rfl, hb1⟩
    have H1 := Lib.hid (HH.out.below hb1)
    have HO1 := Lib.hid (HO0.out.bel hb1)
    have HA1 := Lib.hid (HA0.out.below hb1)
    have N1' := HN.out.bel hb1
    have HN1 := Lib.hid N1'
    have q0 := N1'.cell
    have f0 := N1'.frozen
    clear hb1 N1' c0
    go_wp2_with fail
    refine bodyPost_ret (v := .tuple #[z0.val, .int .i64 J]) (by simp [results, Try.results18, go_sem, q0, z0, MV.val]) rfl ⟨z0, s, rfl, ?_⟩
    exact of_no (s := s) rfl HW.out H1.out HN1.out rfl rfl rfl HX.out HJ0.out rfl rfl HO1.out _ _ _ _ _
end Go.Proofs.Ytgmcjkiofcpjbaa.A12
