/- Texts laid together: A0, A1, A2, A3, A4, ALive. -/
import Derived.Test.YtmfkapbllmfegaaQFlush
import Derived.Test.YtmfkapbllmfegaaKAll
import Derived.Test.YtmfkapbllmfegaaCfg
import Derived.Test.YtmfkapbllmfegaaKind
/- A gate: as it lies in memory beside its lanes and its bucket; what stays where one of them turns; how a message is judged, as plain data. -/
namespace Go.Proofs.Ytmfkapbllmfegaa.A12
open Go.RowKit Go.Proofs.Ytmfkapbllmfegaa.G Go.Proofs.Ytmfkapbllmfegaa.L10 Go.Proofs.Ytmfkapbllmfegaa.C04
set_option maxRecDepth 100000

/-- What stays of a gate: its channel, where its lanes and its bucket lie, how many lanes and places, its rate and its cap. -/
structure Ga where
  k : Chn
  lb : Nat
  bb : Nat
  L : Nat
  P : Nat
  R : Int
  C : Int
/-- What turns: the row of all, its tokens, its round, its number. -/
structure Gs where
  r : Value
  d : List MV
  T : Int
  N : Int
  q : Int
def gcells (a : Ga) (q : Int) : Array Value := #[.int .i64 a.k.k, .int .i64 a.k.f, .int .i64 a.k.t, .int .i64 a.k.w, .int .i64 a.k.r, .int .i64 a.k.la, .int .i64 a.k.d, .int .i64 a.k.h, .int .i64 a.k.li, .int .i64 a.k.ra, .int .i64 a.k.c, .pointer (some ⟨a.lb, 0, none⟩), .pointer (some ⟨a.bb, 0, none⟩), .int .i64 q]
/-- A gate in memory, behind all that was there. -/
structure Gt (w0 w : World) (g : Nat) (a : Ga) (s : Gs) : Prop where
  bx : Blk w g 73 (gcells a s.q)
  lv : Lv w0 w a.lb a.L a.P s.r s.d
  st : St a.L a.P s.d
  wd : Wd w s.d
  bk : K11.Bk w a.bb a.R a.C s.T s.N
  bg : w0.heap.size ≤ a.bb
  ge : w0.heap.size ≤ g
variable {w0 w w' : World} {g : Nat} {a : Ga} {s : Gs}
theorem Gt.bl (h : Gt w0 w g a s) : Below w0.heap.size w0 w := h.lv.bl
theorem Gt.below (h : Gt w0 w g a s) (hb : Below w.heap.size w w') : Gt w0 w' g a s :=
  ⟨h.bx.bel hb, h.lv.below hb, h.st, h.wd.below hb, h.bk.below hb, h.bg, h.ge⟩
theorem Gt.drewN (h : Gt w0 w g a s) (n : Nat) : Gt w0 (w.drewN n) g a s := h.below (bn (Below.refl _ _) n)
theorem Gt.alloc (h : Gt w0 w g a s) (o : Obj) : Gt w0 (w.alloc o) g a s := h.below (b01 _ _)
theorem Gt.len (h : Gt w0 w g a s) : s.d.length ≤ 24 := h.st.len
/-- Its lanes have turned. -/
theorem Gt.lanes (h : Gt w0 w g a s) {r' : Value} {d' : List MV} (hl : Ln w' a.lb a.L a.P r' d') (hs : St a.L a.P d') (hw : Wd w' d') (ho : Only (FL a.lb s.r) w w') (hn : Nw w.heap.size s.r r') : Gt w0 w' g a ⟨r', d', s.T, s.N, s.q⟩ :=
  ⟨ho.blk h.bx (h.lv.ln.off h.bx (by decide) (by decide)), h.lv.step hl ho hn, hs, hw, ⟨ho.blk h.bk.blk (h.lv.ln.off h.bk.blk (by decide) (by decide)), h.bk.ok⟩, h.bg, h.ge⟩
/-- Only one block has turned, that is none of the lanes'. -/
theorem ob_only {b : Nat} (h : K11.Ob b w w') : Only (fun k => k = b) w w' := ⟨h.os, h.tape, h.output, h.size, h.block⟩
theorem Gt.one (h : Gt w0 w g a s) {b : Nat} {t : TypeId} {cs : Array Value} (hb : Blk w b t cs) (h1 : t ≠ 94) (h2 : t ≠ 43) (h3 : t ≠ 3) (hg : w0.heap.size ≤ b) (ho : Only (fun k => k = b) w w') : Lv w0 w' a.lb a.L a.P s.r s.d ∧ Wd w' s.d :=
  ⟨h.lv.other ho fun k hk => by
    have e : k = b := hk
    subst e
    exact ⟨h.lv.ln.off hb h1 h2, hg⟩, h.wd.only ho fun q cs' hq e => by
    have e' : q = b := e
    subst e'
    exact Blk.ne_ hq hb (fun x => h3 x.symm) rfl⟩
/-- Its bucket has turned. -/
theorem Gt.bucket (h : Gt w0 w g a s) {T N : Int} (hb : K11.Bk w' a.bb a.R a.C T N) (ho : K11.Ob a.bb w w') : Gt w0 w' g a ⟨s.r, s.d, T, N, s.q⟩ := by
  have o := ob_only ho
  obtain ⟨h1, h2⟩ := h.one h.bk.blk (by decide) (by decide) (by decide) h.bg o
  refine ⟨o.blk h.bx fun e => ?_, h1, h.st, h2, hb, h.bg, h.ge⟩
  have e' : g = a.bb := e
  exact h.bx.ne_ h.bk.blk (by decide) e'
/-- Its number is stored. -/
theorem Gt.num (h : Gt w0 w g a s) (q : Int) : Gt w0 (w.setCell ⟨g, 13, none⟩ (.int .i64 q)) g a ⟨s.r, s.d, s.T, s.N, q⟩ := by
  have o : Only (fun k => k = g) w (w.setCell ⟨g, 13, none⟩ (.int .i64 q)) := (Only.refl (fun k => k = g) w).set_ (.inl rfl) 13 _
  obtain ⟨h1, h2⟩ := h.one h.bx (by decide) (by decide) (by decide) h.ge o
  exact ⟨h.bx.set_ 13 _, h1, h.st, h2, ⟨o.blk h.bk.blk fun e => h.bk.blk.ne_ h.bx (by decide) e, h.bk.ok⟩, h.bg, h.ge⟩
/-- The blocks that are the gate's. -/
def FG (g : Nat) (a : Ga) (r : Value) : Nat → Prop := fun k => FL a.lb r k ∨ k = g ∨ k = a.bb
theorem fg_lanes {F : Nat → Prop} {r : Value} (h : Only F w w') (hF : ∀ k, F k → FL a.lb r k) : Only (FG g a r) w w' := h.mono fun k hk => .inl (hF k hk)
theorem fg_lb {r : Value} (h : Only (fun k => k = a.lb) w w') : Only (FG g a r) w w' := h.mono fun k hk => .inl (.inl hk)
theorem fg_bb {r : Value} (h : K11.Ob a.bb w w') : Only (FG g a r) w w' := (ob_only h).mono fun k hk => .inr (.inr hk)
/-- A block that is none of the gate's. -/
theorem Gt.off (h : Gt w0 w g a s) {k : Nat} {t : TypeId} {cs : Array Value} (hk : Blk w k t cs) (hf : ¬ FL a.lb s.r k) (h1 : t ≠ 73) (h2 : t ≠ 96) : ¬ FG g a s.r k := fun hh => by
  rcases hh with e | e | e
  · exact hf e
  · exact hk.ne_ h.bx h1 e
  · exact hk.ne_ h.bk.blk h2 e
theorem Gt.off2 (h : Gt w0 w g a s) {k : Nat} {t : TypeId} {cs : Array Value} (hk : Blk w k t cs) (h1 : t ≠ 73) (h2 : t ≠ 96) (h3 : t ≠ 94) (h4 : t ≠ 43) : ¬ FG g a s.r k :=
  h.off hk (h.lv.ln.off hk h3 h4) h1 h2
theorem Gt.fg_lt (h : Gt w0 w g a s) {k : Nat} (hk : FG g a s.r k) : k < w.heap.size := by
  rcases hk with e | e | e
  · exact h.lv.ln.lts k e
  · have := h.bx.lt; omega
  · have := h.bk.lt; omega
theorem Gt.fg_ge (h : Gt w0 w g a s) {k : Nat} (hk : FG g a s.r k) : w0.heap.size ≤ k := by
  rcases hk with e | e | e
  · exact h.lv.ab k e
  · have := h.ge; omega
  · have := h.bg; omega
/-! ### How a message is judged -/
def wok (z : Int) : Bool := decide (0 ≤ z ∧ z ≤ 2147483647)
def mayb (ws : List Int) (most : Int) : Bool := decide (0 < ws.length ∧ (ws.length : Int) ≤ most) && ws.all wok
def inl (n la : Int) : Bool := decide (0 ≤ n ∧ n < la)
def jdg (k : Chn) (mode lane : Int) (ws : List Int) : Int := if mode ≠ 0 then 5 else if k.k ≠ 1 then 4 else if (inl lane k.la && mayb ws k.w) = true then 0 else 3
theorem jdg_mode {k : Chn} {mode lane : Int} {ws : List Int} (h : mode ≠ 0) : jdg k mode lane ws = 5 := if_pos h
theorem jdg_kind {k : Chn} {mode lane : Int} {ws : List Int} (h : mode = 0) (h1 : k.k ≠ 1) : jdg k mode lane ws = 4 := by unfold jdg; rw [if_neg (by omega), if_pos h1]
theorem jdg_ok {k : Chn} {mode lane : Int} {ws : List Int} (h : mode = 0) (h1 : k.k = 1) (h2 : inl lane k.la = true) (h3 : mayb ws k.w = true) : jdg k mode lane ws = 0 := by unfold jdg; rw [if_neg (by omega), if_neg (by omega), h2, h3]; rfl
theorem jdg_lane {k : Chn} {mode lane : Int} {ws : List Int} (h : mode = 0) (h1 : k.k = 1) (h2 : inl lane k.la = false) : jdg k mode lane ws = 3 := by unfold jdg; rw [if_neg (by omega), if_neg (by omega), h2]; rfl
theorem jdg_words {k : Chn} {mode lane : Int} {ws : List Int} (h : mode = 0) (h1 : k.k = 1) (h3 : mayb ws k.w = false) : jdg k mode lane ws = 3 := by unfold jdg; rw [if_neg (by omega), if_neg (by omega), h3, Bool.and_false]; rfl
theorem jdg_zero {k : Chn} {mode lane : Int} {ws : List Int} (h : jdg k mode lane ws = 0) : mode = 0 ∧ k.k = 1 ∧ (0 ≤ lane ∧ lane < k.la) ∧ mayb ws k.w = true := by
  unfold jdg at h
  split at h
  · omega
  · split at h
    · omega
    · split at h
      · rename_i h1 h2 h3
        rw [Bool.and_eq_true] at h3
        exact ⟨by omega, by omega, of_decide_eq_true h3.1, h3.2⟩
      · omega
theorem all_snoc {ws : List Int} {k : Nat} {z : Int} (h : (ws.take k).all wok = true) (hz : ws[k]? = some z) (ho : wok z = true) : (ws.take (k + 1)).all wok = true := by
  rw [take_snoc hz, List.all_append, h]; simp [ho]
theorem all_no {ws : List Int} {k : Nat} {z : Int} (hz : ws[k]? = some z) (ho : wok z = false) : ws.all wok = false := by
  rw [List.all_eq_false]
  exact ⟨z, List.mem_of_getElem? hz, by rw [ho]; simp⟩
theorem mayb_len {ws : List Int} {m : Int} (h : ws.length = 0 ∨ m < (ws.length : Int)) : mayb ws m = false := by
  unfold mayb; rw [decide_eq_false (by omega)]; rfl
theorem mayb_no {ws : List Int} {m : Int} (h : ws.all wok = false) : mayb ws m = false := by unfold mayb; rw [h, Bool.and_false]
theorem mayb_yes {ws : List Int} {m : Int} (h0 : 0 < ws.length) (h1 : (ws.length : Int) ≤ m) (h : ws.all wok = true) : mayb ws m = true := by
  unfold mayb; rw [h, decide_eq_true ⟨h0, h1⟩]; rfl
end Go.Proofs.Ytmfkapbllmfegaa.A12
/- How a message is judged, by the program and by the document: contracts against one plain function. -/
namespace Go.Proofs.Ytmfkapbllmfegaa.A12
open Go.RowKit Go.Proofs.Ytmfkapbllmfegaa.G Go.Proofs.Ytmfkapbllmfegaa.L10 Go.Proofs.Ytmfkapbllmfegaa.C04
set_option maxRecDepth 100000
variable {w w' : World}
theorem row_iv {A : Option Addr} {ws : List Int} (h : Row w A (L10.iv ws)) {k : Nat} {z : Int} (hz : ws[k]? = some z) : ∃ b o : Nat, A = some ⟨b, o, none⟩ ∧ w.cell? ⟨b, o + k, none⟩ = some (.int .i64 z) := by
  have hk := (List.getElem?_eq_some_iff.1 hz).1
  obtain ⟨b, o, e, _, hc⟩ := h (by rw [iv_len]; omega)
  exact ⟨b, o, e, hc k _ (by simp [L10.iv, hz])⟩
set_option maxHeartbeats 1000000 in
theorem maybe_any {A : Option Addr} {c : Nat} {ws : List Int} (hr : Row w A (L10.iv ws)) (hl : ws.length ≤ 1000) (m : Int) : Calls Try.prog 56 #[.slice A ws.length c, .int .i64 m] w fun e w' => e = .returned (.bool (mayb ws m)) ∧ w = w' := by
  by_cases h0 : ws.length = 0
  · have e0 : mayb ws m = false := mayb_len (.inl h0)
    rw [e0]
    have t0 : ((ws.length : Int) == 0) = true := by rw [beq_iff_eq]; omega
    go_enter Try.func56, Try.ntmps56
    go_wp2_with fail
    go_ret
    exact ⟨rfl, rfl⟩
  · have t0 : ((ws.length : Int) == 0) = false := by rw [beq_eq_false_iff_ne]; omega
    by_cases h1 : (ws.length : Int) > m
    · have e0 : mayb ws m = false := mayb_len (.inr (by omega))
      rw [e0]
      go_enter Try.func56, Try.ntmps56
      go_wp2_with fail
      go_ret
      exact ⟨rfl, rfl⟩
    · have HR := Lib.hid hr
      have HY : Hid (ws.all wok = true → mayb ws m = true) := fun h => mayb_yes (by omega) (by omega) h
      obtain ⟨z, hz⟩ : ∃ z, mayb ws m = z := ⟨_, rfl⟩
      have HZ := Lib.hid hz
      rw [hz]
      clear hz hr
      go_enter Try.func56, Try.ntmps56
      go_wp2_with fail
      go_loopw [18] (fun i V => ∃ k : Nat, i = .int .i64 k ∧ k ≤ ws.length ∧ (ws.take k).all wok = true ∧ V = w) (fun i _ => ws.length - (intOf i).toNat)
      case atStart => exact ⟨0, rfl, by omega, rfl, rfl⟩
      case round =>
        obtain ⟨k, rfl, hk, ha, rfl⟩ := hrel
        by_cases hlt : k < ws.length
        · obtain ⟨x, hx⟩ : ∃ x, ws[k]? = some x := ⟨_, List.getElem?_eq_getElem hlt⟩
          obtain ⟨b, o, rfl, hc⟩ := row_iv HR.out hx
          have hkz : (k : Int) < ws.length := by omega
          have HA := Lib.hid (And.intro ha hx)
          clear ha hx
          by_cases hx0 : x < 0
          · have ez : false = z := by rw [← HZ.out]; exact (mayb_no (all_no HA.out.2 (decide_eq_false (by omega)))).symm
            subst ez
            go_wp2_with fail
            go_ret
            exact ⟨rfl, rfl⟩
          · by_cases hx1 : x > 2147483647
            · have ez : false = z := by rw [← HZ.out]; exact (mayb_no (all_no HA.out.2 (decide_eq_false (by omega)))).symm
              subst ez
              go_wp2_with fail
              go_ret
              exact ⟨rfl, rfl⟩
            · have HS := Lib.hid (all_snoc HA.out.1 HA.out.2 (decide_eq_true (by omega)))
              go_wp2_with fail
              go_roundw
              case rel => exact ⟨k + 1, by go_num, by omega, HS.out, by trivial⟩
              case measure => simp [intOf] <;> omega
        · have hkz : ¬ (k : Int) < ws.length := by omega
          have ez : true = z := by rw [← HZ.out]; exact (HY.out (by rw [← ha, List.take_of_length_le (by omega)])).symm
          subst ez
          go_wp2_with fail
          go_ret
          exact ⟨rfl, rfl⟩
def JdPost (v : Int) (w : World) (e : Ending) (w' : World) : Prop := e = .returned (.int .i64 v) ∧ Below w.heap.size w w'
set_option maxHeartbeats 2000000 in
theorem judge_any {A : Option Addr} {c : Nat} {ws : List Int} (k : Chn) (mode lane : Int) (hr : Row w A (L10.iv ws)) (hl : ws.length ≤ 1000) : Calls Try.prog 36 #[k.val, .int .i64 mode, .int .i64 lane, .slice A ws.length c] w (JdPost (jdg k mode lane ws) w) := by
  obtain ⟨J, hJ⟩ : ∃ J, jdg k mode lane ws = J := ⟨_, rfl⟩
  have HJ := Lib.hid hJ
  rw [hJ]
  clear hJ
  have b1 := b01 w (.cells #[.int .i64 k.k, .int .i64 k.f, .int .i64 k.t, .int .i64 k.w, .int .i64 k.r, .int .i64 k.la, .int .i64 k.d, .int .i64 k.h, .int .i64 k.li, .int .i64 k.ra, .int .i64 k.c] 23)
  have HB := Lib.hid b1
  have HM := Lib.hid (maybe_any (c := c) (hr.below b1) hl k.w)
  clear hr b1
  unfold Chn.val
  by_cases h0 : mode = 0
  · subst h0
    by_cases h1 : k.k = 1
    · have t1 : (k.k != 1) = false := by rw [bne_eq_false_iff_eq]; exact h1
      by_cases h2 : lane < 0
      · have e : 3 = J := by rw [← HJ.out]; exact (jdg_lane rfl h1 (decide_eq_false (by omega))).symm
        subst e
        clear h1
        go_enter Try.func36, Try.ntmps36
        go_wp2_with fail
        go_ret
        exact ⟨rfl, HB.out⟩
      · by_cases h3 : lane ≥ k.la
        · have e : 3 = J := by rw [← HJ.out]; exact (jdg_lane rfl h1 (decide_eq_false (by omega))).symm
          subst e
          clear h1
          go_enter Try.func36, Try.ntmps36
          go_wp2_with fail
          go_ret
          exact ⟨rfl, HB.out⟩
        · cases hm : mayb ws k.w with
          | true =>
            have e : 0 = J := by rw [← HJ.out]; exact (jdg_ok rfl h1 (decide_eq_true (by omega)) hm).symm
            subst e
            rw [hm] at HM
            clear h1 hm
            go_enter Try.func36, Try.ntmps36
            go_wp2_with fail
            refine HM.out.mono ?_
            rintro e w1 ⟨rfl, rfl⟩
            go_wp2_with fail
            go_ret
            exact ⟨rfl, HB.out⟩
          | false =>
            have e : 3 = J := by rw [← HJ.out]; exact (jdg_words rfl h1 hm).symm
            subst e
            rw [hm] at HM
            clear h1 hm
            go_enter Try.func36, Try.ntmps36
            go_wp2_with fail
            refine HM.out.mono ?_
            rintro e w1 ⟨rfl, rfl⟩
            go_wp2_with fail
            go_ret
            exact ⟨rfl, HB.out⟩
    · have t1 : (k.k != 1) = true := by rw [bne_iff_ne]; exact h1
      have e : 4 = J := by rw [← HJ.out]; exact (jdg_kind rfl h1).symm
      subst e
      clear h1
      go_enter Try.func36, Try.ntmps36
      go_wp2_with fail
      go_ret
      exact ⟨rfl, HB.out⟩
  · have t0 : (mode != 0) = true := by rw [bne_iff_ne]; exact h0
    have e : 5 = J := by rw [← HJ.out]; exact (jdg_mode h0).symm
    subst e
    clear h0
    go_enter Try.func36, Try.ntmps36
    go_wp2_with fail
    go_ret
    exact ⟨rfl, HB.out⟩
end Go.Proofs.Ytmfkapbllmfegaa.A12
/- A gate: New, Take, Sweep, Flush, All, Len, Tokens, Seq, also of none: contracts. -/
namespace Go.Proofs.Ytmfkapbllmfegaa.A12
open Go.RowKit Go.Proofs.Ytmfkapbllmfegaa.G Go.Proofs.Ytmfkapbllmfegaa.L10 Go.Proofs.Ytmfkapbllmfegaa.C04
set_option maxRecDepth 100000
variable {w0 w00 w w' : World} {g : Nat} {a : Ga} {s : Gs}
theorem Gt.old (h : Gt w0 w g a s) (hb : Below w00.heap.size w00 w0) : Gt w00 w g a s :=
  ⟨h.bx, ⟨h.lv.ln, fun k hk => Nat.le_trans hb.size (h.lv.ab k hk), bt hb h.lv.bl⟩, h.st, h.wd, h.bk, Nat.le_trans hb.size h.bg, Nat.le_trans hb.size h.ge⟩
/-- The gate that New makes, as it lies. -/
structure Fit (k : Chn) (a : Ga) : Prop where
  ch : a.k = k
  l : (a.L : Int) = near k.la 3
  p : (a.P : Int) = near k.d 8
  r : a.R = K11.rof k.ra
  c : a.C = K11.cof k.c
  l3 : 1 ≤ a.L ∧ a.L ≤ 3
  p8 : 1 ≤ a.P ∧ a.P ≤ 8
def s0 (a : Ga) : Gs := ⟨.slice none 0 0, [], a.C, 0, 0⟩
def NwPost (k : Chn) (w : World) (e : Ending) (w' : World) : Prop := ∃ g a, e = .returned (.pointer (some ⟨g, 0, none⟩)) ∧ Gt w w' g a (s0 a) ∧ Fit k a
theorem new_fin {W w2 : World} {k : Chn} {bb L P : Nat} {R C : Int} (hW : Below w.heap.size w W) (hl : Ln w2 W.heap.size L P (.slice none 0 0) []) (hb : K11.Bk w2 bb R C C 0) (hg : W.heap.size ≤ bb) (hB : Below W.heap.size W w2) (h3 : L ≤ 3 ∧ P ≤ 8) :
    Gt w (w2.alloc (.cells (gcells ⟨k, W.heap.size, bb, L, P, R, C⟩ 0) 73)) w2.heap.size ⟨k, W.heap.size, bb, L, P, R, C⟩ (s0 ⟨k, W.heap.size, bb, L, P, R, C⟩) := by
  have b := b01 w2 (.cells (gcells ⟨k, W.heap.size, bb, L, P, R, C⟩ 0) 73)
  refine ⟨Blk.new w2 73 _, ⟨hl.below b, fun q hq => ?_, bt (bt hW hB) b⟩, St.nil_ L P h3.1 h3.2, Wd.nil_ _, hb.below b, Nat.le_trans hW.size hg, (bt hW hB).size⟩
  rcases hq with e | hq
  · have := hW.size
    have e' : q = W.heap.size := e
    omega
  · simp [s0, Value.ownBlock] at hq
set_option maxHeartbeats 2000000 in
theorem new_any (k : Chn) (w : World) : Calls Try.prog 6 #[k.val] w (NwPost k w) := by
  have h1 := near_pos k.la (m := 3) (by omega)
  have h2 := near_pos k.d (m := 8) (by omega)
  have C1 := Lib.hid (fun V => L10.new_any k.la k.d V)
  have C2 := Lib.hid (fun V => K11.new_any k.ra k.c V)
  obtain ⟨L, hL⟩ : ∃ L, (near k.la 3).toNat = L := ⟨_, rfl⟩
  obtain ⟨P, hP⟩ : ∃ P, (near k.d 8).toNat = P := ⟨_, rfl⟩
  obtain ⟨R, hR⟩ : ∃ R, K11.rof k.ra = R := ⟨_, rfl⟩
  obtain ⟨C, hC⟩ : ∃ C, K11.cof k.c = C := ⟨_, rfl⟩
  have HF : Hid (∀ lb bb, Fit k ⟨k, lb, bb, L, P, R, C⟩) := fun lb bb => ⟨rfl, by show (L : Int) = _; omega, by show (P : Int) = _; omega, hR.symm, hC.symm, by show 1 ≤ L ∧ L ≤ 3; omega, by show 1 ≤ P ∧ P ≤ 8; omega⟩
  unfold L10.NewPost at C1
  rw [hR, hC] at C2
  simp only [hL, hP] at C1
  have HL3 : Hid (L ≤ 3 ∧ P ≤ 8) := by show L ≤ 3 ∧ P ≤ 8; omega
  clear h1 h2 hL hP hR hC
  have b1 := Lib.hid (b01 w (.cells #[.int .i64 k.k, .int .i64 k.f, .int .i64 k.t, .int .i64 k.w, .int .i64 k.r, .int .i64 k.la, .int .i64 k.d, .int .i64 k.h, .int .i64 k.li, .int .i64 k.ra, .int .i64 k.c] 23))
  have HK := Lib.hid (Blk.new w 23 #[.int .i64 k.k, .int .i64 k.f, .int .i64 k.t, .int .i64 k.w, .int .i64 k.r, .int .i64 k.la, .int .i64 k.d, .int .i64 k.h, .int .i64 k.li, .int .i64 k.ra, .int .i64 k.c])
  unfold Chn.val
  go_enter Try.func6, Try.ntmps6
  go_wp2_with fail
  obtain ⟨kx, hkx⟩ : ∃ kx, w.heap.size = kx := ⟨_, rfl⟩
  rw [hkx] at HK ⊢
  clear hkx
  generalize w.alloc (.cells #[.int .i64 k.k, .int .i64 k.f, .int .i64 k.t, .int .i64 k.w, .int .i64 k.r, .int .i64 k.la, .int .i64 k.d, .int .i64 k.h, .int .i64 k.li, .int .i64 k.ra, .int .i64 k.c] 23) = W at *
  have HS : Hid (∀ V, Below W.heap.size W V → ∀ i, V.cell? ⟨kx, i, none⟩ = (#[.int .i64 k.k, .int .i64 k.f, .int .i64 k.t, .int .i64 k.w, .int .i64 k.r, .int .i64 k.la, .int .i64 k.d, .int .i64 k.h, .int .i64 k.li, .int .i64 k.ra, .int .i64 k.c] : Array Value)[i]?) := fun V hV => (HK.out.bel hV).cell
  have S0 : Below W.heap.size W W.drew := (Below.refl _ _).drew
  have K0 := HS.out _ S0
  go_region_held3 (fun V => ∀ i, V.cell? ⟨kx, i, none⟩ = (#[.int .i64 k.k, .int .i64 k.f, .int .i64 k.t, .int .i64 k.w, .int .i64 k.r, .int .i64 k.la, .int .i64 k.d, .int .i64 k.h, .int .i64 k.li, .int .i64 k.ra, .int .i64 k.c] : Array Value)[i]?) (first | (with_reducible exact HS.out _ S0) | (with_reducible exact HS.out _ (ba1 S0 _)) | fail)
    (first
      | (go_at_call 26; (with_reducible refine (C1.out _).mono ?_); rintro e w1 ⟨rfl, hl1, hb1⟩; have HL1 := Lib.hid hl1; have HB1 := Lib.hid (bt S0 hb1); have S0 := bt S0 hb1)
      | (go_at_call 27; (with_reducible refine (C2.out _).mono ?_); rintro e w2 ⟨bb, rfl, hb2, hg2, hB2⟩; have HL2 := Lib.hid (hl1.below hB2); have HB2 := Lib.hid (And.intro hb2 (And.intro hg2 hB2)); have S0 := bt S0 hB2)
      | fail)
  have HX := Lib.hid (new_fin (k := k) b1.out HL2.out HB2.out.1 (Nat.le_trans HB1.out.size HB2.out.2.1) S0 HL3.out)
  go_wp2_with fail
  go_ret
  exact ⟨_, _, rfl, HX.out, HF.out _ _⟩
theorem there_any (h : Gt w0 w g a s) : Calls Try.prog 41 #[.pointer (some ⟨g, 0, none⟩)] w fun e w' => e = .returned (.pointer (some ⟨a.lb, 0, none⟩)) ∧ w = w' := by
  have c11 := h.bx.cell 11
  unfold gcells at c11
  simp only [List.getElem?_toArray, List.getElem?_cons_zero, List.getElem?_cons_succ] at c11
  clear h
  go_enter Try.func41, Try.ntmps41
  go_wp2
  go_ret
  exact ⟨rfl, rfl⟩
theorem there_nil (w : World) : Calls Try.prog 41 #[.pointer none] w fun e w' => e = .returned (.pointer none) ∧ w = w' := by
  go_enter Try.func41, Try.ntmps41
  go_wp2
  go_ret
  exact ⟨rfl, rfl⟩
theorem seq_any (h : Gt w0 w g a s) : Calls Try.prog 22 #[.pointer (some ⟨g, 0, none⟩)] w fun e w' => e = .returned (.int .i64 s.q) ∧ w = w' := by
  have c13 := h.bx.cell 13
  unfold gcells at c13
  simp only [List.getElem?_toArray, List.getElem?_cons_zero, List.getElem?_cons_succ] at c13
  clear h
  go_enter Try.func22, Try.ntmps22
  go_wp2
  go_ret
  exact ⟨rfl, rfl⟩
theorem seq_nil (w : World) : Calls Try.prog 22 #[.pointer none] w fun e w' => e = .returned (.int .i64 0) ∧ w = w' := by
  go_enter Try.func22, Try.ntmps22
  go_wp2
  go_ret
  exact ⟨rfl, rfl⟩
theorem tokens_nil (r : Int) (w : World) : Calls Try.prog 23 #[.pointer none, .int .i64 r] w fun e w' => e = .returned (.int .i64 0) ∧ w = w' := by
  go_enter Try.func23, Try.ntmps23
  go_wp2
  go_ret
  exact ⟨rfl, rfl⟩
def TkPost (w0 w : World) (g : Nat) (a : Ga) (s : Gs) (T N : Int) (e : Ending) (w' : World) : Prop := e = .returned (.int .i64 T) ∧ Gt w0 w' g a ⟨s.r, s.d, T, N, s.q⟩ ∧ Only (FG g a s.r) w w'
theorem tokens_any (h : Gt w0 w g a s) (r : Int) : Calls Try.prog 23 #[.pointer (some ⟨g, 0, none⟩), .int .i64 r] w (TkPost w0 w g a s (K11.ctok a.R a.C s.T s.N r) (K11.crnd s.N r)) := by
  have HC := Lib.hid (K11.tokens_any h.bk r)
  have HH := Lib.hid h
  have c12 := h.bx.cell 12
  unfold gcells at c12
  simp only [List.getElem?_toArray, List.getElem?_cons_zero, List.getElem?_cons_succ] at c12
  generalize K11.ctok a.R a.C s.T s.N r = T at *
  generalize K11.crnd s.N r = N at *
  clear h
  go_enter Try.func23, Try.ntmps23
  go_wp2_with fail
  refine HC.out.mono ?_
  rintro e w1 ⟨rfl, hb, ho⟩
  have H1 := Lib.hid (And.intro (HH.out.bucket hb ho) (fg_bb (g := g) (r := s.r) ho))
  clear hb ho
  go_wp2_with fail
  go_ret
  exact ⟨rfl, H1.out.1, H1.out.2⟩
theorem len_any (h : Gt w0 w g a s) : Calls Try.prog 20 #[.pointer (some ⟨g, 0, none⟩)] w fun e w' => e = .returned (.int .i64 s.d.length) ∧ w = w' := by
  have HT := Lib.hid (there_any h)
  have HL := Lib.hid (L10.len_any h.lv.ln)
  clear h
  go_enter Try.func20, Try.ntmps20
  go_wp2_with fail
  refine HT.out.mono ?_
  rintro e w' ⟨rfl, rfl⟩
  go_wp2_with fail
  refine HL.out.mono ?_
  rintro e w' ⟨rfl, rfl⟩
  go_wp2_with fail
  go_ret
  exact ⟨rfl, rfl⟩
theorem len_nil (w : World) : Calls Try.prog 20 #[.pointer none] w fun e w' => e = .returned (.int .i64 0) ∧ w = w' := by
  go_enter Try.func20, Try.ntmps20
  go_wp2_with fail
  refine (there_nil _).mono ?_
  rintro e w' ⟨rfl, rfl⟩
  go_wp2_with fail
  refine (L10.len_nil _).mono ?_
  rintro e w' ⟨rfl, rfl⟩
  go_wp2_with fail
  go_ret
  exact ⟨rfl, rfl⟩
/-- A list that is told. -/
def LsP (w : World) (l0 : List Pm) (e : Ending) (w' : World) : Prop := ∃ A c l, e = .returned (.slice A l.length c) ∧ Row w' A (mvs l) ∧ WsR w' l ∧ l.map MV.pl = l0 ∧ Below w.heap.size w w'
theorem ls_p {l0 : List MV} {e : Ending} (h : LsPost l0 w e w') : LsP w (l0.map MV.pl) e w' := by
  obtain ⟨v, l, rfl, hm, hp, hb⟩ := h
  obtain ⟨A', c', rfl, z0, _⟩ := hm.own.row
  exact ⟨A', c', l, rfl, z0, fun y hy => (hm.ws y hy).wr, hp, hb⟩
theorem all_any (h : Gt w0 w g a s) : Calls Try.prog 21 #[.pointer (some ⟨g, 0, none⟩)] w (LsP w (s.d.map MV.pl)) := by
  have HT := Lib.hid (there_any h)
  have HL := Lib.hid ((L10.all_any h.lv.ln h.wd.ws (by have := h.len; omega)).mono fun e w' hx => ls_p hx)
  clear h
  go_enter Try.func21, Try.ntmps21
  go_wp2_with fail
  refine HT.out.mono ?_
  rintro e w' ⟨rfl, rfl⟩
  go_wp2_with fail
  refine HL.out.mono ?_
  rintro e w' ⟨A, c, l, rfl, h1⟩
  have H1 := Lib.hid h1
  clear h1
  go_wp2_with fail
  go_ret
  exact ⟨A, c, l, rfl, H1.out⟩
theorem all_nil (w : World) : Calls Try.prog 21 #[.pointer none] w fun e w' => e = .returned (.slice none 0 0) ∧ Below w.heap.size w w' := by
  go_enter Try.func21, Try.ntmps21
  go_wp2_with fail
  refine (there_nil _).mono ?_
  rintro e w' ⟨rfl, rfl⟩
  go_wp2_with fail
  refine (L10.all_nil _).mono ?_
  rintro e w' ⟨rfl, hb⟩
  go_wp2_with fail
  go_ret
  exact ⟨rfl, hb⟩
/-- Messages that are taken out, and what stays. -/
def OuP (w0 w : World) (g : Nat) (a : Ga) (s : Gs) (gone stay : List MV) (e : Ending) (w' : World) : Prop := ∃ A c r', e = .returned (.slice A gone.length c) ∧ Row w' A (mvs gone) ∧ WsR w' gone ∧ Gt w0 w' g a ⟨r', stay, s.T, s.N, s.q⟩ ∧ Only (FG g a s.r) w w' ∧ Nw w.heap.size s.r r'
theorem sub_st {L P : Nat} {d d' : List MV} (hs : St L P d) (h : d'.Sublist d) : St L P d' := ⟨hs.l3, hs.p8, hs.srt.sublist h, fun x hx => hs.ln x (h.subset hx), fun k => Nat.le_trans (h.filter _).length_le (hs.cn k)⟩
theorem out_p {gone stay : List MV} (h : Gt w0 w g a s) (hg : gone.Sublist s.d) (hs : stay.Sublist s.d) {e : Ending} (hx : OutsPost w a.lb a.L a.P gone stay e w') : OuP w0 w g a s gone stay e w' := by
  obtain ⟨v, r', rfl, ho⟩ := hx
  obtain ⟨A', c', rfl, z0, _⟩ := ho.og.row
  have hn := fun q cs (hq : Blk w q 3 cs) (e : q = a.lb) => h.lv.ln.no_int q cs hq (.inl e)
  have hw := fun y (hy : y ∈ gone) => (h.wd.sub (d' := gone) (fun y hy => hg.subset hy)).only ho.on hn y hy
  exact ⟨A', c', r', rfl, z0, fun y hy => (hw y hy).1.wr, h.lanes ho.ln (sub_st h.st hs) ((h.wd.sub fun y hy => hs.subset hy).only ho.on hn) (ho.on.mono fun _ hk => .inl hk) (.inr ho.fr), fg_lb ho.on, .inr ho.fr⟩
theorem sweep_any (h : Gt w0 w g a s) (n : Int) : Calls Try.prog 18 #[.pointer (some ⟨g, 0, none⟩), .int .i64 n] w (OuP w0 w g a s (s.d.filter fun m => late n m.lt) (s.d.filter fun m => !late n m.lt)) := by
  have HT := Lib.hid (there_any h)
  have HL := Lib.hid ((L10.sweep_any h.lv.ln (by have := h.len; omega) n).mono fun e w' hx => out_p h List.filter_sublist List.filter_sublist hx)
  generalize (s.d.filter fun m => late n m.lt) = G at *
  generalize (s.d.filter fun m => !late n m.lt) = S at *
  clear h
  go_enter Try.func18, Try.ntmps18
  go_wp2_with fail
  refine HT.out.mono ?_
  rintro e w' ⟨rfl, rfl⟩
  go_wp2_with fail
  refine HL.out.mono ?_
  rintro e w' ⟨A, c, r', rfl, h1⟩
  have H1 := Lib.hid h1
  clear h1
  go_wp2_with fail
  go_ret
  exact ⟨A, c, r', rfl, H1.out⟩
theorem sweep_nil (n : Int) (w : World) : Calls Try.prog 18 #[.pointer none, .int .i64 n] w fun e w' => e = .returned (.slice none 0 0) ∧ Below w.heap.size w w' := by
  go_enter Try.func18, Try.ntmps18
  go_wp2_with fail
  refine (there_nil _).mono ?_
  rintro e w' ⟨rfl, rfl⟩
  go_wp2_with fail
  refine (L10.sweep_nil _ _).mono ?_
  rintro e w' ⟨rfl, hb⟩
  go_wp2_with fail
  go_ret
  exact ⟨rfl, hb⟩
theorem flush_any (h : Gt w0 w g a s) : Calls Try.prog 19 #[.pointer (some ⟨g, 0, none⟩)] w (OuP w0 w g a s s.d []) := by
  have HT := Lib.hid (there_any h)
  have HL := Lib.hid ((L10.flush_any h.lv.ln (by have := h.len; omega)).mono fun e w' hx => out_p h (List.Sublist.refl _) (List.nil_sublist _) hx)
  clear h
  go_enter Try.func19, Try.ntmps19
  go_wp2_with fail
  refine HT.out.mono ?_
  rintro e w' ⟨rfl, rfl⟩
  go_wp2_with fail
  refine HL.out.mono ?_
  rintro e w' ⟨A, c, r', rfl, h1⟩
  have H1 := Lib.hid h1
  clear h1
  go_wp2_with fail
  go_ret
  exact ⟨A, c, r', rfl, H1.out⟩
theorem flush_nil (w : World) : Calls Try.prog 19 #[.pointer none] w fun e w' => e = .returned (.slice none 0 0) ∧ w = w' := by
  go_enter Try.func19, Try.ntmps19
  go_wp2_with fail
  refine (there_nil _).mono ?_
  rintro e w' ⟨rfl, rfl⟩
  go_wp2_with fail
  refine (L10.flush_nil _).mono ?_
  rintro e w' ⟨rfl, rfl⟩
  go_wp2_with fail
  go_ret
  exact ⟨rfl, rfl⟩
/-- A box of messages, of none of the gate's, is stored to. -/
theorem Gt.box (h : Gt w0 w g a s) {k : Nat} {cs : Array Value} (hk : Blk w k 43 cs) (hr : s.r.ownBlock ≠ some k) (hge : w0.heap.size ≤ k) (ho : Only (fun q => q = k) w w') : Gt w0 w' g a s := by
  refine ⟨ho.blk h.bx fun e => h.bx.ne_ hk (by decide) e, h.lv.other ho fun q hq => ?_, h.st, h.wd.only ho fun q cs' hq e => ?_, ⟨ho.blk h.bk.blk fun e => h.bk.blk.ne_ hk (by decide) e, h.bk.ok⟩, h.bg, h.ge⟩
  · have e : q = k := hq
    subst e
    refine ⟨fun hf => ?_, hge⟩
    rcases hf with e | hf
    · exact hk.ne_ h.lv.ln.blk (by decide) e
    · exact hr hf
  · have e' : q = k := e
    exact hq.ne_ hk (by decide) e'
/-- The first one is taken. -/
structure TaW (w0 w : World) (g : Nat) (a : Ga) (s : Gs) (r' : Value) (w' : World) : Prop where
  wo : Wo w' 0 (s.d.headD z0)
  gt : Gt w0 w' g a ⟨r', s.d.drop 1, s.T, s.N, s.q⟩
  fr : ∀ q, r'.ownBlock = some q → w.heap.size ≤ q
  on : Only (fun k => k = a.lb) w w'
/-- What a call answers of a first one that it takes. -/
structure TbW (w0 w : World) (g : Nat) (a : Ga) (s : Gs) (r' : Value) (w' : World) : Prop where
  wo : Wo w' 0 (s.d.headD z0)
  gt : Gt w0 w' g a ⟨r', s.d.drop 1, s.T, s.N, s.q⟩
  fr : ∀ q, r'.ownBlock = some q → w.heap.size ≤ q
  on : Only (FG g a s.r) w w'
def TaP (w0 w : World) (g : Nat) (a : Ga) (s : Gs) (e : Ending) (w' : World) : Prop := ∃ r', e = .returned (.tuple #[(s.d.headD z0).val, .bool (!s.d.isEmpty)]) ∧ TaW w0 w g a s r' w'
def TbP (w0 w : World) (g : Nat) (a : Ga) (s : Gs) (e : Ending) (w' : World) : Prop := ∃ r', e = .returned (.tuple #[(s.d.headD z0).val, .bool (!s.d.isEmpty)]) ∧ TbW w0 w g a s r' w'
theorem ta_p (h : Gt w0 w g a s) {e : Ending} (hx : L10.TkPost w a.lb a.L a.P s.d e w') : TaP w0 w g a s e w' := by
  obtain ⟨r', he, hl, hf, ho⟩ := hx
  have hn := fun q cs (hq : Blk w q 3 cs) (e : q = a.lb) => h.lv.ln.no_int q cs hq (.inl e)
  refine ⟨r', he, ?_, h.lanes hl (sub_st h.st (List.drop_sublist 1 _)) ((h.wd.sub fun y hy => List.mem_of_mem_drop hy).only ho hn) (ho.mono fun _ hk => .inl hk) (.inr hf), hf, ho⟩
  have hw := h.wd
  cases hd : s.d with
  | nil => exact Own.nil_ _ _ _ _
  | cons m t =>
    rw [hd] at hw
    exact (hw m (List.mem_cons_self ..)).1.only ho hn
theorem only5 {F : Nat → Prop} {x W : World} {q : Nat} (h : Only F x W) (hq : F q ∨ x.heap.size ≤ q) (u0 u1 u2 u3 u4 : Value) : Only F x (((((W.setCell ⟨q, 0, none⟩ u0).setCell ⟨q, 1, none⟩ u1).setCell ⟨q, 2, none⟩ u2).setCell ⟨q, 3, none⟩ u3).setCell ⟨q, 4, none⟩ u4) :=
  ((((h.set_ hq 0 u0).set_ hq 1 u1).set_ hq 2 u2).set_ hq 3 u3).set_ hq 4 u4
set_option maxHeartbeats 2000000 in
theorem take_any (h : Gt w0 w g a s) : Calls Try.prog 15 #[.pointer (some ⟨g, 0, none⟩)] w (TbP w0 w g a s) := by
  have b1 := b01 w (.cells zC 43)
  have N := Blk.new w 43 zC
  have HT := Lib.hid (there_any (h.below b1))
  have HL := Lib.hid ((L10.take_any (h.below b1).lv.ln (by have := h.len; omega)).mono fun e w' hx => ta_p (h.below b1) hx)
  have HN := Lib.hid N
  have HZ : Hid (w0.heap.size ≤ w.heap.size) := h.bl.size
  have HSz : Hid (w.heap.size < (w.alloc (.cells zC 43)).heap.size) := by show w.heap.size < _; rw [World.size_alloc]; omega
  have HOn : Hid (∀ V r', TaW w0 (w.alloc (.cells zC 43)) g a s r' V → Blk V w.heap.size 43 zC) := fun V r' ht => ht.on.blk N fun e => N.ne_ (h.below b1).lv.ln.blk (by decide) e
  unfold TaP at HL
  unfold TbP
  have HFin : Hid (∀ V W r' cs, TaW w0 (w.alloc (.cells zC 43)) g a s r' V → Blk V w.heap.size 43 cs → Only (fun q => q = w.heap.size) V W → TbW w0 w g a s r' W) := fun V W r' cs ht hk ho => by
    refine ⟨ht.wo.only ho fun q cs' hq e => ?_, ht.gt.box hk (fun e => ?_) HZ.out ho, fun q hq => by have := ht.fr q hq; have := HSz.out; omega, ?_⟩
    · have e' : q = w.heap.size := e
      exact hq.ne_ hk (by decide) e'
    · have := ht.fr _ e
      have := HSz.out
      omega
    · exact ((Only.of (F := FG g a s.r) b1).trans_ (fg_lb ht.on)).trans (ho.mono fun k hk => .inr (by have e : k = w.heap.size := hk; omega))
  unfold zC at HT HL HN HOn
  generalize (!s.d.isEmpty) = y at *
  generalize s.d.headD z0 = m at *
  clear h b1 N
  unfold MV.val at HL ⊢
  go_enter Try.func15, Try.ntmps15
  go_wp2_with fail
  refine HT.out.mono ?_
  rintro e w' ⟨rfl, rfl⟩
  go_wp2_with fail
  refine HL.out.mono ?_
  rintro e w1 ⟨r', rfl, h1⟩
  have H1 := Lib.hid h1
  have B0 := HOn.out _ _ h1
  have HB0 := Lib.hid B0
  have c0 := B0.cell 0
  have c1 := B0.cell 1
  have c2 := B0.cell 2
  have c3 := B0.cell 3
  have c4 := B0.cell 4
  have f0 := B0.frozen
  simp only [List.getElem?_toArray, List.getElem?_cons_zero, List.getElem?_cons_succ] at c0 c1 c2 c3 c4
  clear h1 B0
  go_wp2_with fail
  refine bodyPost_ret (v := .tuple #[.agg #[.slice m.a m.ws.length m.c, .int .i64 m.ln, .int .i64 m.st, .int .i64 m.lt, .int .i64 m.sq], .bool y]) (by simp [results, Try.results15, go_sem, c0, c1, c2, c3, c4]) rfl ⟨r', rfl, ?_⟩
  exact HFin.out _ _ _ _ H1.out HB0.out (only5 (Only.refl (fun q => q = w.heap.size) w1) (.inl rfl) (.slice m.a m.ws.length m.c) (.int .i64 m.ln) (.int .i64 m.st) (.int .i64 m.lt) (.int .i64 m.sq))
theorem take_nil (w : World) : Calls Try.prog 15 #[.pointer none] w fun e w' => e = .returned (.tuple #[z0.val, .bool false]) ∧ Below w.heap.size w w' := by
  unfold MV.val z0
  go_enter Try.func15, Try.ntmps15
  go_wp2_with fail
  refine (there_nil _).mono ?_
  rintro e w' ⟨rfl, rfl⟩
  go_wp2_with fail
  refine (L10.take_nil _).mono ?_
  rintro e w' ⟨rfl, hb⟩
  have B0 := (Blk.new w 43 zC).bel hb
  have HB := Lib.hid (bt (b01 w (.cells zC 43)) hb)
  unfold MV.val z0
  unfold zC at B0
  have c0 := B0.cell 0
  have c1 := B0.cell 1
  have c2 := B0.cell 2
  have c3 := B0.cell 3
  have c4 := B0.cell 4
  have f0 := B0.frozen
  simp only [List.getElem?_toArray, List.getElem?_cons_zero, List.getElem?_cons_succ] at c0 c1 c2 c3 c4
  clear hb B0
  go_wp2_with fail
  refine bodyPost_ret (v := .tuple #[.agg #[.slice none 0 0, .int .i64 0, .int .i64 0, .int .i64 0, .int .i64 0], .bool false]) (by simp [results, Try.results15, go_sem, c0, c1, c2, c3, c4]) rfl ?_
  have HO := only5 (Only.of (F := fun _ => False) HB.out) (q := w.heap.size) (.inr (Nat.le_refl _)) (.slice none 0 0) (.int .i64 0) (.int .i64 0) (.int .i64 0) (.int .i64 0)
  exact And.intro rfl (below_only HO fun _ h => h.elim)
end Go.Proofs.Ytmfkapbllmfegaa.A12
/- A gate: what lets a message in, and Offer, whatever it answers: contracts. -/
namespace Go.Proofs.Ytmfkapbllmfegaa.A12
open Go.RowKit Go.Proofs.Ytmfkapbllmfegaa.G Go.Proofs.Ytmfkapbllmfegaa.L10 Go.Proofs.Ytmfkapbllmfegaa.C04
set_option maxRecDepth 100000
variable {w0 w00 w w' : World} {g : Nat} {a : Ga} {s : Gs}
/-- The message that is let in, as it is handed to the lanes. -/
def lm (a : Ga) (A : Option Addr) (ws : List Int) (c : Nat) (lane now q : Int) : MV := ⟨A, ws, c, lane, Sat.cut now, Sat.add (Sat.cut now) a.k.li, q⟩
/-- What it tells. -/
def pm (a : Ga) (ws : List Int) (lane now q : Int) : Pm := ⟨ws, lane, Sat.cut now, Sat.add (Sat.cut now) a.k.li, q⟩
theorem Gt.rlt (h : Gt w0 w g a s) {k : Nat} (hk : s.r.ownBlock = some k) : k < w.heap.size := h.lv.ln.lts k (.inr hk)
/-- A block that is none of the lanes'. -/
theorem Gt.nofl (h : Gt w0 w g a s) {k : Nat} (hk : w.heap.size ≤ k) : ¬ FL a.lb s.r k := fun hf => by have := h.lv.ln.lts k hf; omega
/-- Cells that are read, apart from all that is the gate's. -/
structure Ap (w : World) (g : Nat) (a : Ga) (r : Value) (A : Option Addr) (xs : List Value) : Prop where
  row : Row w A xs
  ap : 0 < xs.length → ∀ q o, A = some ⟨q, o, none⟩ → ¬ FL a.lb r q ∧ q ≠ g ∧ q ≠ a.bb
theorem only_row {F : Nat → Prop} {A : Option Addr} {xs : List Value} (h : Row w A xs) (k : Only F w w') (hn : 0 < xs.length → ∀ q o, A = some ⟨q, o, none⟩ → ¬ F q) : Row w' A xs := fun h0 => by
  obtain ⟨q, o, ea, hq, hc⟩ := h h0
  refine ⟨q, o, ea, Nat.lt_of_lt_of_le hq k.size, fun j u hj => ?_⟩
  have := hc j u hj
  unfold World.cell? at this ⊢
  rw [k.block q hq (hn h0 q o ea)]
  exact this
theorem Ap.below {A : Option Addr} {xs : List Value} {r : Value} (h : Ap w g a r A xs) (hb : Below w.heap.size w w') : Ap w' g a r A xs := ⟨h.row.below hb, h.ap⟩
theorem Ap.drew {A : Option Addr} {xs : List Value} {r : Value} (h : Ap w g a r A xs) : Ap w.drew g a r A xs := ⟨h.row.drewN 1, h.ap⟩
theorem Ap.num {A : Option Addr} {xs : List Value} {r : Value} (h : Ap w g a r A xs) (i : Nat) (u : Value) : Ap (w.setCell ⟨g, i, none⟩ u) g a r A xs :=
  ⟨fun h0 => (h.row.far (p := ⟨g, i, none⟩) (fun q o e => (h.ap h0 q o e).2.1) u) h0, h.ap⟩
theorem Ap.bucket {A : Option Addr} {xs : List Value} {r : Value} (h : Ap w g a r A xs) (ho : K11.Ob a.bb w w') : Ap w' g a r A xs :=
  ⟨only_row h.row (ob_only ho) fun h0 q o e => (h.ap h0 q o e).2.2, h.ap⟩
theorem Ap.lanes {A : Option Addr} {xs : List Value} {r : Value} (h : Ap w g a r A xs) (ho : Only (FL a.lb r) w w') : Row w' A xs :=
  only_row h.row ho fun h0 q o e => (h.ap h0 q o e).1
/-- A row that was there ahead of the gate. -/
theorem Gt.ap_old (h : Gt w0 w g a s) {A : Option Addr} {xs : List Value} (hr : Row w0 A xs) : Ap w g a s.r A xs := by
  refine ⟨hr.below h.bl, fun h0 q o e => ?_⟩
  obtain ⟨q', o', e', hq, _⟩ := hr h0
  rw [e] at e'
  injection e' with e'
  injection e' with e1 e2
  subst e1
  have h1 := h.bg
  have h2 := h.ge
  refine ⟨fun hf => ?_, by omega, by omega⟩
  have := h.lv.ab q hf
  omega
/-- A row in a block that is new. -/
theorem Gt.ap_new (h : Gt w0 w g a s) {w1 : World} {A : Option Addr} {xs : List Value} (hr : Row w1 A xs) (hq : 0 < xs.length → ∀ q o, A = some ⟨q, o, none⟩ → w.heap.size ≤ q) : Ap w1 g a s.r A xs := by
  refine ⟨hr, fun h0 q o e => ?_⟩
  have h1 := hq h0 q o e
  have h2 := h.bx.lt
  have h3 := h.bk.lt
  exact ⟨h.nofl h1, by omega, by omega⟩
structure LtW (w0 w : World) (g : Nat) (a : Ga) (s : Gs) (M : Pm) (m' : MV) (r' : Value) (d' : List MV) (w' : World) : Prop where
  pl : m'.pl = M
  wo : Wo w' w.heap.size m'
  gt : Gt w0 w' g a ⟨r', d', s.T, s.N, s.q + 1⟩
  dp : d'.map MV.pl = insP (s.d.map MV.pl) M
  nw : Nw w.heap.size s.r r'
  on : Only (FG g a s.r) w w'
def LtP (w0 w : World) (g : Nat) (a : Ga) (s : Gs) (M : Pm) (e : Ending) (w' : World) : Prop := ∃ m' r' d', e = .returned m'.val ∧ LtW w0 w g a s M m' r' d' w'
/-- A Put that takes. -/
structure PuW (w0 V : World) (g : Nat) (a : Ga) (s : Gs) (M : Pm) (r' : Value) (d' : List MV) (V' : World) : Prop where
  gt : Gt w0 V' g a ⟨r', d', s.T, s.N, s.q⟩
  dp : d'.map MV.pl = insP (s.d.map MV.pl) M
  nw : Nw V.heap.size s.r r'
  on : Only (FL a.lb s.r) V V'
def PuP (w0 V : World) (g : Nat) (a : Ga) (s : Gs) (M : Pm) (e : Ending) (V' : World) : Prop := ∃ r' d', e = .returned (.int .i64 0) ∧ PuW w0 V g a s M r' d' V'
theorem put_g (h : Gt w0 w g a s) {m : MV} (hw : Wr w m) (hl : m.ws.length ≤ 1000) (hp : pcode a.L a.P s.d m.ln = 0) : Calls Try.prog 60 #[.pointer (some ⟨a.lb, 0, none⟩), m.val] w (PuP w0 w g a s m.pl) :=
  (putp_any h.lv.ln h.st hw hl).mono fun x V' ⟨r', d', hx, hq, hd⟩ => by
    rw [hp] at hx
    unfold putP at hd
    rw [hp, if_pos rfl] at hd
    exact ⟨r', d', hx, h.lanes hq.ln hq.st (hq.wd h.wd) hq.on hq.nw, hd, hq.nw, hq.on⟩
theorem bel5 {B q : Nat} {x V : World} (h : Below B x V) (hq : B ≤ q) (u0 u1 u2 u3 u4 : Value) : Below B x (((((V.setCell ⟨q, 0, none⟩ u0).setCell ⟨q, 1, none⟩ u1).setCell ⟨q, 2, none⟩ u2).setCell ⟨q, 3, none⟩ u3).setCell ⟨q, 4, none⟩ u4) :=
  ((((h.setCell (p := ⟨q, 0, none⟩) hq u0).setCell (p := ⟨q, 1, none⟩) hq u1).setCell (p := ⟨q, 2, none⟩) hq u2).setCell (p := ⟨q, 3, none⟩) hq u3).setCell (p := ⟨q, 4, none⟩) hq u4
theorem blk5 {V : World} {q : Nat} {z0 z1 z2 z3 z4 : Value} (h : Blk V q 43 #[z0, z1, z2, z3, z4]) (u0 u1 u2 u3 u4 : Value) : Blk (((((V.setCell ⟨q, 0, none⟩ u0).setCell ⟨q, 1, none⟩ u1).setCell ⟨q, 2, none⟩ u2).setCell ⟨q, 3, none⟩ u3).setCell ⟨q, 4, none⟩ u4) q 43 #[u0, u1, u2, u3, u4] :=
  ((((h.set_ 0 u0).set_ 1 u1).set_ 2 u2).set_ 3 u3).set_ 4 u4
theorem let_fin {W4 V4 V5 : World} {M : Pm} {r4 : Value} {d4 : List MV} {m' : MV} {kx : Nat} {q : Int} {b5 : Array Value} (hW : w.heap.size = kx) (hg : w0.heap.size ≤ w.heap.size) (hx : ¬ FL a.lb s.r kx) (b4 : Blk W4 kx 43 b5) (h : PuW w0 W4 g a ⟨s.r, s.d, s.T, s.N, q⟩ M r4 d4 V4) (hp : m'.pl = M) (hw : Wo V5 V4.heap.size m') (hb : Below V4.heap.size V4 V5) (u0 u1 u2 u3 u4 : Value) (hq : q = s.q + 1) (hkp : Only (fun k => k = g) w W4) :
    LtW w0 w g a s M m' r4 d4 (((((V5.setCell ⟨kx, 0, none⟩ u0).setCell ⟨kx, 1, none⟩ u1).setCell ⟨kx, 2, none⟩ u2).setCell ⟨kx, 3, none⟩ u3).setCell ⟨kx, 4, none⟩ u4) := by
  have ho := only5 (Only.refl (fun k => k = kx) V5) (.inl rfl) u0 u1 u2 u3 u4
  have bk : Blk V5 kx 43 b5 := (h.on.blk b4 hx).bel hb
  have hk4 := b4.lt
  subst hq
  have hr : r4.ownBlock ≠ some kx := fun e => by
    rcases h.nw with n | n
    · exact hx (.inr (by rw [← n]; exact e))
    · have := n kx e; omega
  refine ⟨hp, (hw.less (by have := h.on.size; omega)).only ho fun k cs hk e => hk.ne_ bk (by decide) e, (h.gt.below hb).box bk hr (by omega) ho, h.dp, ?_, ?_⟩
  · rcases h.nw with n | n
    · exact .inl n
    · exact .inr fun k hk => by have := n k hk; omega
  · have h1 : Only (FG g a s.r) w W4 := hkp.mono fun k hk => .inr (.inl hk)
    have h2 : Only (FG g a s.r) w V4 := h1.trans_ (fg_lanes h.on fun k hk => hk)
    exact (h2.bel hb).trans (ho.mono fun k hk => .inr (by have e : k = kx := hk; omega))
set_option maxHeartbeats 4000000 in
theorem let_any (h : Gt w0 w g a s) {A : Option Addr} {ws : List Int} {c : Nat} {lane : Int} (now : Int) (hr : Ap w g a s.r A (L10.iv ws)) (hc : ws.length ≤ c) (hc2 : c ≤ 9223372036854775807) (hl : ws.length ≤ 1000) (hq0 : 0 ≤ s.q) (hq : s.q ≤ 1000000) (hp : pcode a.L a.P s.d lane = 0) :
    Calls Try.prog 39 #[.pointer (some ⟨g, 0, none⟩), .int .i64 lane, .slice A ws.length c, .int .i64 now] w (LtP w0 w g a s (pm a ws lane now (s.q + 1))) := by
  have b0 := b01 w (.cells zC 43)
  have h0 := h.below b0
  have N0 := Blk.new w 43 zC
  have h1 := h0.num (s.q + 1)
  have N1 : Blk ((w.alloc (.cells zC 43)).setCell ⟨g, 13, none⟩ (.int .i64 (s.q + 1))) w.heap.size 43 zC := N0.far (p := ⟨g, 13, none⟩) (fun e => N0.ne_ h0.bx (by decide) e) _
  have HN := Lib.hid N1
  have HKP : Hid (Only (fun k => k = g) w ((w.alloc (.cells zC 43)).setCell ⟨g, 13, none⟩ (.int .i64 (s.q + 1)))) := ((Only.refl (fun k => k = g) w).alloc _).set_ (.inl rfl) 13 _
  have H1 := Lib.hid h1
  have HW := Lib.hid ((hr.below b0).num 13 (.int .i64 (s.q + 1)))
  have HC0 := Lib.hid (And.intro hc hc2)
  have HL := Lib.hid hl
  have HP := Lib.hid hp
  have HF := Lib.hid (h.nofl (Nat.le_refl _))
  have HG := Lib.hid h.bl.size
  have c0 := h0.bx.cell
  have f0 := h0.bx.frozen 13
  unfold gcells at c0
  have CC := Lib.hid (fun V => Sat.cut_any now V)
  have CA := Lib.hid (fun V => Sat.add_any (Sat.cut now) a.k.li V)
  unfold pm
  generalize Sat.add (Sat.cut now) a.k.li = la at *
  generalize Sat.cut now = st at *
  clear h h0 h1 b0 N0 N1 hr hc hc2 hl hp
  unfold zC at *
  go_enter Try.func39, Try.ntmps39
  go_upto_region 2 with fail
  obtain ⟨kx, hkx⟩ : ∃ kx, w.heap.size = kx := ⟨_, rfl⟩
  generalize (w.alloc (.cells #[.slice none 0 0, .int .i64 0, .int .i64 0, .int .i64 0, .int .i64 0] 43)).setCell ⟨g, 13, none⟩ (.int .i64 (s.q + 1)) = W1 at *
  clear c0 f0
  go_wp2_with (go_at_call 58; refine (CC.out _).mono ?_; rintro e w' ⟨rfl, rfl⟩)
  rw [hkx] at HN
  have HKX := Lib.hid hkx
  clear hkx
  have HS : Hid (∀ V, Below W1.heap.size W1 V → ∀ i, V.cell? ⟨g, i, none⟩ = (gcells a (s.q + 1))[i]?) := fun V hV => (H1.out.bx.bel hV).cell
  unfold gcells at HS
  have S0 : Below W1.heap.size W1 W1.drew := (Below.refl _ _).drew
  have K0 := HS.out _ S0
  go_region_held3 (fun V => ∀ i, V.cell? ⟨g, i, none⟩ = (#[.int .i64 a.k.k, .int .i64 a.k.f, .int .i64 a.k.t, .int .i64 a.k.w, .int .i64 a.k.r, .int .i64 a.k.la, .int .i64 a.k.d, .int .i64 a.k.h, .int .i64 a.k.li, .int .i64 a.k.ra, .int .i64 a.k.c, .pointer (some ⟨a.lb, 0, none⟩), .pointer (some ⟨a.bb, 0, none⟩), .int .i64 (s.q + 1)] : Array Value)[i]?) (first | (with_reducible exact HS.out _ S0) | (with_reducible exact HS.out _ (ba1 S0 _)) | (with_reducible exact HS.out _ ((b01 W1 _).drew)) | ((with_reducible refine HS.out _ (bel5 ?_ (Nat.le_refl _) _ _ _ _ _)); first | exact (b01 W1 _).drew | exact ba1 S0 _ | fail) | fail)
    (first
      | (go_at_call 59; (with_reducible refine (CA.out _).mono ?_); rintro e w1 ⟨rfl, rfl⟩)
      | fail)
  all_goals
    have HKP3 : Hid (Only (fun k => k = g) w (W1.alloc (.cells #[.slice A ws.length c, .int .i64 lane, .int .i64 st, .int .i64 la, .int .i64 (s.q + 1)] 43)).drew) := (HKP.out.alloc _).drewN 1
    have HWA : Hid (Ap (W1.alloc (.cells #[.slice A ws.length c, .int .i64 lane, .int .i64 st, .int .i64 la, .int .i64 (s.q + 1)] 43)).drew g a s.r A (L10.iv ws)) := (HW.out.below (b01 _ _)).drew
    have H3 := Lib.hid ((H1.out.alloc (.cells #[.slice A ws.length c, .int .i64 lane, .int .i64 st, .int .i64 la, .int .i64 (s.q + 1)] 43)).drewN 1)
    have N3 : Hid (Blk (W1.alloc (.cells #[.slice A ws.length c, .int .i64 lane, .int .i64 st, .int .i64 la, .int .i64 (s.q + 1)] 43)).drew W1.heap.size 43 #[.slice A ws.length c, .int .i64 lane, .int .i64 st, .int .i64 la, .int .i64 (s.q + 1)]) := (Blk.new W1 43 _).drewN 1
    have B3 : Hid (Blk (W1.alloc (.cells #[.slice A ws.length c, .int .i64 lane, .int .i64 st, .int .i64 la, .int .i64 (s.q + 1)] 43)).drew kx 43 #[.slice none 0 0, .int .i64 0, .int .i64 0, .int .i64 0, .int .i64 0]) := (HN.out.alloc _).drewN 1
    clear K0 S0 HS HN
    obtain ⟨ky, hky⟩ : ∃ ky, W1.heap.size = ky := ⟨_, rfl⟩
    rw [hky] at N3 ⊢
    have HKY := Lib.hid hky
    clear hky
    have H3 : Hid (Gt w0 (W1.alloc (.cells #[.slice A ws.length c, .int .i64 lane, .int .i64 st, .int .i64 la, .int .i64 (s.q + 1)] 43)).drew g a ⟨s.r, s.d, s.T, s.N, s.q + 1⟩) := H3
    generalize (W1.alloc (.cells #[.slice A ws.length c, .int .i64 lane, .int .i64 st, .int .i64 la, .int .i64 (s.q + 1)] 43)).drew = W3 at *
    have k0 := H3.out.bx.cell
    have m0 := N3.out.cell
    unfold gcells at k0
    go_wp2_with fail
    have H4 : Hid (Gt w0 W3.drew g a ⟨s.r, s.d, s.T, s.N, s.q + 1⟩) := H3.out.drewN 1
    have N4 : Hid (Blk W3.drew ky 43 #[.slice A ws.length c, .int .i64 lane, .int .i64 st, .int .i64 la, .int .i64 (s.q + 1)]) := N3.out.drewN 1
    have HW4 : Hid (Ap W3.drew g a s.r A (L10.iv ws)) := HWA.out.drew
    have HP4 := Lib.hid (put_g (m := ⟨A, ws, c, lane, st, la, s.q + 1⟩) H4.out ⟨HW4.out.row, HC0.out.1, HC0.out.2⟩ HL.out HP.out)
    unfold MV.val at HP4
    simp only at HP4
    have HX : Hid (¬ FL a.lb s.r kx ∧ ¬ FL a.lb s.r ky) := ⟨by rw [← HKX.out]; exact HF.out, by rw [← HKY.out]; exact H1.out.nofl (Nat.le_refl _)⟩
    have HS : Hid (∀ V M r' d', PuW w0 W3.drew g a ⟨s.r, s.d, s.T, s.N, s.q + 1⟩ M r' d' V → ((∀ i, V.cell? ⟨g, i, none⟩ = (gcells a (s.q + 1))[i]?) ∧ ∀ i, V.cell? ⟨ky, i, none⟩ = (#[.slice A ws.length c, .int .i64 lane, .int .i64 st, .int .i64 la, .int .i64 (s.q + 1)] : Array Value)[i]?)) := fun V M r' d' h => ⟨h.gt.bx.cell, (h.on.blk N4.out HX.out.2).cell⟩
    unfold gcells at HS
    have K0 : (∀ i, W3.drew.cell? ⟨g, i, none⟩ = _) ∧ ∀ i, W3.drew.cell? ⟨ky, i, none⟩ = _ := ⟨k0, m0⟩
    go_region_held3 (fun V => (∀ i, V.cell? ⟨g, i, none⟩ = (#[.int .i64 a.k.k, .int .i64 a.k.f, .int .i64 a.k.t, .int .i64 a.k.w, .int .i64 a.k.r, .int .i64 a.k.la, .int .i64 a.k.d, .int .i64 a.k.h, .int .i64 a.k.li, .int .i64 a.k.ra, .int .i64 a.k.c, .pointer (some ⟨a.lb, 0, none⟩), .pointer (some ⟨a.bb, 0, none⟩), .int .i64 (s.q + 1)] : Array Value)[i]?) ∧ ∀ i, V.cell? ⟨ky, i, none⟩ = (#[.slice A ws.length c, .int .i64 lane, .int .i64 st, .int .i64 la, .int .i64 (s.q + 1)] : Array Value)[i]?) (first | exact K0 | (with_reducible exact HS.out _ _ _ _ h4) | fail)
      (first
        | (go_at_call 60; (with_reducible refine HP4.out.mono ?_); rintro e w4 ⟨r4, d4, rfl, h4⟩)
        | fail)
    have H5 := Lib.hid h4
    have B4 : Hid (Blk W3.drew kx 43 #[.slice none 0 0, .int .i64 0, .int .i64 0, .int .i64 0, .int .i64 0]) := B3.out.drewN 1
    have m4 := (h4.on.blk N4.out HX.out.2).cell
    have b4 := h4.on.blk B4.out HX.out.1
    have HC := Lib.hid (clone_any (m := ⟨A, ws, c, lane, st, la, s.q + 1⟩) ⟨HW4.out.lanes h4.on, HC0.out.1, HC0.out.2⟩ HL.out)
    have HB4 := Lib.hid b4
    unfold MV.val ClPost at HC
    simp only at HC
    clear K0 k0 m0 h4 b4 HP4 HS
    go_wp2_with fail
    refine HC.out.mono ?_
    rintro e w5 ⟨m', rfl, hm5, hw5, hb5⟩
    have H6 := Lib.hid (And.intro hm5 (And.intro hw5 hb5))
    have b5 := HB4.out.bel hb5
    have c5 := b5.cell
    have f5 := b5.frozen
    clear hm5 hw5 hb5 b5 m4
    unfold MV.val
    go_wp2_with fail
    refine bodyPost_ret (v := .agg #[.slice m'.a m'.ws.length m'.c, .int .i64 m'.ln, .int .i64 m'.st, .int .i64 m'.lt, .int .i64 m'.sq]) (by simp [results, Try.results39, go_sem, c5]) rfl ⟨m', r4, d4, rfl, ?_⟩
    exact let_fin HKX.out HG.out HX.out.1 B4.out H5.out H6.out.1 H6.out.2.1 H6.out.2.2 _ _ _ _ _ rfl (HKP3.out.drewN 1)
end Go.Proofs.Ytmfkapbllmfegaa.A12
/- A gate: Offer, whatever it answers: a contract. -/
namespace Go.Proofs.Ytmfkapbllmfegaa.A12
open Go.RowKit Go.Proofs.Ytmfkapbllmfegaa.G Go.Proofs.Ytmfkapbllmfegaa.L10 Go.Proofs.Ytmfkapbllmfegaa.C04
set_option maxRecDepth 100000
variable {w0 w00 w w' : World} {g : Nat} {a : Ga} {s : Gs}
/-- Its bucket is asked. -/
def asks (a : Ga) (s : Gs) (mode lane : Int) (ws : List Int) : Bool := decide (jdg a.k mode lane ws = 0 ∧ room a.L a.P s.d lane ≠ 0)
/-- What an Offer answers. -/
def oc (a : Ga) (s : Gs) (mode lane : Int) (ws : List Int) (r : Int) : Int := if jdg a.k mode lane ws ≠ 0 then jdg a.k mode lane ws else if room a.L a.P s.d lane = 0 then 2 else if K11.ctok a.R a.C s.T s.N r = 0 then 2 else 0
/-- What an Offer leaves. -/
structure OfW (w0 w : World) (g : Nat) (a : Ga) (s : Gs) (M : Pm) (code : Int) (ask : Bool) (T1 N1 : Int) (m' : MV) (s' : Gs) (w' : World) : Prop where
  gt : Gt w0 w' g a s'
  wo : Wo w' 0 m'
  mp : m'.pl = if code = 0 then M else z0.pl
  dp : s'.d.map MV.pl = if code = 0 then insP (s.d.map MV.pl) M else s.d.map MV.pl
  q : s'.q = if code = 0 then s.q + 1 else s.q
  T : s'.T = if ask = true then K11.less T1 else s.T
  N : s'.N = if ask = true then N1 else s.N
  on : Only (FG g a s.r) w w'
  nw : Nw w.heap.size s.r s'.r
def OfP (w0 w : World) (g : Nat) (a : Ga) (s : Gs) (M : Pm) (code : Int) (ask : Bool) (T1 N1 : Int) (e : Ending) (w' : World) : Prop := ∃ m' s', e = .returned (.tuple #[m'.val, .int .i64 code]) ∧ OfW w0 w g a s M code ask T1 N1 m' s' w'
theorem pcode_of {L P : Nat} {d : List MV} {l : Int} (h : room L P d l ≠ 0) (hs : cnt d l ≤ P) : pcode L P d l = 0 := by
  unfold room at h
  unfold pcode
  split at h
  · rename_i h1
    rw [if_pos h1, if_pos (by omega)]
  · exact absurd rfl h
/-- Refused: the box of the answer alone has turned. -/
theorem of_no {W V : World} {M : Pm} {code : Int} {ask : Bool} {T1 N1 : Int} {s1 : Gs} {cs : Array Value} {kx : Nat} (hW : W.heap.size = kx) (hg : w0.heap.size ≤ W.heap.size) (h : Gt w0 V g a s1) (hb : Blk V kx 43 cs) (hr : s.r = s1.r) (hd : s.d = s1.d) (hq : s.q = s1.q) (hx : s.r.ownBlock ≠ some kx) (hc : code ≠ 0) (hT : s1.T = if ask = true then K11.less T1 else s.T) (hN : s1.N = if ask = true then N1 else s.N) (hO : Only (FG g a s.r) W V) (u0 u1 u2 u3 u4 : Value) :
    OfW w0 W g a s M code ask T1 N1 z0 s1 (((((V.setCell ⟨kx, 0, none⟩ u0).setCell ⟨kx, 1, none⟩ u1).setCell ⟨kx, 2, none⟩ u2).setCell ⟨kx, 3, none⟩ u3).setCell ⟨kx, 4, none⟩ u4) :=
  ⟨h.box hb (by rw [← hr]; exact hx) (by omega) (only5 (Only.refl (fun k => k = kx) V) (.inl rfl) u0 u1 u2 u3 u4), Own.nil_ _ _ _ _, by rw [if_neg hc], by rw [if_neg hc, hd], by rw [if_neg hc, hq], hT, hN, hO.trans ((only5 (Only.refl (fun k => k = kx) V) (.inl rfl) u0 u1 u2 u3 u4).mono fun k hk => .inr (by have e : k = kx := hk; omega)), .inl (by rw [hr])⟩
theorem of_yes {W V2 V : World} {M : Pm} {T1 N1 : Int} {s1 : Gs} {cs : Array Value} {kx : Nat} {m' : MV} {r' : Value} {d' : List MV} (hW : W.heap.size = kx) (hg : w0.heap.size ≤ W.heap.size) (h : LtW w0 V2 g a s1 M m' r' d' V) (hb : Blk V kx 43 cs) (hV : kx < V2.heap.size) (hr : s.r = s1.r) (hd : s.d = s1.d) (hq : s.q = s1.q) (hx : s.r.ownBlock ≠ some kx) (hT : s1.T = K11.less T1) (hN : s1.N = N1) (hO : Only (FG g a s.r) W V2) (u0 u1 u2 u3 u4 : Value) :
    OfW w0 W g a s M 0 true T1 N1 m' ⟨r', d', s1.T, s1.N, s1.q + 1⟩ (((((V.setCell ⟨kx, 0, none⟩ u0).setCell ⟨kx, 1, none⟩ u1).setCell ⟨kx, 2, none⟩ u2).setCell ⟨kx, 3, none⟩ u3).setCell ⟨kx, 4, none⟩ u4) := by
  have ho := only5 (Only.refl (fun k => k = kx) V) (.inl rfl) u0 u1 u2 u3 u4
  refine ⟨h.gt.box hb (fun e => ?_) (by omega) ho, (h.wo.less (Nat.zero_le _)).only ho fun k cs hk e => hk.ne_ hb (by decide) e, by rw [if_pos rfl]; exact h.pl, by rw [if_pos rfl, hd]; exact h.dp, by rw [if_pos rfl, hq], by rw [if_pos rfl]; exact hT, by rw [if_pos rfl]; exact hN, (hO.trans_ (by rw [hr]; exact h.on)).trans (ho.mono fun k hk => .inr (by have e : k = kx := hk; omega)), ?_⟩
  · rcases h.nw with n | n
    · exact hx (by rw [hr, ← n]; exact e)
    · have := n kx e; omega
  · rcases h.nw with n | n
    · exact .inl (by rw [hr]; exact n)
    · exact .inr fun k hk => by have := n k hk; omega
set_option maxHeartbeats 4000000 in
theorem offer_any (h : Gt w0 w g a s) {A : Option Addr} {ws : List Int} {c : Nat} (mode lane now r : Int) (hr : Ap w g a s.r A (L10.iv ws)) (hc : ws.length ≤ c) (hc2 : c ≤ 9223372036854775807) (hl : ws.length ≤ 1000) (hq0 : 0 ≤ s.q) (hq : s.q ≤ 1000000) :
    Calls Try.prog 12 #[.pointer (some ⟨g, 0, none⟩), .int .i64 mode, .int .i64 lane, .slice A ws.length c, .int .i64 now, .int .i64 r] w (OfP w0 w g a s (pm a ws lane now (s.q + 1)) (oc a s mode lane ws r) (asks a s mode lane ws) (K11.ctok a.R a.C s.T s.N r) (K11.crnd s.N r)) := by
  have b0 := b01 w (.cells zC 43)
  have h0 := h.below b0
  have N0 := Blk.new w 43 zC
  have HH := Lib.hid h0
  have HN := Lib.hid N0
  have HJ := Lib.hid (judge_any (c := c) (w := w.alloc (.cells zC 43)) a.k mode lane (hr.below b0).row hl)
  have HW := Lib.hid (show w0.heap.size ≤ w.heap.size from h.bl.size)
  have HX : Hid (s.r.ownBlock ≠ some w.heap.size) := fun e => by have := h.rlt e; omega
  have HF := Lib.hid (h.nofl (Nat.le_refl _))
  have HRo := Lib.hid (fun V (hV : Gt w0 V g a s) => room_any hV.lv.ln lane hV.st.p8 (by have := hV.len; omega))
  have HTk := Lib.hid (fun V (hV : Gt w0 V g a s) => K11.take_any hV.bk r)
  have HLe := Lib.hid (fun V s1 (hV : Gt w0 V g a s1) (hA : Ap V g a s1.r A (L10.iv ws)) (h0 : 0 ≤ s1.q) (h1 : s1.q ≤ 1000000) (h2 : pcode a.L a.P s1.d lane = 0) => let_any hV (c := c) now hA hc hc2 hl h0 h1 h2)
  have HA0 := Lib.hid (hr.below b0)
  have HO0 := Lib.hid (Only.of (F := FG g a s.r) b0)
  have HPc : Hid (room a.L a.P s.d lane ≠ 0 → pcode a.L a.P s.d lane = 0) := fun hh => pcode_of hh (h.st.cn lane)
  have c0 := h0.bx.cell
  unfold oc asks
  obtain ⟨T0, hT0⟩ : ∃ T0, K11.ctok a.R a.C s.T s.N r = T0 := ⟨_, rfl⟩
  obtain ⟨M0, hM0⟩ : ∃ M0, K11.crnd s.N r = M0 := ⟨_, rfl⟩
  obtain ⟨T1, hT1⟩ : ∃ T1, T0 = T1 := ⟨_, rfl⟩
  obtain ⟨N1, hN1⟩ : ∃ N1, M0 = N1 := ⟨_, rfl⟩
  rw [hT0, hM0] at HTk
  rw [hT0, hM0, hT1, hN1]
  obtain ⟨R0, hRR⟩ : ∃ R0, room a.L a.P s.d lane = R0 := ⟨_, rfl⟩
  obtain ⟨R, hR0⟩ : ∃ R, R0 = R := ⟨_, rfl⟩
  rw [hRR] at HRo HPc ⊢
  rw [hR0] at HPc ⊢
  have HT1 := Lib.hid hT1
  have HN1r := Lib.hid hN1
  clear hT0 hM0 hRR hT1 hN1
  obtain ⟨M, hM⟩ : ∃ M, pm a ws lane now (s.q + 1) = M := ⟨_, rfl⟩
  have HM := Lib.hid hM
  rw [hM]
  clear hM
  generalize jdg a.k mode lane ws = J at *
  unfold gcells zC at *
  unfold Chn.val at HJ
  clear h h0 b0 N0 hr hc hc2 hl
  by_cases hJ : J = 0
  · subst hJ
    by_cases hR : R = 0
    · have HRR : Hid (R0 = R) := hR0
      rw [if_neg (by simp), if_pos hR, show decide ((0 : Int) = 0 ∧ R ≠ 0) = false from decide_eq_false (fun hh => hh.2 hR)]
      have tR : (R == 0) = true := by rw [beq_iff_eq]; exact hR
      clear hR hR0
      go_enter Try.func12, Try.ntmps12
      go_wp2_with fail
      refine HJ.out.mono ?_
      rintro e w1 ⟨rfl, hb1⟩
      have H1 := Lib.hid (HH.out.below hb1)
      have HO1 := Lib.hid (HO0.out.bel hb1)
      have HA1 := Lib.hid (HA0.out.below hb1)
      have N1' := HN.out.bel hb1
      have HN1 := Lib.hid N1'
      have q0 := N1'.cell
      have f0 := N1'.frozen
      have c1 := H1.out.bx.cell
      unfold gcells at c1
      clear hb1 N1' c0
      go_wp2_with fail
      refine (HRo.out _ H1.out).mono ?_
      rintro e w2 ⟨rfl, hb2⟩
      rw [HRR.out]
      have H2 := Lib.hid (H1.out.below hb2)
      have HO2 := Lib.hid (HO1.out.bel hb2)
      have HA2 := Lib.hid (HA1.out.below hb2)
      have N2' := HN1.out.bel hb2
      have HN2 := Lib.hid N2'
      clear q0 f0 c1 hb2
      have q0 := N2'.cell
      have f0 := N2'.frozen
      have c1 := H2.out.bx.cell
      unfold gcells at c1
      clear N2'
      go_wp2_with fail
      refine bodyPost_ret (v := .tuple #[z0.val, .int .i64 2]) (by simp [results, Try.results12, go_sem, q0, z0, MV.val]) rfl ⟨z0, s, rfl, ?_⟩
      exact of_no (s := s) rfl HW.out H2.out HN2.out rfl rfl rfl HX.out (by decide) rfl rfl HO2.out _ _ _ _ _
    · by_cases hT : T1 = 0
      · rw [if_neg (by simp), if_neg hR, if_pos hT, show decide ((0 : Int) = 0 ∧ R ≠ 0) = true from decide_eq_true ⟨rfl, hR⟩]
        have HRR : Hid (R0 = R) := hR0
        have HR0 := Lib.hid hR
        have tR : (R == 0) = false := by rw [beq_eq_false_iff_ne]; exact hR
        have tT : (T1 != 0) = false := by rw [bne_eq_false_iff_eq]; exact hT
        clear hR hR0 hT
        go_enter Try.func12, Try.ntmps12
        go_wp2_with fail
        refine HJ.out.mono ?_
        rintro e w1 ⟨rfl, hb1⟩
        have H1 := Lib.hid (HH.out.below hb1)
        have HO1 := Lib.hid (HO0.out.bel hb1)
        have HA1 := Lib.hid (HA0.out.below hb1)
        have N1' := HN.out.bel hb1
        have HN1 := Lib.hid N1'
        have q0 := N1'.cell
        have f0 := N1'.frozen
        have c1 := H1.out.bx.cell
        unfold gcells at c1
        clear hb1 N1' c0
        go_wp2_with fail
        refine (HRo.out _ H1.out).mono ?_
        rintro e w2 ⟨rfl, hb2⟩
        rw [HRR.out]
        have H2 := Lib.hid (H1.out.below hb2)
        have HO2 := Lib.hid (HO1.out.bel hb2)
        have HA2 := Lib.hid (HA1.out.below hb2)
        have N2' := HN1.out.bel hb2
        have HN2 := Lib.hid N2'
        clear q0 f0 c1 hb2
        have q0 := N2'.cell
        have f0 := N2'.frozen
        have c1 := H2.out.bx.cell
        unfold gcells at c1
        clear N2'
        go_wp2_with fail
        refine (HTk.out _ H2.out).mono ?_
        rintro e w3 ⟨rfl, hb3, ho3⟩
        rw [HT1.out, HN1r.out] at hb3
        have H3 := Lib.hid (H2.out.bucket hb3 ho3)
        have HO3 := Lib.hid (HO2.out.trans_ (fg_bb ho3))
        have HA3 := Lib.hid (HA2.out.bucket ho3)
        have N3' := (ob_only ho3).blk HN2.out (fun e => HN2.out.ne_ H2.out.bk.blk (by decide) e)
        have HN3 := Lib.hid N3'
        clear q0 f0 c1 hb3 ho3
        have q0 := N3'.cell
        have f0 := N3'.frozen
        have c1 := H3.out.bx.cell
        unfold gcells at c1
        clear N3'
        rw [HT1.out]
        go_wp2_with fail
        refine bodyPost_ret (v := .tuple #[z0.val, .int .i64 2]) (by simp [results, Try.results12, go_sem, q0, z0, MV.val]) rfl ⟨z0, ⟨s.r, s.d, K11.less T1, N1, s.q⟩, rfl, ?_⟩
        exact of_no (s := s) rfl HW.out H3.out HN3.out rfl rfl rfl HX.out (by decide) rfl rfl HO3.out _ _ _ _ _
      · rw [if_neg (by simp), if_neg hR, if_neg hT, show decide ((0 : Int) = 0 ∧ R ≠ 0) = true from decide_eq_true ⟨rfl, hR⟩]
        have HRR : Hid (R0 = R) := hR0
        have HR0 := Lib.hid hR
        have tR : (R == 0) = false := by rw [beq_eq_false_iff_ne]; exact hR
        have HT0 := Lib.hid hT
        clear hR hR0 hT
        go_enter Try.func12, Try.ntmps12
        go_wp2_with fail
        refine HJ.out.mono ?_
        rintro e w1 ⟨rfl, hb1⟩
        have H1 := Lib.hid (HH.out.below hb1)
        have HO1 := Lib.hid (HO0.out.bel hb1)
        have HA1 := Lib.hid (HA0.out.below hb1)
        have N1' := HN.out.bel hb1
        have HN1 := Lib.hid N1'
        have q0 := N1'.cell
        have f0 := N1'.frozen
        have c1 := H1.out.bx.cell
        unfold gcells at c1
        clear hb1 N1' c0
        go_wp2_with fail
        refine (HRo.out _ H1.out).mono ?_
        rintro e w2 ⟨rfl, hb2⟩
        rw [HRR.out]
        have H2 := Lib.hid (H1.out.below hb2)
        have HO2 := Lib.hid (HO1.out.bel hb2)
        have HA2 := Lib.hid (HA1.out.below hb2)
        have N2' := HN1.out.bel hb2
        have HN2 := Lib.hid N2'
        clear q0 f0 c1 hb2
        have q0 := N2'.cell
        have f0 := N2'.frozen
        have c1 := H2.out.bx.cell
        unfold gcells at c1
        clear N2'
        go_wp2_with fail
        refine (HTk.out _ H2.out).mono ?_
        rintro e w3 ⟨rfl, hb3, ho3⟩
        rw [HT1.out, HN1r.out] at hb3
        have H3 := Lib.hid (H2.out.bucket hb3 ho3)
        have HO3 := Lib.hid (HO2.out.trans_ (fg_bb ho3))
        have HA3 := Lib.hid (HA2.out.bucket ho3)
        have N3' := (ob_only ho3).blk HN2.out (fun e => HN2.out.ne_ H2.out.bk.blk (by decide) e)
        have HN3 := Lib.hid N3'
        clear q0 f0 c1 hb3 ho3
        have q0 := N3'.cell
        have f0 := N3'.frozen
        have c1 := H3.out.bx.cell
        unfold gcells at c1
        clear N3'
        rw [HT1.out]
        have tT : (T1 != 0) = true := by rw [bne_iff_ne]; exact HT0.out
        have HL3 := Lib.hid (HLe.out _ _ H3.out HA3.out hq0 hq (HPc.out HR0.out))
        go_wp2_with fail
        refine HL3.out.mono ?_
        rintro e w4 ⟨m', r', d', rfl, h4⟩
        rw [HM.out] at h4
        have H4 := Lib.hid h4
        have N4' := h4.on.blk HN3.out (H3.out.off HN3.out HF.out (by decide) (by decide))
        have HN4 := Lib.hid N4'
        clear q0 f0 c1 h4
        have q0 := N4'.cell
        have f0 := N4'.frozen
        clear N4'
        unfold MV.val
        go_wp2_with fail
        refine bodyPost_ret (v := .tuple #[m'.val, .int .i64 0]) (by simp [results, Try.results12, go_sem, q0, MV.val]) rfl ⟨m', ⟨r', d', K11.less T1, N1, s.q + 1⟩, rfl, ?_⟩
        exact of_yes (s := s) (N1 := N1) rfl HW.out H4.out HN4.out HN3.out.lt rfl rfl rfl HX.out rfl rfl HO3.out _ _ _ _ _
  · rw [if_pos hJ, show decide (J = 0 ∧ R ≠ 0) = false from decide_eq_false (fun hh => hJ hh.1)]
    have tJ : (J != 0) = true := by rw [bne_iff_ne]; exact hJ
    have HJ0 := Lib.hid hJ
    clear hJ
    go_enter Try.func12, Try.ntmps12
    go_wp2_with fail
    refine HJ.out.mono ?_
    rintro e w1 ⟨rfl, hb1⟩
    have H1 := Lib.hid (HH.out.below hb1)
    have HO1 := Lib.hid (HO0.out.bel hb1)
    have HA1 := Lib.hid (HA0.out.below hb1)
    have N1' := HN.out.bel hb1
    have HN1 := Lib.hid N1'
    have q0 := N1'.cell
    have f0 := N1'.frozen
    clear hb1 N1' c0
    go_wp2_with fail
    refine bodyPost_ret (v := .tuple #[z0.val, .int .i64 J]) (by simp [results, Try.results12, go_sem, q0, z0, MV.val]) rfl ⟨z0, s, rfl, ?_⟩
    exact of_no (s := s) rfl HW.out H1.out HN1.out rfl rfl rfl HX.out HJ0.out rfl rfl HO1.out _ _ _ _ _
end Go.Proofs.Ytmfkapbllmfegaa.A12
/- The first check of every statement of stage 12 ('lives'): the document's example. -/
namespace Go.Proofs.Ytmfkapbllmfegaa.A12
open Go.RowKit Go.Proofs.Ytmfkapbllmfegaa.G Go.Proofs.Ytmfkapbllmfegaa.L10 Go.Proofs.Ytmfkapbllmfegaa.C04
set_option maxRecDepth 100000
variable {w0 w00 w w' : World} {g : Nat} {a : Ga} {s : Gs}
def plainC : Chn := ⟨1, 0, 1, 1, 0, 1, 1, 1, 5, 0, 9⟩
theorem plain_any (w : World) : Calls Try.prog 24 #[] w fun e w' => e = .returned plainC.val ∧ Below w.heap.size w w' := by
  unfold plainC Chn.val
  go_enter Try.func24, Try.ntmps24
  go_wp2_with fail
  refine bodyPost_ret (v := _) (by simp [results, Try.results24, go_sem]) rfl ⟨rfl, ?_⟩
  exact b01 _ _
set_option maxHeartbeats 2000000 in
theorem lives_any (w : World) : Calls Try.prog 4 #[] w fun e w' => e = .returned (.bool true) ∧ Below w.heap.size w w' := by
  go_enter Try.func4, Try.ntmps4
  go_wp2_with fail
  refine (plain_any _).mono ?_
  rintro e w1 ⟨rfl, hb1⟩
  have HB1 := Lib.hid hb1
  have HN := Lib.hid (new_any plainC w1)
  unfold Chn.val at HN
  clear hb1
  unfold Chn.val
  go_wp2_with fail
  refine HN.out.mono ?_
  rintro e w2 ⟨g, a, rfl, hg, hf⟩
  obtain ⟨k, lb, bb, L, P, R, C⟩ := a
  obtain ⟨f1, f2, f3, f4, f5, _, _⟩ := hf
  simp only at f1 f2 f3 f4 f5
  obtain rfl : L = 1 := by have : (L : Int) = 1 := f2; omega
  obtain rfl : P = 1 := by have : (P : Int) = 1 := f3; omega
  obtain rfl : R = 0 := f4
  obtain rfl : C = 9 := f5
  subst f1
  clear f2 f3 HN
  have HG := Lib.hid (hg.old HB1.out)
  clear hg
  go_wp2_with fail
  have b3 := b01 w2 (.cells #[.int .i64 7] 3)
  have HO1 := Lib.hid (offer_any (HG.out.below b3) (ws := [7]) (c := 1) 0 0 3 0 (HG.out.ap_new (Row.of_blk (xs := L10.iv [7]) (Blk.new w2 3 #[.int .i64 7]) (fun j u hj => by simpa [L10.iv] using hj)) fun _ q o e => by injection e with e; injection e with e1 _; omega) (Nat.le_refl _) (by decide) (by decide) (by show (0 : Int) ≤ 0; omega) (by show (0 : Int) ≤ 1000000; omega))
  rw [show oc ⟨plainC, lb, bb, 1, 1, 0, 9⟩ (s0 ⟨plainC, lb, bb, 1, 1, 0, 9⟩) 0 0 [7] 0 = 0 from rfl, show asks ⟨plainC, lb, bb, 1, 1, 0, 9⟩ (s0 ⟨plainC, lb, bb, 1, 1, 0, 9⟩) 0 0 [7] = true from rfl] at HO1
  clear b3
  refine HO1.out.mono ?_
  rintro e w4 ⟨m1, s1, rfl, h1⟩
  have q1 : s1.q = 1 := h1.q
  have T1 : s1.T = 8 := h1.T.trans (show (if true = true then K11.less (K11.ctok 0 9 9 0 0) else 9) = 8 by decide)
  have N1 : s1.N = 0 := h1.N.trans (show (if true = true then K11.crnd 0 0 else 0) = 0 by decide)
  have P1 : m1.pl = ⟨[7], 0, 3, 8, 1⟩ := h1.mp.trans (show (if (0 : Int) = 0 then pm ⟨plainC, lb, bb, 1, 1, 0, 9⟩ [7] 0 3 (0 + 1) else z0.pl) = ⟨[7], 0, 3, 8, 1⟩ from rfl)
  have D1 : s1.d.map MV.pl = [⟨[7], 0, 3, 8, 1⟩] := h1.dp.trans (show (if (0 : Int) = 0 then insP [] (pm ⟨plainC, lb, bb, 1, 1, 0, 9⟩ [7] 0 3 (0 + 1)) else []) = [⟨[7], 0, 3, 8, 1⟩] from rfl)
  have HG1 := Lib.hid h1.gt
  clear h1 HO1
  obtain ⟨r1, d1, T, N, q⟩ := s1
  obtain ⟨ma, mw, mc, ml, ms, mt, mq⟩ := m1
  simp only at q1 T1 N1 D1
  simp only [MV.pl, Pm.mk.injEq] at P1
  obtain ⟨rfl, rfl, rfl, rfl, rfl⟩ := P1
  subst q1 T1 N1
  have HCt : Hid (room 1 1 d1 0 = 0) := by
    show room 1 1 d1 0 = 0
    unfold room
    rw [cnt_pl (e := [⟨none, [7], 0, 0, 3, 8, 1⟩]) D1]
    rfl
  have hln : d1.length = 1 := by have := congrArg List.length D1; simpa using this
  have HLn := Lib.hid hln
  clear hln
  have HN4 := Lib.hid (Blk.new w4 43 #[.slice ma 1 mc, .int .i64 0, .int .i64 3, .int .i64 8, .int .i64 1])
  have b5 := b01 w4 (.cells #[.slice ma 1 mc, .int .i64 0, .int .i64 3, .int .i64 8, .int .i64 1] 43)
  have HG2 := Lib.hid (HG1.out.below b5)
  have HFk := Lib.hid (HG1.out.nofl (Nat.le_refl _))
  clear D1 b5 HG HG1
  unfold MV.val
  simp only [List.length_cons, List.length_nil, Nat.zero_add]
  go_upto_region 3 with fail
  obtain ⟨km, hkm⟩ : ∃ km, w4.heap.size = km := ⟨_, rfl⟩
  rw [hkm] at HN4 HFk
  rw [hkm]
  generalize w4.alloc (.cells #[.slice ma 1 mc, .int .i64 0, .int .i64 3, .int .i64 8, .int .i64 1] 43) = W5 at *
  clear hkm
  have b6 := b01 W5 (.cells #[.int .i64 8] 3)
  have HO2 := Lib.hid (offer_any (HG2.out.below b6) (ws := [8]) (c := 1) 0 0 3 0 (HG2.out.ap_new (Row.of_blk (xs := L10.iv [8]) (Blk.new W5 3 #[.int .i64 8]) (fun j u hj => by simpa [L10.iv] using hj)) fun _ q o e => by injection e with e; injection e with e1 _; omega) (Nat.le_refl _) (by decide) (by decide) (by show (0 : Int) ≤ 1; omega) (by show (1 : Int) ≤ 1000000; omega))
  rw [show oc ⟨plainC, lb, bb, 1, 1, 0, 9⟩ ⟨r1, d1, 8, 0, 1⟩ 0 0 [8] 0 = 2 by unfold oc; rw [HCt.out]; rfl, show asks ⟨plainC, lb, bb, 1, 1, 0, 9⟩ ⟨r1, d1, 8, 0, 1⟩ 0 0 [8] = false from decide_eq_false (fun hh => hh.2 HCt.out)] at HO2
  have HN5 := Lib.hid (HN4.out.bel b6)
  have HOf := Lib.hid ((HG2.out.below b6).off HN5.out HFk.out (by decide) (by decide))
  clear b6
  go_wp2_with fail
  refine HO2.out.mono ?_
  rintro e w6 ⟨m2, s2, rfl, h2⟩
  have HN6 := Lib.hid (h2.on.blk HN5.out HOf.out)
  have HP2 := Lib.hid (show m2.pl = ⟨[], 0, 0, 0, 0⟩ from h2.mp)
  have e1 : s2.q = 1 := h2.q
  have e2 : s2.T = 8 := h2.T
  have e3 : s2.N = 0 := h2.N
  have e4 : s2.d.length = 1 := by
    have h := congrArg List.length h2.dp
    rw [List.length_map] at h
    rw [h, if_neg (by decide), List.length_map]
    exact HLn.out
  have b7 := b01 w6 (.cells #[.slice m2.a m2.ws.length m2.c, .int .i64 m2.ln, .int .i64 m2.st, .int .i64 m2.lt, .int .i64 m2.sq] 43)
  have HG7 := Lib.hid (h2.gt.below b7)
  have HN7 := Lib.hid (HN6.out.bel b7)
  have CL := Lib.hid (len_any HG7.out)
  have CT := Lib.hid (tokens_any HG7.out 0)
  rw [e2, e3, show K11.ctok 0 9 8 0 0 = 8 by decide] at CT
  rw [e4] at CL
  have k0 := HN7.out.cell 3
  have k1 := HN7.out.cell 4
  simp only [List.getElem?_toArray, List.getElem?_cons_zero, List.getElem?_cons_succ] at k0 k1
  clear h2 e1 e2 e3 e4 b7 HN5 HN6 HO2
  unfold MV.val
  go_wp2_with (first
    | (go_at_call 20; refine CL.out.mono ?_; rintro e w' ⟨rfl, rfl⟩)
    | (go_at_call 23; refine CT.out.mono ?_; rintro e w8 ⟨rfl, hg8, _⟩))
  go_ret
  exact ⟨rfl, hg8.bl⟩
end Go.Proofs.Ytmfkapbllmfegaa.A12
