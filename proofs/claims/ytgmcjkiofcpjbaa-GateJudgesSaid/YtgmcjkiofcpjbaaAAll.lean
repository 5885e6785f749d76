/- Texts laid together: A0, A1, A2. -/
import Derived.Test.YtgmcjkiofcpjbaaQFlush
import Derived.Test.YtgmcjkiofcpjbaaKAll
import Derived.Test.YtgmcjkiofcpjbaaCfg
import Derived.Test.YtgmcjkiofcpjbaaKind
/- A gate: as it lies in memory beside its lanes and its bucket; what stays where one of them turns; how a message is judged, as plain data. -/
namespace Go.Proofs.Ytgmcjkiofcpjbaa.A12
open Go.RowKit Go.Proofs.Ytgmcjkiofcpjbaa.G Go.Proofs.Ytgmcjkiofcpjbaa.L10 Go.Proofs.Ytgmcjkiofcpjbaa.C04
set_option maxRecDepth 100000

/-- What stays of a gate: its channel, where its lanes and its bucket lie, how many lanes and places, its rate and its cap. -/
structure Ga where
  k : Chn
  lb : Nat
  bb : Nat
  L : Nat
  P : Nat
  R : Int
  C : Int
/-- What turns: the row of all, its tokens, its round, its number. -/
structure Gs where
  r : Value
  d : List MV
  T : Int
  N : Int
  q : Int
def gcells (a : Ga) (q : Int) : Array Value := #[.int .i64 a.k.k, .int .i64 a.k.f, .int .i64 a.k.t, .int .i64 a.k.w, .int .i64 a.k.r, .int .i64 a.k.la, .int .i64 a.k.d, .int .i64 a.k.h, .int .i64 a.k.li, .int .i64 a.k.ra, .int .i64 a.k.c, .pointer (some ⟨a.lb, 0, none⟩), .pointer (some ⟨a.bb, 0, none⟩), .int .i64 q]
/-- A gate in memory, behind all that was there. -/
structure Gt (w0 w : World) (g : Nat) (a : Ga) (s : Gs) : Prop where
  bx : Blk w g 81 (gcells a s.q)
  lv : Lv w0 w a.lb a.L a.P s.r s.d
  st : St a.L a.P s.d
  wd : Wd w s.d
  bk : K11.Bk w a.bb a.R a.C s.T s.N
  bg : w0.heap.size ≤ a.bb
  ge : w0.heap.size ≤ g
variable {w0 w w' : World} {g : Nat} {a : Ga} {s : Gs}
theorem Gt.bl (h : Gt w0 w g a s) : Below w0.heap.size w0 w := h.lv.bl
theorem Gt.below (h : Gt w0 w g a s) (hb : Below w.heap.size w w') : Gt w0 w' g a s :=
  ⟨h.bx.bel hb, h.lv.below hb, h.st, h.wd.below hb, h.bk.below hb, h.bg, h.ge⟩
theorem Gt.drewN (h : Gt w0 w g a s) (n : Nat) : Gt w0 (w.drewN n) g a s := h.below (bn (Below.refl _ _) n)
theorem Gt.alloc (h : Gt w0 w g a s) (o : Obj) : Gt w0 (w.alloc o) g a s := h.below (b01 _ _)
theorem Gt.len (h : Gt w0 w g a s) : s.d.length ≤ 24 := h.st.len
/-- Its lanes have turned. -/
theorem Gt.lanes (h : Gt w0 w g a s) {r' : Value} {d' : List MV} (hl : Ln w' a.lb a.L a.P r' d') (hs : St a.L a.P d') (hw : Wd w' d') (ho : Only (FL a.lb s.r) w w') (hn : Nw w.heap.size s.r r') : Gt w0 w' g a ⟨r', d', s.T, s.N, s.q⟩ :=
  ⟨ho.blk h.bx (h.lv.ln.off h.bx (by decide) (by decide)), h.lv.step hl ho hn, hs, hw, ⟨ho.blk h.bk.blk (h.lv.ln.off h.bk.blk (by decide) (by decide)), h.bk.ok⟩, h.bg, h.ge⟩
/-- Only one block has turned, that is none of the lanes'. -/
theorem ob_only {b : Nat} (h : K11.Ob b w w') : Only (fun k => k = b) w w' := ⟨h.os, h.tape, h.output, h.size, h.block⟩
theorem Gt.one (h : Gt w0 w g a s) {b : Nat} {t : TypeId} {cs : Array Value} (hb : Blk w b t cs) (h1 : t ≠ 100) (h2 : t ≠ 43) (h3 : t ≠ 3) (hg : w0.heap.size ≤ b) (ho : Only (fun k => k = b) w w') : Lv w0 w' a.lb a.L a.P s.r s.d ∧ Wd w' s.d :=
  ⟨h.lv.other ho fun k hk => by
    have e : k = b := hk
    subst e
    exact ⟨h.lv.ln.off hb h1 h2, hg⟩, h.wd.only ho fun q cs' hq e => by
    have e' : q = b := e
    subst e'
    exact Blk.ne_ hq hb (fun x => h3 x.symm) rfl⟩
/-- Its bucket has turned. -/
theorem Gt.bucket (h : Gt w0 w g a s) {T N : Int} (hb : K11.Bk w' a.bb a.R a.C T N) (ho : K11.Ob a.bb w w') : Gt w0 w' g a ⟨s.r, s.d, T, N, s.q⟩ := by
  have o := ob_only ho
  obtain ⟨h1, h2⟩ := h.one h.bk.blk (by decide) (by decide) (by decide) h.bg o
  refine ⟨o.blk h.bx fun e => ?_, h1, h.st, h2, hb, h.bg, h.ge⟩
  have e' : g = a.bb := e
  exact h.bx.ne_ h.bk.blk (by decide) e'
/-- Its number is stored. -/
theorem Gt.num (h : Gt w0 w g a s) (q : Int) : Gt w0 (w.setCell ⟨g, 13, none⟩ (.int .i64 q)) g a ⟨s.r, s.d, s.T, s.N, q⟩ := by
  have o : Only (fun k => k = g) w (w.setCell ⟨g, 13, none⟩ (.int .i64 q)) := (Only.refl (fun k => k = g) w).set_ (.inl rfl) 13 _
  obtain ⟨h1, h2⟩ := h.one h.bx (by decide) (by decide) (by decide) h.ge o
  exact ⟨h.bx.set_ 13 _, h1, h.st, h2, ⟨o.blk h.bk.blk fun e => h.bk.blk.ne_ h.bx (by decide) e, h.bk.ok⟩, h.bg, h.ge⟩
/-- The blocks that are the gate's. -/
def FG (g : Nat) (a : Ga) (r : Value) : Nat → Prop := fun k => FL a.lb r k ∨ k = g ∨ k = a.bb
theorem fg_lanes {F : Nat → Prop} {r : Value} (h : Only F w w') (hF : ∀ k, F k → FL a.lb r k) : Only (FG g a r) w w' := h.mono fun k hk => .inl (hF k hk)
theorem fg_lb {r : Value} (h : Only (fun k => k = a.lb) w w') : Only (FG g a r) w w' := h.mono fun k hk => .inl (.inl hk)
theorem fg_bb {r : Value} (h : K11.Ob a.bb w w') : Only (FG g a r) w w' := (ob_only h).mono fun k hk => .inr (.inr hk)
/-- A block that is none of the gate's. -/
theorem Gt.off (h : Gt w0 w g a s) {k : Nat} {t : TypeId} {cs : Array Value} (hk : Blk w k t cs) (hf : ¬ FL a.lb s.r k) (h1 : t ≠ 81) (h2 : t ≠ 102) : ¬ FG g a s.r k := fun hh => by
  rcases hh with e | e | e
  · exact hf e
  · exact hk.ne_ h.bx h1 e
  · exact hk.ne_ h.bk.blk h2 e
theorem Gt.off2 (h : Gt w0 w g a s) {k : Nat} {t : TypeId} {cs : Array Value} (hk : Blk w k t cs) (h1 : t ≠ 81) (h2 : t ≠ 102) (h3 : t ≠ 100) (h4 : t ≠ 43) : ¬ FG g a s.r k :=
  h.off hk (h.lv.ln.off hk h3 h4) h1 h2
theorem Gt.fg_lt (h : Gt w0 w g a s) {k : Nat} (hk : FG g a s.r k) : k < w.heap.size := by
  rcases hk with e | e | e
  · exact h.lv.ln.lts k e
  · have := h.bx.lt; omega
  · have := h.bk.lt; omega
theorem Gt.fg_ge (h : Gt w0 w g a s) {k : Nat} (hk : FG g a s.r k) : w0.heap.size ≤ k := by
  rcases hk with e | e | e
  · exact h.lv.ab k e
  · have := h.ge; omega
  · have := h.bg; omega
/-! ### How a message is judged -/
def wok (z : Int) : Bool := decide (0 ≤ z ∧ z ≤ 2147483647)
def mayb (ws : List Int) (most : Int) : Bool := decide (0 < ws.length ∧ (ws.length : Int) ≤ most) && ws.all wok
def inl (n la : Int) : Bool := decide (0 ≤ n ∧ n < la)
def jdg (k : Chn) (mode lane : Int) (ws : List Int) : Int := if mode ≠ 0 then 5 else if k.k ≠ 1 then 4 else if (inl lane k.la && mayb ws k.w) = true then 0 else 3
theorem jdg_mode {k : Chn} {mode lane : Int} {ws : List Int} (h : mode ≠ 0) : jdg k mode lane ws = 5 := if_pos h
theorem jdg_kind {k : Chn} {mode lane : Int} {ws : List Int} (h : mode = 0) (h1 : k.k ≠ 1) : jdg k mode lane ws = 4 := by unfold jdg; rw [if_neg (by omega), if_pos h1]
theorem jdg_ok {k : Chn} {mode lane : Int} {ws : List Int} (h : mode = 0) (h1 : k.k = 1) (h2 : inl lane k.la = true) (h3 : mayb ws k.w = true) : jdg k mode lane ws = 0 := by unfold jdg; rw [if_neg (by omega), if_neg (by omega), h2, h3]; rfl
theorem jdg_lane {k : Chn} {mode lane : Int} {ws : List Int} (h : mode = 0) (h1 : k.k = 1) (h2 : inl lane k.la = false) : jdg k mode lane ws = 3 := by unfold jdg; rw [if_neg (by omega), if_neg (by omega), h2]; rfl
theorem jdg_words {k : Chn} {mode lane : Int} {ws : List Int} (h : mode = 0) (h1 : k.k = 1) (h3 : mayb ws k.w = false) : jdg k mode lane ws = 3 := by unfold jdg; rw [if_neg (by omega), if_neg (by omega), h3, Bool.and_false]; rfl
theorem jdg_zero {k : Chn} {mode lane : Int} {ws : List Int} (h : jdg k mode lane ws = 0) : mode = 0 ∧ k.k = 1 ∧ (0 ≤ lane ∧ lane < k.la) ∧ mayb ws k.w = true := by
  unfold jdg at h
  split at h
  · omega
  · split at h
    · omega
    · split at h
      · rename_i h1 h2 h3
        rw [Bool.and_eq_true] at h3
        exact ⟨by omega, by omega, of_decide_eq_true h3.1, h3.2⟩
      · omega
theorem all_snoc {ws : List Int} {k : Nat} {z : Int} (h : (ws.take k).all wok = true) (hz : ws[k]? = some z) (ho : wok z = true) : (ws.take (k + 1)).all wok = true := by
  rw [take_snoc hz, List.all_append, h]; simp [ho]
theorem all_no {ws : List Int} {k : Nat} {z : Int} (hz : ws[k]? = some z) (ho : wok z = false) : ws.all wok = false := by
  rw [List.all_eq_false]
  exact ⟨z, List.mem_of_getElem? hz, by rw [ho]; simp⟩
theorem mayb_len {ws : List Int} {m : Int} (h : ws.length = 0 ∨ m < (ws.length : Int)) : mayb ws m = false := by
  unfold mayb; rw [decide_eq_false (by omega)]; rfl
theorem mayb_no {ws : List Int} {m : Int} (h : ws.all wok = false) : mayb ws m = false := by unfold mayb; rw [h, Bool.and_false]
theorem mayb_yes {ws : List Int} {m : Int} (h0 : 0 < ws.length) (h1 : (ws.length : Int) ≤ m) (h : ws.all wok = true) : mayb ws m = true := by
  unfold mayb; rw [h, decide_eq_true ⟨h0, h1⟩]; rfl
end Go.Proofs.Ytgmcjkiofcpjbaa.A12
/- How a message is judged, by the program and by the document: contracts against one plain function. -/
namespace Go.Proofs.Ytgmcjkiofcpjbaa.A12
open Go.RowKit Go.Proofs.Ytgmcjkiofcpjbaa.G Go.Proofs.Ytgmcjkiofcpjbaa.L10 Go.Proofs.Ytgmcjkiofcpjbaa.C04
set_option maxRecDepth 100000
variable {w w' : World}
theorem row_iv {A : Option Addr} {ws : List Int} (h : Row w A (L10.iv ws)) {k : Nat} {z : Int} (hz : ws[k]? = some z) : ∃ b o : Nat, A = some ⟨b, o, none⟩ ∧ w.cell? ⟨b, o + k, none⟩ = some (.int .i64 z) := by
  have hk := (List.getElem?_eq_some_iff.1 hz).1
  obtain ⟨b, o, e, _, hc⟩ := h (by rw [iv_len]; omega)
  exact ⟨b, o, e, hc k _ (by simp [L10.iv, hz])⟩
set_option maxHeartbeats 1000000 in
theorem maybe_any {A : Option Addr} {c : Nat} {ws : List Int} (hr : Row w A (L10.iv ws)) (hl : ws.length ≤ 1000) (m : Int) : Calls Try.prog 56 #[.slice A ws.length c, .int .i64 m] w fun e w' => e = .returned (.bool (mayb ws m)) ∧ w = w' := by
  by_cases h0 : ws.length = 0
  · have e0 : mayb ws m = false := mayb_len (.inl h0)
    rw [e0]
    have t0 : ((ws.length : Int) == 0) = true := by rw [beq_iff_eq]; omega
    go_enter Try.func56, Try.ntmps56
    go_wp2_with fail
    go_ret
    exact ⟨rfl, rfl⟩
  · have t0 : ((ws.length : Int) == 0) = false := by rw [beq_eq_false_iff_ne]; omega
    by_cases h1 : (ws.length : Int) > m
    · have e0 : mayb ws m = false := mayb_len (.inr (by omega))
      rw [e0]
      go_enter Try.func56, Try.ntmps56
      go_wp2_with fail
      go_ret
      exact ⟨rfl, rfl⟩
    · have HR := Lib.hid hr
      have HY : Hid (ws.all wok = true → mayb ws m = true) := fun h => mayb_yes (by omega) (by omega) h
      obtain ⟨z, hz⟩ : ∃ z, mayb ws m = z := ⟨_, rfl⟩
      have HZ := Lib.hid hz
      rw [hz]
      clear hz hr
      go_enter Try.func56, Try.ntmps56
      go_wp2_with fail
      go_loopw [18] (fun i V => ∃ k : Nat, i = .int .i64 k ∧ k ≤ ws.length ∧ (ws.take k).all wok = true ∧ V = w) (fun i _ => ws.length - (intOf i).toNat)
      case atStart => exact ⟨0, rfl, by omega, rfl, rfl⟩
      case round =>
        obtain ⟨k, rfl, hk, ha, rfl⟩ := hrel
        by_cases hlt : k < ws.length
        · obtain ⟨x, hx⟩ : ∃ x, ws[k]? = some x := ⟨_, List.getElem?_eq_getElem hlt⟩
          obtain ⟨b, o, rfl, hc⟩ := row_iv HR.out hx
          have hkz : (k : Int) < ws.length := by omega
          have HA := Lib.hid (And.intro ha hx)
          clear ha hx
          by_cases hx0 : x < 0
          · have ez : false = z := by rw [← HZ.out]; exact (mayb_no (all_no HA.out.2 (decide_eq_false (by omega)))).symm
            subst ez
            go_wp2_with fail
            go_ret
            exact ⟨rfl, rfl⟩
          · by_cases hx1 : x > 2147483647
            · have ez : false = z := by rw [← HZ.out]; exact (mayb_no (all_no HA.out.2 (decide_eq_false (by omega)))).symm
              subst ez
              go_wp2_with fail
              go_ret
              exact ⟨rfl, rfl⟩
            · have HS := Lib.hid (all_snoc HA.out.1 HA.out.2 (decide_eq_true (by omega)))
              go_wp2_with fail
              go_roundw
              case rel => exact ⟨k + 1, by go_num, by omega, HS.out, by trivial⟩
              case measure => simp [intOf] <;> omega
        · have hkz : ¬ (k : Int) < ws.length := by omega
          have ez : true = z := by rw [← HZ.out]; exact (HY.out (by rw [← ha, List.take_of_length_le (by omega)])).symm
          subst ez
          go_wp2_with fail
          go_ret
          exact ⟨rfl, rfl⟩
def JdPost (v : Int) (w : World) (e : Ending) (w' : World) : Prop := e = .returned (.int .i64 v) ∧ Below w.heap.size w w'
set_option maxHeartbeats 2000000 in
theorem judge_any {A : Option Addr} {c : Nat} {ws : List Int} (k : Chn) (mode lane : Int) (hr : Row w A (L10.iv ws)) (hl : ws.length ≤ 1000) : Calls Try.prog 30 #[k.val, .int .i64 mode, .int .i64 lane, .slice A ws.length c] w (JdPost (jdg k mode lane ws) w) := by
  obtain ⟨J, hJ⟩ : ∃ J, jdg k mode lane ws = J := ⟨_, rfl⟩
  have HJ := Lib.hid hJ
  rw [hJ]
  clear hJ
  have b1 := b01 w (.cells #[.int .i64 k.k, .int .i64 k.f, .int .i64 k.t, .int .i64 k.w, .int .i64 k.r, .int .i64 k.la, .int .i64 k.d, .int .i64 k.h, .int .i64 k.li, .int .i64 k.ra, .int .i64 k.c] 23)
  have HB := Lib.hid b1
  have HM := Lib.hid (maybe_any (c := c) (hr.below b1) hl k.w)
  clear hr b1
  unfold Chn.val
  by_cases h0 : mode = 0
  · subst h0
    by_cases h1 : k.k = 1
    · have t1 : (k.k != 1) = false := by rw [bne_eq_false_iff_eq]; exact h1
      by_cases h2 : lane < 0
      · have e : 3 = J := by rw [← HJ.out]; exact (jdg_lane rfl h1 (decide_eq_false (by omega))).symm
        subst e
        clear h1
        go_enter Try.func30, Try.ntmps30
        go_wp2_with fail
        go_ret
        exact ⟨rfl, HB.out⟩
      · by_cases h3 : lane ≥ k.la
        · have e : 3 = J := by rw [← HJ.out]; exact (jdg_lane rfl h1 (decide_eq_false (by omega))).symm
          subst e
          clear h1
          go_enter Try.func30, Try.ntmps30
          go_wp2_with fail
          go_ret
          exact ⟨rfl, HB.out⟩
        · cases hm : mayb ws k.w with
          | true =>
            have e : 0 = J := by rw [← HJ.out]; exact (jdg_ok rfl h1 (decide_eq_true (by omega)) hm).symm
            subst e
            rw [hm] at HM
            clear h1 hm
            go_enter Try.func30, Try.ntmps30
            go_wp2_with fail
            refine HM.out.mono ?_
            rintro e w1 ⟨rfl, rfl⟩
            go_wp2_with fail
            go_ret
            exact ⟨rfl, HB.out⟩
          | false =>
            have e : 3 = J := by rw [← HJ.out]; exact (jdg_words rfl h1 hm).symm
            subst e
            rw [hm] at HM
            clear h1 hm
            go_enter Try.func30, Try.ntmps30
            go_wp2_with fail
            refine HM.out.mono ?_
            rintro e w1 ⟨rfl, rfl⟩
            go_wp2_with fail
            go_ret
            exact ⟨rfl, HB.out⟩
    · have t1 : (k.k != 1) = true := by rw [bne_iff_ne]; exact h1
      have e : 4 = J := by rw [← HJ.out]; exact (jdg_kind rfl h1).symm
      subst e
      clear h1
      go_enter Try.func30, Try.ntmps30
      go_wp2_with fail
      go_ret
      exact ⟨rfl, HB.out⟩
  · have t0 : (mode != 0) = true := by rw [bne_iff_ne]; exact h0
    have e : 5 = J := by rw [← HJ.out]; exact (jdg_mode h0).symm
    subst e
    clear h0
    go_enter Try.func30, Try.ntmps30
    go_wp2_with fail
    go_ret
    exact ⟨rfl, HB.out⟩
end Go.Proofs.Ytgmcjkiofcpjbaa.A12
/- A gate: New, Take, Sweep, Flush, All, Len, Tokens, Seq, also of none: contracts. -/
namespace Go.Proofs.Ytgmcjkiofcpjbaa.A12
open Go.RowKit Go.Proofs.Ytgmcjkiofcpjbaa.G Go.Proofs.Ytgmcjkiofcpjbaa.L10 Go.Proofs.Ytgmcjkiofcpjbaa.C04
set_option maxRecDepth 100000
variable {w0 w00 w w' : World} {g : Nat} {a : Ga} {s : Gs}
theorem Gt.old (h : Gt w0 w g a s) (hb : Below w00.heap.size w00 w0) : Gt w00 w g a s :=
  ⟨h.bx, ⟨h.lv.ln, fun k hk => Nat.le_trans hb.size (h.lv.ab k hk), bt hb h.lv.bl⟩, h.st, h.wd, h.bk, Nat.le_trans hb.size h.bg, Nat.le_trans hb.size h.ge⟩
/-- The gate that New makes, as it lies. -/
structure Fit (k : Chn) (a : Ga) : Prop where
  ch : a.k = k
  l : (a.L : Int) = near k.la 3
  p : (a.P : Int) = near k.d 8
  r : a.R = K11.rof k.ra
  c : a.C = K11.cof k.c
  l3 : 1 ≤ a.L ∧ a.L ≤ 3
  p8 : 1 ≤ a.P ∧ a.P ≤ 8
def s0 (a : Ga) : Gs := ⟨.slice none 0 0, [], a.C, 0, 0⟩
def NwPost (k : Chn) (w : World) (e : Ending) (w' : World) : Prop := ∃ g a, e = .returned (.pointer (some ⟨g, 0, none⟩)) ∧ Gt w w' g a (s0 a) ∧ Fit k a
theorem new_fin {W w2 : World} {k : Chn} {bb L P : Nat} {R C : Int} (hW : Below w.heap.size w W) (hl : Ln w2 W.heap.size L P (.slice none 0 0) []) (hb : K11.Bk w2 bb R C C 0) (hg : W.heap.size ≤ bb) (hB : Below W.heap.size W w2) (h3 : L ≤ 3 ∧ P ≤ 8) :
    Gt w (w2.alloc (.cells (gcells ⟨k, W.heap.size, bb, L, P, R, C⟩ 0) 81)) w2.heap.size ⟨k, W.heap.size, bb, L, P, R, C⟩ (s0 ⟨k, W.heap.size, bb, L, P, R, C⟩) := by
  have b := b01 w2 (.cells (gcells ⟨k, W.heap.size, bb, L, P, R, C⟩ 0) 81)
  refine ⟨Blk.new w2 81 _, ⟨hl.below b, fun q hq => ?_, bt (bt hW hB) b⟩, St.nil_ L P h3.1 h3.2, Wd.nil_ _, hb.below b, Nat.le_trans hW.size hg, (bt hW hB).size⟩
  rcases hq with e | hq
  · have := hW.size
    have e' : q = W.heap.size := e
    omega
  · simp [s0, Value.ownBlock] at hq
set_option maxHeartbeats 2000000 in
theorem new_any (k : Chn) (w : World) : Calls Try.prog 12 #[k.val] w (NwPost k w) := by
  have h1 := near_pos k.la (m := 3) (by omega)
  have h2 := near_pos k.d (m := 8) (by omega)
  have C1 := Lib.hid (fun V => L10.new_any k.la k.d V)
  have C2 := Lib.hid (fun V => K11.new_any k.ra k.c V)
  obtain ⟨L, hL⟩ : ∃ L, (near k.la 3).toNat = L := ⟨_, rfl⟩
  obtain ⟨P, hP⟩ : ∃ P, (near k.d 8).toNat = P := ⟨_, rfl⟩
  obtain ⟨R, hR⟩ : ∃ R, K11.rof k.ra = R := ⟨_, rfl⟩
  obtain ⟨C, hC⟩ : ∃ C, K11.cof k.c = C := ⟨_, rfl⟩
  have HF : Hid (∀ lb bb, Fit k ⟨k, lb, bb, L, P, R, C⟩) := fun lb bb => ⟨rfl, by show (L : Int) = _; omega, by show (P : Int) = _; omega, hR.symm, hC.symm, by show 1 ≤ L ∧ L ≤ 3; omega, by show 1 ≤ P ∧ P ≤ 8; omega⟩
  unfold L10.NewPost at C1
  rw [hR, hC] at C2
  simp only [hL, hP] at C1
  have HL3 : Hid (L ≤ 3 ∧ P ≤ 8) := by show L ≤ 3 ∧ P ≤ 8; omega
  clear h1 h2 hL hP hR hC
  have b1 := Lib.hid (b01 w (.cells #[.int .i64 k.k, .int .i64 k.f, .int .i64 k.t, .int .i64 k.w, .int .i64 k.r, .int .i64 k.la, .int .i64 k.d, .int .i64 k.h, .int .i64 k.li, .int .i64 k.ra, .int .i64 k.c] 23))
  have HK := Lib.hid (Blk.new w 23 #[.int .i64 k.k, .int .i64 k.f, .int .i64 k.t, .int .i64 k.w, .int .i64 k.r, .int .i64 k.la, .int .i64 k.d, .int .i64 k.h, .int .i64 k.li, .int .i64 k.ra, .int .i64 k.c])
  unfold Chn.val
  go_enter Try.func12, Try.ntmps12
  go_wp2_with fail
  obtain ⟨kx, hkx⟩ : ∃ kx, w.heap.size = kx := ⟨_, rfl⟩
  rw [hkx] at HK ⊢
  clear hkx
  generalize w.alloc (.cells #[.int .i64 k.k, .int .i64 k.f, .int .i64 k.t, .int .i64 k.w, .int .i64 k.r, .int .i64 k.la, .int .i64 k.d, .int .i64 k.h, .int .i64 k.li, .int .i64 k.ra, .int .i64 k.c] 23) = W at *
  have HS : Hid (∀ V, Below W.heap.size W V → ∀ i, V.cell? ⟨kx, i, none⟩ = (#[.int .i64 k.k, .int .i64 k.f, .int .i64 k.t, .int .i64 k.w, .int .i64 k.r, .int .i64 k.la, .int .i64 k.d, .int .i64 k.h, .int .i64 k.li, .int .i64 k.ra, .int .i64 k.c] : Array Value)[i]?) := fun V hV => (HK.out.bel hV).cell
  have S0 : Below W.heap.size W W.drew := (Below.refl _ _).drew
  have K0 := HS.out _ S0
  go_region_held3 (fun V => ∀ i, V.cell? ⟨kx, i, none⟩ = (#[.int .i64 k.k, .int .i64 k.f, .int .i64 k.t, .int .i64 k.w, .int .i64 k.r, .int .i64 k.la, .int .i64 k.d, .int .i64 k.h, .int .i64 k.li, .int .i64 k.ra, .int .i64 k.c] : Array Value)[i]?) (first | (with_reducible exact HS.out _ S0) | (with_reducible exact HS.out _ (ba1 S0 _)) | fail)
    (first
      | (go_at_call 35; (with_reducible refine (C1.out _).mono ?_); rintro e w1 ⟨rfl, hl1, hb1⟩; have HL1 := Lib.hid hl1; have HB1 := Lib.hid (bt S0 hb1); have S0 := bt S0 hb1)
      | (go_at_call 36; (with_reducible refine (C2.out _).mono ?_); rintro e w2 ⟨bb, rfl, hb2, hg2, hB2⟩; have HL2 := Lib.hid (hl1.below hB2); have HB2 := Lib.hid (And.intro hb2 (And.intro hg2 hB2)); have S0 := bt S0 hB2)
      | fail)
  have HX := Lib.hid (new_fin (k := k) b1.out HL2.out HB2.out.1 (Nat.le_trans HB1.out.size HB2.out.2.1) S0 HL3.out)
  go_wp2_with fail
  go_ret
  exact ⟨_, _, rfl, HX.out, HF.out _ _⟩
theorem there_any (h : Gt w0 w g a s) : Calls Try.prog 48 #[.pointer (some ⟨g, 0, none⟩)] w fun e w' => e = .returned (.pointer (some ⟨a.lb, 0, none⟩)) ∧ w = w' := by
  have c11 := h.bx.cell 11
  unfold gcells at c11
  simp only [List.getElem?_toArray, List.getElem?_cons_zero, List.getElem?_cons_succ] at c11
  clear h
  go_enter Try.func48, Try.ntmps48
  go_wp2
  go_ret
  exact ⟨rfl, rfl⟩
theorem there_nil (w : World) : Calls Try.prog 48 #[.pointer none] w fun e w' => e = .returned (.pointer none) ∧ w = w' := by
  go_enter Try.func48, Try.ntmps48
  go_wp2
  go_ret
  exact ⟨rfl, rfl⟩
theorem seq_any (h : Gt w0 w g a s) : Calls Try.prog 28 #[.pointer (some ⟨g, 0, none⟩)] w fun e w' => e = .returned (.int .i64 s.q) ∧ w = w' := by
  have c13 := h.bx.cell 13
  unfold gcells at c13
  simp only [List.getElem?_toArray, List.getElem?_cons_zero, List.getElem?_cons_succ] at c13
  clear h
  go_enter Try.func28, Try.ntmps28
  go_wp2
  go_ret
  exact ⟨rfl, rfl⟩
theorem seq_nil (w : World) : Calls Try.prog 28 #[.pointer none] w fun e w' => e = .returned (.int .i64 0) ∧ w = w' := by
  go_enter Try.func28, Try.ntmps28
  go_wp2
  go_ret
  exact ⟨rfl, rfl⟩
theorem tokens_nil (r : Int) (w : World) : Calls Try.prog 29 #[.pointer none, .int .i64 r] w fun e w' => e = .returned (.int .i64 0) ∧ w = w' := by
  go_enter Try.func29, Try.ntmps29
  go_wp2
  go_ret
  exact ⟨rfl, rfl⟩
def TkPost (w0 w : World) (g : Nat) (a : Ga) (s : Gs) (T N : Int) (e : Ending) (w' : World) : Prop := e = .returned (.int .i64 T) ∧ Gt w0 w' g a ⟨s.r, s.d, T, N, s.q⟩ ∧ Only (FG g a s.r) w w'
theorem tokens_any (h : Gt w0 w g a s) (r : Int) : Calls Try.prog 29 #[.pointer (some ⟨g, 0, none⟩), .int .i64 r] w (TkPost w0 w g a s (K11.ctok a.R a.C s.T s.N r) (K11.crnd s.N r)) := by
  have HC := Lib.hid (K11.tokens_any h.bk r)
  have HH := Lib.hid h
  have c12 := h.bx.cell 12
  unfold gcells at c12
  simp only [List.getElem?_toArray, List.getElem?_cons_zero, List.getElem?_cons_succ] at c12
  generalize K11.ctok a.R a.C s.T s.N r = T at *
  generalize K11.crnd s.N r = N at *
  clear h
  go_enter Try.func29, Try.ntmps29
  go_wp2_with fail
  refine HC.out.mono ?_
  rintro e w1 ⟨rfl, hb, ho⟩
  have H1 := Lib.hid (And.intro (HH.out.bucket hb ho) (fg_bb (g := g) (r := s.r) ho))
  clear hb ho
  go_wp2_with fail
  go_ret
  exact ⟨rfl, H1.out.1, H1.out.2⟩
theorem len_any (h : Gt w0 w g a s) : Calls Try.prog 26 #[.pointer (some ⟨g, 0, none⟩)] w fun e w' => e = .returned (.int .i64 s.d.length) ∧ w = w' := by
  have HT := Lib.hid (there_any h)
  have HL := Lib.hid (L10.len_any h.lv.ln)
  clear h
  go_enter Try.func26, Try.ntmps26
  go_wp2_with fail
  refine HT.out.mono ?_
  rintro e w' ⟨rfl, rfl⟩
  go_wp2_with fail
  refine HL.out.mono ?_
  rintro e w' ⟨rfl, rfl⟩
  go_wp2_with fail
  go_ret
  exact ⟨rfl, rfl⟩
theorem len_nil (w : World) : Calls Try.prog 26 #[.pointer none] w fun e w' => e = .returned (.int .i64 0) ∧ w = w' := by
  go_enter Try.func26, Try.ntmps26
  go_wp2_with fail
  refine (there_nil _).mono ?_
  rintro e w' ⟨rfl, rfl⟩
  go_wp2_with fail
  refine (L10.len_nil _).mono ?_
  rintro e w' ⟨rfl, rfl⟩
  go_wp2_with fail
  go_ret
  exact ⟨rfl, rfl⟩
/-- A list that is told. -/
def LsP (w : World) (l0 : List Pm) (e : Ending) (w' : World) : Prop := ∃ A c l, e = .returned (.slice A l.length c) ∧ Row w' A (mvs l) ∧ WsR w' l ∧ l.map MV.pl = l0 ∧ Below w.heap.size w w'
theorem ls_p {l0 : List MV} {e : Ending} (h : LsPost l0 w e w') : LsP w (l0.map MV.pl) e w' := by
  obtain ⟨v, l, rfl, hm, hp, hb⟩ := h
  obtain ⟨A', c', rfl, z0, _⟩ := hm.own.row
  exact ⟨A', c', l, rfl, z0, fun y hy => (hm.ws y hy).wr, hp, hb⟩
theorem all_any (h : Gt w0 w g a s) : Calls Try.prog 27 #[.pointer (some ⟨g, 0, none⟩)] w (LsP w (s.d.map MV.pl)) := by
  have HT := Lib.hid (there_any h)
  have HL := Lib.hid ((L10.all_any h.lv.ln h.wd.ws (by have := h.len; omega)).mono fun e w' hx => ls_p hx)
  clear h
  go_enter Try.func27, Try.ntmps27
  go_wp2_with fail
  refine HT.out.mono ?_
  rintro e w' ⟨rfl, rfl⟩
  go_wp2_with fail
  refine HL.out.mono ?_
  rintro e w' ⟨A, c, l, rfl, h1⟩
  have H1 := Lib.hid h1
  clear h1
  go_wp2_with fail
  go_ret
  exact ⟨A, c, l, rfl, H1.out⟩
theorem all_nil (w : World) : Calls Try.prog 27 #[.pointer none] w fun e w' => e = .returned (.slice none 0 0) ∧ Below w.heap.size w w' := by
  go_enter Try.func27, Try.ntmps27
  go_wp2_with fail
  refine (there_nil _).mono ?_
  rintro e w' ⟨rfl, rfl⟩
  go_wp2_with fail
  refine (L10.all_nil _).mono ?_
  rintro e w' ⟨rfl, hb⟩
  go_wp2_with fail
  go_ret
  exact ⟨rfl, hb⟩
/-- Messages that are taken out, and what stays. -/
def OuP (w0 w : World) (g : Nat) (a : Ga) (s : Gs) (gone stay : List MV) (e : Ending) (w' : World) : Prop := ∃ A c r', e = .returned (.slice A gone.length c) ∧ Row w' A (mvs gone) ∧ WsR w' gone ∧ Gt w0 w' g a ⟨r', stay, s.T, s.N, s.q⟩ ∧ Only (FG g a s.r) w w' ∧ Nw w.heap.size s.r r'
theorem sub_st {L P : Nat} {d d' : List MV} (hs : St L P d) (h : d'.Sublist d) : St L P d' := ⟨hs.l3, hs.p8, hs.srt.sublist h, fun x hx => hs.ln x (h.subset hx), fun k => Nat.le_trans (h.filter _).length_le (hs.cn k)⟩
theorem out_p {gone stay : List MV} (h : Gt w0 w g a s) (hg : gone.Sublist s.d) (hs : stay.Sublist s.d) {e : Ending} (hx : OutsPost w a.lb a.L a.P gone stay e w') : OuP w0 w g a s gone stay e w' := by
  obtain ⟨v, r', rfl, ho⟩ := hx
  obtain ⟨A', c', rfl, z0, _⟩ := ho.og.row
  have hn := fun q cs (hq : Blk w q 3 cs) (e : q = a.lb) => h.lv.ln.no_int q cs hq (.inl e)
  have hw := fun y (hy : y ∈ gone) => (h.wd.sub (d' := gone) (fun y hy => hg.subset hy)).only ho.on hn y hy
  exact ⟨A', c', r', rfl, z0, fun y hy => (hw y hy).1.wr, h.lanes ho.ln (sub_st h.st hs) ((h.wd.sub fun y hy => hs.subset hy).only ho.on hn) (ho.on.mono fun _ hk => .inl hk) (.inr ho.fr), fg_lb ho.on, .inr ho.fr⟩
theorem sweep_any (h : Gt w0 w g a s) (n : Int) : Calls Try.prog 24 #[.pointer (some ⟨g, 0, none⟩), .int .i64 n] w (OuP w0 w g a s (s.d.filter fun m => late n m.lt) (s.d.filter fun m => !late n m.lt)) := by
  have HT := Lib.hid (there_any h)
  have HL := Lib.hid ((L10.sweep_any h.lv.ln (by have := h.len; omega) n).mono fun e w' hx => out_p h List.filter_sublist List.filter_sublist hx)
  generalize (s.d.filter fun m => late n m.lt) = G at *
  generalize (s.d.filter fun m => !late n m.lt) = S at *
  clear h
  go_enter Try.func24, Try.ntmps24
  go_wp2_with fail
  refine HT.out.mono ?_
  rintro e w' ⟨rfl, rfl⟩
  go_wp2_with fail
  refine HL.out.mono ?_
  rintro e w' ⟨A, c, r', rfl, h1⟩
  have H1 := Lib.hid h1
  clear h1
  go_wp2_with fail
  go_ret
  exact ⟨A, c, r', rfl, H1.out⟩
theorem sweep_nil (n : Int) (w : World) : Calls Try.prog 24 #[.pointer none, .int .i64 n] w fun e w' => e = .returned (.slice none 0 0) ∧ Below w.heap.size w w' := by
  go_enter Try.func24, Try.ntmps24
  go_wp2_with fail
  refine (there_nil _).mono ?_
  rintro e w' ⟨rfl, rfl⟩
  go_wp2_with fail
  refine (L10.sweep_nil _ _).mono ?_
  rintro e w' ⟨rfl, hb⟩
  go_wp2_with fail
  go_ret
  exact ⟨rfl, hb⟩
theorem flush_any (h : Gt w0 w g a s) : Calls Try.prog 25 #[.pointer (some ⟨g, 0, none⟩)] w (OuP w0 w g a s s.d []) := by
  have HT := Lib.hid (there_any h)
  have HL := Lib.hid ((L10.flush_any h.lv.ln (by have := h.len; omega)).mono fun e w' hx => out_p h (List.Sublist.refl _) (List.nil_sublist _) hx)
  clear h
  go_enter Try.func25, Try.ntmps25
  go_wp2_with fail
  refine HT.out.mono ?_
  rintro e w' ⟨rfl, rfl⟩
  go_wp2_with fail
  refine HL.out.mono ?_
  rintro e w' ⟨A, c, r', rfl, h1⟩
  have H1 := Lib.hid h1
  clear h1
  go_wp2_with fail
  go_ret
  exact ⟨A, c, r', rfl, H1.out⟩
theorem flush_nil (w : World) : Calls Try.prog 25 #[.pointer none] w fun e w' => e = .returned (.slice none 0 0) ∧ w = w' := by
  go_enter Try.func25, Try.ntmps25
  go_wp2_with fail
  refine (there_nil _).mono ?_
  rintro e w' ⟨rfl, rfl⟩
  go_wp2_with fail
  refine (L10.flush_nil _).mono ?_
  rintro e w' ⟨rfl, rfl⟩
  go_wp2_with fail
  go_ret
  exact ⟨rfl, rfl⟩
/-- A box of messages, of none of the gate's, is stored to. -/
theorem Gt.box (h : Gt w0 w g a s) {k : Nat} {cs : Array Value} (hk : Blk w k 43 cs) (hr : s.r.ownBlock ≠ some k) (hge : w0.heap.size ≤ k) (ho : Only (fun q => q = k) w w') : Gt w0 w' g a s := by
  refine ⟨ho.blk h.bx fun e => h.bx.ne_ hk (by decide) e, h.lv.other ho fun q hq => ?_, h.st, h.wd.only ho fun q cs' hq e => ?_, ⟨ho.blk h.bk.blk fun e => h.bk.blk.ne_ hk (by decide) e, h.bk.ok⟩, h.bg, h.ge⟩
  · have e : q = k := hq
    subst e
    refine ⟨fun hf => ?_, hge⟩
    rcases hf with e | hf
    · exact hk.ne_ h.lv.ln.blk (by decide) e
    · exact hr hf
  · have e' : q = k := e
    exact hq.ne_ hk (by decide) e'
/-- The first one is taken. -/
structure TaW (w0 w : World) (g : Nat) (a : Ga) (s : Gs) (r' : Value) (w' : World) : Prop where
  wo : Wo w' 0 (s.d.headD z0)
  gt : Gt w0 w' g a ⟨r', s.d.drop 1, s.T, s.N, s.q⟩
  fr : ∀ q, r'.ownBlock = some q → w.heap.size ≤ q
  on : Only (fun k => k = a.lb) w w'
/-- What a call answers of a first one that it takes. -/
structure TbW (w0 w : World) (g : Nat) (a : Ga) (s : Gs) (r' : Value) (w' : World) : Prop where
  wo : Wo w' 0 (s.d.headD z0)
  gt : Gt w0 w' g a ⟨r', s.d.drop 1, s.T, s.N, s.q⟩
  fr : ∀ q, r'.ownBlock = some q → w.heap.size ≤ q
  on : Only (FG g a s.r) w w'
def TaP (w0 w : World) (g : Nat) (a : Ga) (s : Gs) (e : Ending) (w' : World) : Prop := ∃ r', e = .returned (.tuple #[(s.d.headD z0).val, .bool (!s.d.isEmpty)]) ∧ TaW w0 w g a s r' w'
def TbP (w0 w : World) (g : Nat) (a : Ga) (s : Gs) (e : Ending) (w' : World) : Prop := ∃ r', e = .returned (.tuple #[(s.d.headD z0).val, .bool (!s.d.isEmpty)]) ∧ TbW w0 w g a s r' w'
theorem ta_p (h : Gt w0 w g a s) {e : Ending} (hx : L10.TkPost w a.lb a.L a.P s.d e w') : TaP w0 w g a s e w' := by
  obtain ⟨r', he, hl, hf, ho⟩ := hx
  have hn := fun q cs (hq : Blk w q 3 cs) (e : q = a.lb) => h.lv.ln.no_int q cs hq (.inl e)
  refine ⟨r', he, ?_, h.lanes hl (sub_st h.st (List.drop_sublist 1 _)) ((h.wd.sub fun y hy => List.mem_of_mem_drop hy).only ho hn) (ho.mono fun _ hk => .inl hk) (.inr hf), hf, ho⟩
  have hw := h.wd
  cases hd : s.d with
  | nil => exact Own.nil_ _ _ _ _
  | cons m t =>
    rw [hd] at hw
    exact (hw m (List.mem_cons_self ..)).1.only ho hn
theorem only5 {F : Nat → Prop} {x W : World} {q : Nat} (h : Only F x W) (hq : F q ∨ x.heap.size ≤ q) (u0 u1 u2 u3 u4 : Value) : Only F x (((((W.setCell ⟨q, 0, none⟩ u0).setCell ⟨q, 1, none⟩ u1).setCell ⟨q, 2, none⟩ u2).setCell ⟨q, 3, none⟩ u3).setCell ⟨q, 4, none⟩ u4) :=
  ((((h.set_ hq 0 u0).set_ hq 1 u1).set_ hq 2 u2).set_ hq 3 u3).set_ hq 4 u4
set_option maxHeartbeats 2000000 in
theorem take_any (h : Gt w0 w g a s) : Calls Try.prog 21 #[.pointer (some ⟨g, 0, none⟩)] w (TbP w0 w g a s) := by
  have b1 := b01 w (.cells zC 43)
  have N := Blk.new w 43 zC
  have HT := Lib.hid (there_any (h.below b1))
  have HL := Lib.hid ((L10.take_any (h.below b1).lv.ln (by have := h.len; omega)).mono fun e w' hx => ta_p (h.below b1) hx)
  have HN := Lib.hid N
  have HZ : Hid (w0.heap.size ≤ w.heap.size) := h.bl.size
  have HSz : Hid (w.heap.size < (w.alloc (.cells zC 43)).heap.size) := by show w.heap.size < _; rw [World.size_alloc]; omega
  have HOn : Hid (∀ V r', TaW w0 (w.alloc (.cells zC 43)) g a s r' V → Blk V w.heap.size 43 zC) := fun V r' ht => ht.on.blk N fun e => N.ne_ (h.below b1).lv.ln.blk (by decide) e
  unfold TaP at HL
  unfold TbP
  have HFin : Hid (∀ V W r' cs, TaW w0 (w.alloc (.cells zC 43)) g a s r' V → Blk V w.heap.size 43 cs → Only (fun q => q = w.heap.size) V W → TbW w0 w g a s r' W) := fun V W r' cs ht hk ho => by
    refine ⟨ht.wo.only ho fun q cs' hq e => ?_, ht.gt.box hk (fun e => ?_) HZ.out ho, fun q hq => by have := ht.fr q hq; have := HSz.out; omega, ?_⟩
    · have e' : q = w.heap.size := e
      exact hq.ne_ hk (by decide) e'
    · have := ht.fr _ e
      have := HSz.out
      omega
    · exact ((Only.of (F := FG g a s.r) b1).trans_ (fg_lb ht.on)).trans (ho.mono fun k hk => .inr (by have e : k = w.heap.size := hk; omega))
  unfold zC at HT HL HN HOn
  generalize (!s.d.isEmpty) = y at *
  generalize s.d.headD z0 = m at *
  clear h b1 N
  unfold MV.val at HL ⊢
  go_enter Try.func21, Try.ntmps21
  go_wp2_with fail
  refine HT.out.mono ?_
  rintro e w' ⟨rfl, rfl⟩
  go_wp2_with fail
  refine HL.out.mono ?_
  rintro e w1 ⟨r', rfl, h1⟩
  have H1 := Lib.hid h1
  have B0 := HOn.out _ _ h1
  have HB0 := Lib.hid B0
  have c0 := B0.cell 0
  have c1 := B0.cell 1
  have c2 := B0.cell 2
  have c3 := B0.cell 3
  have c4 := B0.cell 4
  have f0 := B0.frozen
  simp only [List.getElem?_toArray, List.getElem?_cons_zero, List.getElem?_cons_succ] at c0 c1 c2 c3 c4
  clear h1 B0
  go_wp2_with fail
  refine bodyPost_ret (v := .tuple #[.agg #[.slice m.a m.ws.length m.c, .int .i64 m.ln, .int .i64 m.st, .int .i64 m.lt, .int .i64 m.sq], .bool y]) (by simp [results, Try.results21, go_sem, c0, c1, c2, c3, c4]) rfl ⟨r', rfl, ?_⟩
  exact HFin.out _ _ _ _ H1.out HB0.out (only5 (Only.refl (fun q => q = w.heap.size) w1) (.inl rfl) (.slice m.a m.ws.length m.c) (.int .i64 m.ln) (.int .i64 m.st) (.int .i64 m.lt) (.int .i64 m.sq))
theorem take_nil (w : World) : Calls Try.prog 21 #[.pointer none] w fun e w' => e = .returned (.tuple #[z0.val, .bool false]) ∧ Below w.heap.size w w' := by
  unfold MV.val z0
  go_enter Try.func21, Try.ntmps21
  go_wp2_with fail
  refine (there_nil _).mono ?_
  rintro e w' ⟨rfl, rfl⟩
  go_wp2_with fail
  refine (L10.take_nil _).mono ?_
  rintro e w' ⟨rfl, hb⟩
  have B0 := (Blk.new w 43 zC).bel hb
  have HB := Lib.hid (bt (b01 w (.cells zC 43)) hb)
  unfold MV.val z0
  unfold zC at B0
  have c0 := B0.cell 0
  have c1 := B0.cell 1
  have c2 := B0.cell 2
  have c3 := B0.cell 3
  have c4 := B0.cell 4
  have f0 := B0.frozen
  simp only [List.getElem?_toArray, List.getElem?_cons_zero, List.getElem?_cons_succ] at c0 c1 c2 c3 c4
  clear hb B0
  go_wp2_with fail
  refine bodyPost_ret (v := .tuple #[.agg #[.slice none 0 0, .int .i64 0, .int .i64 0, .int .i64 0, .int .i64 0], .bool false]) (by simp [results, Try.results21, go_sem, c0, c1, c2, c3, c4]) rfl ?_
  have HO := only5 (Only.of (F := fun _ => False) HB.out) (q := w.heap.size) (.inr (Nat.le_refl _)) (.slice none 0 0) (.int .i64 0) (.int .i64 0) (.int .i64 0) (.int .i64 0)
  exact And.intro rfl (below_only HO fun _ h => h.elim)
end Go.Proofs.Ytgmcjkiofcpjbaa.A12
