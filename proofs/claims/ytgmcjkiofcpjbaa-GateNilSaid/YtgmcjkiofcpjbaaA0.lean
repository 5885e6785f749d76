/- A gate: as it lies in memory beside its lanes and its bucket; what stays where one of them turns; how a message is judged, as plain data. -/
import Derived.Test.YtgmcjkiofcpjbaaQFlush
import Derived.Test.YtgmcjkiofcpjbaaK2
import Derived.Test.YtgmcjkiofcpjbaaCfg
namespace Go.Proofs.Ytgmcjkiofcpjbaa.A12
open Go.RowKit Go.Proofs.Ytgmcjkiofcpjbaa.G Go.Proofs.Ytgmcjkiofcpjbaa.L10 Go.Proofs.Ytgmcjkiofcpjbaa.C04
set_option maxRecDepth 100000

/-- What stays of a gate: its channel, where its lanes and its bucket lie, how many lanes and places, its rate and its cap. -/
structure Ga where
  k : Chn
  lb : Nat
  bb : Nat
  L : Nat
  P : Nat
  R : Int
  C : Int
/-- What turns: the row of all, its tokens, its round, its number. -/
structure Gs where
  r : Value
  d : List MV
  T : Int
  N : Int
  q : Int
def gcells (a : Ga) (q : Int) : Array Value := #[.int .i64 a.k.k, .int .i64 a.k.f, .int .i64 a.k.t, .int .i64 a.k.w, .int .i64 a.k.r, .int .i64 a.k.la, .int .i64 a.k.d, .int .i64 a.k.h, .int .i64 a.k.li, .int .i64 a.k.ra, .int .i64 a.k.c, .pointer (some ⟨a.lb, 0, none⟩), .pointer (some ⟨a.bb, 0, none⟩), .int .i64 q]
/-- A gate in memory, behind all that was there. -/
structure Gt (w0 w : World) (g : Nat) (a : Ga) (s : Gs) : Prop where
  bx : Blk w g 81 (gcells a s.q)
  lv : Lv w0 w a.lb a.L a.P s.r s.d
  st : St a.L a.P s.d
  wd : Wd w s.d
  bk : K11.Bk w a.bb a.R a.C s.T s.N
  bg : w0.heap.size ≤ a.bb
  ge : w0.heap.size ≤ g
variable {w0 w w' : World} {g : Nat} {a : Ga} {s : Gs}
theorem Gt.bl (h : Gt w0 w g a s) : Below w0.heap.size w0 w := h.lv.bl
theorem Gt.below (h : Gt w0 w g a s) (hb : Below w.heap.size w w') : Gt w0 w' g a s :=
  ⟨h.bx.bel hb, h.lv.below hb, h.st, h.wd.below hb, h.bk.below hb, h.bg, h.ge⟩
theorem Gt.drewN (h : Gt w0 w g a s) (n : Nat) : Gt w0 (w.drewN n) g a s := h.below (bn (Below.refl _ _) n)
theorem Gt.alloc (h : Gt w0 w g a s) (o : Obj) : Gt w0 (w.alloc o) g a s := h.below (b01 _ _)
theorem Gt.len (h : Gt w0 w g a s) : s.d.length ≤ 24 := h.st.len
/-- Its lanes have turned. -/
theorem Gt.lanes (h : Gt w0 w g a s) {r' : Value} {d' : List MV} (hl : Ln w' a.lb a.L a.P r' d') (hs : St a.L a.P d') (hw : Wd w' d') (ho : Only (FL a.lb s.r) w w') (hn : Nw w.heap.size s.r r') : Gt w0 w' g a ⟨r', d', s.T, s.N, s.q⟩ :=
  ⟨ho.blk h.bx (h.lv.ln.off h.bx (by decide) (by decide)), h.lv.step hl ho hn, hs, hw, ⟨ho.blk h.bk.blk (h.lv.ln.off h.bk.blk (by decide) (by decide)), h.bk.ok⟩, h.bg, h.ge⟩
/-- Only one block has turned, that is none of the lanes'. -/
theorem ob_only {b : Nat} (h : K11.Ob b w w') : Only (fun k => k = b) w w' := ⟨h.os, h.tape, h.output, h.size, h.block⟩
theorem Gt.one (h : Gt w0 w g a s) {b : Nat} {t : TypeId} {cs : Array Value} (hb : Blk w b t cs) (h1 : t ≠ 100) (h2 : t ≠ 43) (h3 : t ≠ 3) (hg : w0.heap.size ≤ b) (ho : Only (fun k => k = b) w w') : Lv w0 w' a.lb a.L a.P s.r s.d ∧ Wd w' s.d :=
  ⟨h.lv.other ho fun k hk => by
    have e : k = b := hk
    subst e
    exact ⟨h.lv.ln.off hb h1 h2, hg⟩, h.wd.only ho fun q cs' hq e => by
    have e' : q = b := e
    subst e'
    exact Blk.ne_ hq hb (fun x => h3 x.symm) rfl⟩
/-- Its bucket has turned. -/
theorem Gt.bucket (h : Gt w0 w g a s) {T N : Int} (hb : K11.Bk w' a.bb a.R a.C T N) (ho : K11.Ob a.bb w w') : Gt w0 w' g a ⟨s.r, s.d, T, N, s.q⟩ := by
  have o := ob_only ho
  obtain ⟨h1, h2⟩ := h.one h.bk.blk (by decide) (by decide) (by decide) h.bg o
  refine ⟨o.blk h.bx fun e => ?_, h1, h.st, h2, hb, h.bg, h.ge⟩
  have e' : g = a.bb := e
  exact h.bx.ne_ h.bk.blk (by decide) e'
/-- Its number is stored. -/
theorem Gt.num (h : Gt w0 w g a s) (q : Int) : Gt w0 (w.setCell ⟨g, 13, none⟩ (.int .i64 q)) g a ⟨s.r, s.d, s.T, s.N, q⟩ := by
  have o : Only (fun k => k = g) w (w.setCell ⟨g, 13, none⟩ (.int .i64 q)) := (Only.refl (fun k => k = g) w).set_ (.inl rfl) 13 _
  obtain ⟨h1, h2⟩ := h.one h.bx (by decide) (by decide) (by decide) h.ge o
  exact ⟨h.bx.set_ 13 _, h1, h.st, h2, ⟨o.blk h.bk.blk fun e => h.bk.blk.ne_ h.bx (by decide) e, h.bk.ok⟩, h.bg, h.ge⟩
/-- The blocks that are the gate's. -/
def FG (g : Nat) (a : Ga) (r : Value) : Nat → Prop := fun k => FL a.lb r k ∨ k = g ∨ k = a.bb
theorem fg_lanes {F : Nat → Prop} {r : Value} (h : Only F w w') (hF : ∀ k, F k → FL a.lb r k) : Only (FG g a r) w w' := h.mono fun k hk => .inl (hF k hk)
theorem fg_lb {r : Value} (h : Only (fun k => k = a.lb) w w') : Only (FG g a r) w w' := h.mono fun k hk => .inl (.inl hk)
theorem fg_bb {r : Value} (h : K11.Ob a.bb w w') : Only (FG g a r) w w' := (ob_only h).mono fun k hk => .inr (.inr hk)
/-- A block that is none of the gate's. -/
theorem Gt.off (h : Gt w0 w g a s) {k : Nat} {t : TypeId} {cs : Array Value} (hk : Blk w k t cs) (hf : ¬ FL a.lb s.r k) (h1 : t ≠ 81) (h2 : t ≠ 102) : ¬ FG g a s.r k := fun hh => by
  rcases hh with e | e | e
  · exact hf e
  · exact hk.ne_ h.bx h1 e
  · exact hk.ne_ h.bk.blk h2 e
theorem Gt.off2 (h : Gt w0 w g a s) {k : Nat} {t : TypeId} {cs : Array Value} (hk : Blk w k t cs) (h1 : t ≠ 81) (h2 : t ≠ 102) (h3 : t ≠ 100) (h4 : t ≠ 43) : ¬ FG g a s.r k :=
  h.off hk (h.lv.ln.off hk h3 h4) h1 h2
theorem Gt.fg_lt (h : Gt w0 w g a s) {k : Nat} (hk : FG g a s.r k) : k < w.heap.size := by
  rcases hk with e | e | e
  · exact h.lv.ln.lts k e
  · have := h.bx.lt; omega
  · have := h.bk.lt; omega
theorem Gt.fg_ge (h : Gt w0 w g a s) {k : Nat} (hk : FG g a s.r k) : w0.heap.size ≤ k := by
  rcases hk with e | e | e
  · exact h.lv.ab k e
  · have := h.ge; omega
  · have := h.bg; omega
/-! ### How a message is judged -/
def wok (z : Int) : Bool := decide (0 ≤ z ∧ z ≤ 2147483647)
def mayb (ws : List Int) (most : Int) : Bool := decide (0 < ws.length ∧ (ws.length : Int) ≤ most) && ws.all wok
def inl (n la : Int) : Bool := decide (0 ≤ n ∧ n < la)
def jdg (k : Chn) (mode lane : Int) (ws : List Int) : Int := if mode ≠ 0 then 5 else if k.k ≠ 1 then 4 else if (inl lane k.la && mayb ws k.w) = true then 0 else 3
theorem jdg_mode {k : Chn} {mode lane : Int} {ws : List Int} (h : mode ≠ 0) : jdg k mode lane ws = 5 := if_pos h
theorem jdg_kind {k : Chn} {mode lane : Int} {ws : List Int} (h : mode = 0) (h1 : k.k ≠ 1) : jdg k mode lane ws = 4 := by unfold jdg; rw [if_neg (by omega), if_pos h1]
theorem jdg_ok {k : Chn} {mode lane : Int} {ws : List Int} (h : mode = 0) (h1 : k.k = 1) (h2 : inl lane k.la = true) (h3 : mayb ws k.w = true) : jdg k mode lane ws = 0 := by unfold jdg; rw [if_neg (by omega), if_neg (by omega), h2, h3]; rfl
theorem jdg_lane {k : Chn} {mode lane : Int} {ws : List Int} (h : mode = 0) (h1 : k.k = 1) (h2 : inl lane k.la = false) : jdg k mode lane ws = 3 := by unfold jdg; rw [if_neg (by omega), if_neg (by omega), h2]; rfl
theorem jdg_words {k : Chn} {mode lane : Int} {ws : List Int} (h : mode = 0) (h1 : k.k = 1) (h3 : mayb ws k.w = false) : jdg k mode lane ws = 3 := by unfold jdg; rw [if_neg (by omega), if_neg (by omega), h3, Bool.and_false]; rfl
theorem jdg_zero {k : Chn} {mode lane : Int} {ws : List Int} (h : jdg k mode lane ws = 0) : mode = 0 ∧ k.k = 1 ∧ (0 ≤ lane ∧ lane < k.la) ∧ mayb ws k.w = true := by
  unfold jdg at h
  split at h
  · omega
  · split at h
    · omega
    · split at h
      · rename_i h1 h2 h3
        rw [Bool.and_eq_true] at h3
        exact ⟨by omega, by omega, of_decide_eq_true h3.1, h3.2⟩
      · omega
theorem all_snoc {ws : List Int} {k : Nat} {z : Int} (h : (ws.take k).all wok = true) (hz : ws[k]? = some z) (ho : wok z = true) : (ws.take (k + 1)).all wok = true := by
  rw [take_snoc hz, List.all_append, h]; simp [ho]
theorem all_no {ws : List Int} {k : Nat} {z : Int} (hz : ws[k]? = some z) (ho : wok z = false) : ws.all wok = false := by
  rw [List.all_eq_false]
  exact ⟨z, List.mem_of_getElem? hz, by rw [ho]; simp⟩
theorem mayb_len {ws : List Int} {m : Int} (h : ws.length = 0 ∨ m < (ws.length : Int)) : mayb ws m = false := by
  unfold mayb; rw [decide_eq_false (by omega)]; rfl
theorem mayb_no {ws : List Int} {m : Int} (h : ws.all wok = false) : mayb ws m = false := by unfold mayb; rw [h, Bool.and_false]
theorem mayb_yes {ws : List Int} {m : Int} (h0 : 0 < ws.length) (h1 : (ws.length : Int) ≤ m) (h : ws.all wok = true) : mayb ws m = true := by
  unfold mayb; rw [h, decide_eq_true ⟨h0, h1⟩]; rfl
end Go.Proofs.Ytgmcjkiofcpjbaa.A12
