/- Texts laid together: AR7, AR8, AR9, AR10. -/
import Derived.Test.YtmfkapbllmfegaaARa
/- Both gates, and the step: what stays. -/
namespace Go.Proofs.Ytmfkapbllmfegaa.A12
open Go.RowKit Go.Proofs.Ytmfkapbllmfegaa.G Go.Proofs.Ytmfkapbllmfegaa.L10 Go.Proofs.Ytmfkapbllmfegaa.C04 Go.Sort
set_option maxRecDepth 100000
variable {w V V' : World} {g k ks : Nat} {a : Ga} {s s' : Gs} {x x' : Rg} {sc : Array Value}
/-- The document's list, where it lies: apart from all that is the gate's. -/
structure Ng (V : World) (g : Nat) (a : Ga) (r : Value) (x : Rg) : Prop where
  row : Row V x.A (mvs x.e)
  ok : AOk x.A x.c
  le : x.e.length ≤ x.c
  ws : ∀ m ∈ x.e, Wo V 0 m ∧ m.ws.length ≤ 1000
  ap : 0 < x.e.length → ∀ q o, x.A = some ⟨q, o, none⟩ → ¬ FG g a r q
  ty : 0 < x.e.length → ∀ q o, x.A = some ⟨q, o, none⟩ → ∃ cur, Blk V q 43 cur
theorem Ng.below {r : Value} (h : Ng V g a r x) (hb : Below V.heap.size V V') : Ng V' g a r x :=
  ⟨h.row.below hb, h.ok, h.le, fun m hm => ⟨(h.ws m hm).1.below hb, (h.ws m hm).2⟩, h.ap, fun h0 q o ea => (h.ty h0 q o ea).imp fun _ hq => hq.bel hb⟩
/-- Both gates, and the step. -/
structure Pg (w V : World) (g : Nat) (a : Ga) (s : Gs) (k : Nat) (x : Rg) (ks : Nat) (sc : Array Value) : Prop where
  gt : Gt w V g a s
  ng : Ng V g a s.r x
  bx : Blk V k 35 (rgc x)
  ge : w.heap.size ≤ k
  sx : Blk V ks 40 sc
theorem Pg.below (h : Pg w V g a s k x ks sc) (hb : Below V.heap.size V V') : Pg w V' g a s k x ks sc :=
  ⟨h.gt.below hb, h.ng.below hb, h.bx.bel hb, h.ge, h.sx.bel hb⟩
theorem fg_nw {n q : Nat} {r r' : Value} (h : Nw n r r') (hf : ¬ FG g a r q) (hq : q < n) : ¬ FG g a r' q := fun hh => by
  rcases hh with e | e
  · exact off_nw h (fun e' => hf (.inl e')) hq e
  · exact hf (.inr e)
/-- The program's gate has turned. -/
theorem Pg.step (h : Pg w V g a s k x ks sc) (hg : Gt w V' g a s') (ho : Only (FG g a s.r) V V') (hn : Nw V.heap.size s.r s'.r) : Pg w V' g a s' k x ks sc := by
  refine ⟨hg, ⟨only_row h.ng.row ho fun h0 => h.ng.ap (by rw [mvs_len] at h0; omega), h.ng.ok, h.ng.le, fun m hm => ⟨(h.ng.ws m hm).1.only ho fun q cs hq => h.gt.off2 hq (by decide) (by decide) (by decide) (by decide), (h.ng.ws m hm).2⟩, fun h0 q o ea => ?_, fun h0 q o ea => (h.ng.ty h0 q o ea).imp fun _ hq => ho.blk hq (h.ng.ap h0 q o ea)⟩, ho.blk h.bx (h.gt.off2 h.bx (by decide) (by decide) (by decide) (by decide)), h.ge, ho.blk h.sx (h.gt.off2 h.sx (by decide) (by decide) (by decide) (by decide))⟩
  obtain ⟨cur, hq⟩ := h.ng.ty h0 q o ea
  exact fg_nw hn (h.ng.ap h0 q o ea) hq.lt
/-- A block that is none of the gate's by its type turns. -/
theorem Gt.oth (h : Gt w V g a s) {b : Nat} {t : TypeId} {cs : Array Value} (hb : Blk V b t cs) (h1 : t ≠ 94) (h2 : t ≠ 43) (h3 : t ≠ 3) (h4 : t ≠ 73) (h5 : t ≠ 96) (hg : w.heap.size ≤ b) (ho : Only (fun q => q = b) V V') : Gt w V' g a s := by
  obtain ⟨l, d⟩ := h.one hb h1 h2 h3 hg ho
  exact ⟨ho.blk h.bx fun e => h.bx.ne_ hb (Ne.symm h4) e, l, h.st, d, ⟨ho.blk h.bk.blk fun e => h.bk.blk.ne_ hb (Ne.symm h5) e, h.bk.ok⟩, h.bg, h.ge⟩
/-- The document's gate is laid into its box. -/
theorem Pg.put (h : Pg w V g a s k x ks sc) (hn : Ng V g a s.r x') (hb : Blk V' k 35 (rgc x')) (ho : Only (fun q => q = k) V V') : Pg w V' g a s k x' ks sc := by
  refine ⟨h.gt.oth h.bx (by decide) (by decide) (by decide) (by decide) (by decide) h.ge ho, ⟨only_row hn.row ho fun h0 q o ea e => ?_, hn.ok, hn.le, fun m hm => ⟨(hn.ws m hm).1.only ho fun q cs hq e => hq.ne_ h.bx (by decide) e, (hn.ws m hm).2⟩, hn.ap, fun h0 q o ea => ?_⟩, hb, h.ge, ho.blk h.sx fun e => h.sx.ne_ h.bx (by decide) e⟩
  · obtain ⟨cur, hq⟩ := hn.ty (by rw [mvs_len] at h0; omega) q o ea
    exact hq.ne_ h.bx (by decide) e
  · obtain ⟨cur, hq⟩ := hn.ty h0 q o ea
    exact ⟨cur, ho.blk hq fun e => hq.ne_ h.bx (by decide) e⟩
/-- What the document's Offer leaves lies apart, too. -/
theorem Pg.offer (h : Pg w V g a s k x ks sc) {M : Pm} {code : Int} {ask : Bool} {T1 N1 : Int} {m' : MV} (hw : RofW V x M code ask T1 N1 m' x' V') (hl : m'.ws.length ≤ 1000) : Ng V' g a s.r x' := by
  refine ⟨hw.row, hw.ok, hw.le, fun m hm => ?_, fun h0 q o ea => ?_, fun h0 q o ea => ?_⟩
  · have old : ∀ m ∈ x.e, Wo V' 0 m ∧ m.ws.length ≤ 1000 := fun m hm => ⟨(h.ng.ws m hm).1.below hw.bl, (h.ng.ws m hm).2⟩
    rw [hw.e] at hm
    split at hm
    · rcases insL_mem hm with rfl | hm
      · exact ⟨hw.wo.less (Nat.zero_le _), hl⟩
      · exact old m hm
    · exact old m hm
  · rcases hw.ap with ⟨h1, h2⟩ | h1
    · rw [h2] at h0; rw [h1] at ea
      exact h.ng.ap h0 q o ea
    · exact fun hf => by have := h.gt.fg_lt hf; have := (h1 q o ea).1; omega
  · rcases hw.ap with ⟨h1, h2⟩ | h1
    · rw [h2] at h0; rw [h1] at ea
      exact (h.ng.ty h0 q o ea).imp fun _ hq => hq.bel hw.bl
    · exact (h1 q o ea).2
theorem srt_pl {d e : List MV} (h : d.map MV.pl = e.map MV.pl) (hs : SrtL d) : SrtL e := by
  have q : ∀ x : List MV, SrtL x ↔ (x.map MV.pl).Pairwise (fun x y => x.ln ≤ y.ln) := fun x => by
    unfold SrtL
    rw [List.pairwise_map]
    exact Iff.rfl
  rw [q, ← h, ← q]
  exact hs
/-- They tell the same. -/
structure Sg (a : Ga) (s : Gs) (x : Rg) : Prop where
  k : a.k = x.k
  L : a.L = x.L
  P : a.P = x.P
  R : a.R = x.R
  C : a.C = x.C
  T : s.T = x.T
  N : s.N = x.N
  q : s.q = x.q
  pl : s.d.map MV.pl = x.e.map MV.pl
theorem Pg.ok (h : Pg w V g a s k x ks sc) (hs : Sg a s x) (hq : 0 ≤ s.q) : RgOk V x := by
  have h1 := congrArg List.length hs.pl
  rw [List.length_map, List.length_map] at h1
  have h2 := h.gt.st.len
  refine ⟨h.ng.row, h.ng.ok, h.ng.le, by omega, ?_, srt_pl hs.pl h.gt.st.srt, fun l => ?_, ?_, ?_⟩
  · rw [← hs.P]; exact h.gt.st.p8
  · rw [← cnt_pl hs.pl, ← hs.P]; exact h.gt.st.cn l
  · rw [← hs.R, ← hs.C, ← hs.T, ← hs.N]; exact h.gt.bk.ok
  · rw [← hs.q]; exact hq
theorem Sg.code (hs : Sg a s x) (mode lane : Int) (ws : List Int) (r : Int) : oc a s mode lane ws r = roc x mode lane ws r ∧ asks a s mode lane ws = rasks x mode lane ws := by
  have h1 : room a.L a.P s.d lane = room x.L x.P x.e lane := by unfold room; rw [hs.L, hs.P, cnt_pl hs.pl]
  unfold oc roc asks rasks
  rw [hs.k, h1, hs.R, hs.C, hs.T, hs.N]
  exact ⟨rfl, rfl⟩
end Go.Proofs.Ytmfkapbllmfegaa.A12
/- Both gates: after an Offer of both; the document's Take, Sweep, Of, Room on its gate, lifted. -/
namespace Go.Proofs.Ytmfkapbllmfegaa.A12
open Go.RowKit Go.Proofs.Ytmfkapbllmfegaa.G Go.Proofs.Ytmfkapbllmfegaa.L10 Go.Proofs.Ytmfkapbllmfegaa.C04 Go.Sort
set_option maxRecDepth 100000
variable {w V V' : World} {g k ks : Nat} {a : Ga} {s s' : Gs} {x x' : Rg} {sc : Array Value}
theorem add_cut (n z : Int) : Sat.add (Sat.cut n) z = Sat.add n z := by unfold Sat.add; rw [Sat.cut_cut]
/-- What is told of a message that goes on, by both. -/
theorem Sg.pm (hs : Sg a s x) (ws : List Int) (lane now : Int) : A12.pm a ws lane now (s.q + 1) = ⟨ws, lane, Sat.cut now, Sat.add now x.k.li, x.q + 1⟩ := by
  unfold A12.pm
  rw [add_cut, hs.k, hs.q]
theorem Sg.offer (hs : Sg a s x) {w1 w2 w3 : World} {M : Pm} {code : Int} {ask : Bool} {T1 N1 : Int} {m1 m2 : MV} (h1 : OfW w w1 g a s M code ask T1 N1 m1 s' w2) (h2 : RofW V x M code ask T1 N1 m2 x' w3) : Sg a s' x' ∧ m1.pl = m2.pl := by
  refine ⟨⟨by rw [h2.k, hs.k], by rw [h2.L, hs.L], by rw [h2.P, hs.P], by rw [h2.R, hs.R], by rw [h2.C, hs.C], by rw [h1.T, h2.T, hs.T], by rw [h1.N, h2.N, hs.N], by rw [h1.q, h2.q, hs.q], ?_⟩, by rw [h1.mp, h2.mp]⟩
  rw [h1.dp, h2.e]
  by_cases h0 : code = 0
  · rw [if_pos h0, if_pos h0, insL_pl, h2.mp, if_pos h0, hs.pl]
  · rw [if_neg h0, if_neg h0, hs.pl]
/-! ### The document's calls -/
def RtG (V : World) (g : Nat) (a : Ga) (r : Value) (x : Rg) (y : Ending) (V' : World) : Prop := ∃ A' c', y = .returned (.tuple #[rLv x.L x.P (.slice A' (x.e.drop 1).length c'), (x.e.headD z0).val, .bool (!x.e.isEmpty)]) ∧ Ng V' g a r { x with A := A', c := c', e := x.e.drop 1 } ∧ Below V.heap.size V V'
theorem rtake_g {r : Value} (h : Ng V g a r x) (hl : x.e.length ≤ 24) : Calls Try.prog 14 #[.agg #[.int .i64 x.L, .int .i64 x.P, .slice x.A x.e.length x.c]] V (RtG V g a r x) := by
  have key : Calls Try.prog 14 #[.agg #[.int .i64 x.L, .int .i64 x.P, .slice x.A x.e.length x.c]] V (RtPost V x.L x.P x.e x.A x.c) := by
    have hr := h.row
    have hle := h.le
    cases he : x.e with
    | nil => exact rtake_nil (x.L : Int) (x.P : Int) h.ok V
    | cons m t =>
      rw [he] at hr hle hl
      exact rtake_cons (x.L : Int) (x.P : Int) hr hle (by rw [List.length_cons] at *; omega)
  refine key.mono fun y V' ⟨A', c', hx, hr, ha, hle, hok, hb⟩ => ⟨A', c', hx, ⟨hr.below hb, hok, hle, fun y hy => ⟨(h.ws y (List.mem_of_mem_drop hy)).1.below hb, (h.ws y (List.mem_of_mem_drop hy)).2⟩, fun h0 q o ea => ?_, fun h0 q o ea => ?_⟩, hb⟩
  · obtain ⟨o', h2⟩ := ha q o ea
    have h0 : 0 < (x.e.drop 1).length := h0
    rw [List.length_drop] at h0
    exact h.ap (by omega) q o' h2
  · obtain ⟨o', h2⟩ := ha q o ea
    have h0 : 0 < (x.e.drop 1).length := h0
    rw [List.length_drop] at h0
    exact (h.ty (by omega) q o' h2).imp fun _ hq => hq.bel hb
def RsG (V : World) (g : Nat) (a : Ga) (r : Value) (x : Rg) (now : Int) (y : Ending) (V' : World) : Prop := ∃ A' c' A2 c2, y = .returned (.tuple #[rLv x.L x.P (.slice A' (x.e.filter fun m => !late now m.lt).length c'), .slice A2 (x.e.filter fun m => late now m.lt).length c2]) ∧ Ng V' g a r { x with A := A', c := c', e := x.e.filter fun m => !late now m.lt } ∧ Row V' A2 (mvs (x.e.filter fun m => late now m.lt)) ∧ WsR V' (x.e.filter fun m => late now m.lt) ∧ Below V.heap.size V V'
theorem rsweep_g (h : Pg w V g a s k x ks sc) (hl : x.e.length ≤ 24) (now : Int) : Calls Try.prog 16 #[.agg #[.int .i64 x.L, .int .i64 x.P, .slice x.A x.e.length x.c], .int .i64 now] V (RsG V g a s.r x now) := by
  refine (rsweep_any (c := x.c) (x.L : Int) (x.P : Int) h.ng.row (by omega) now).mono fun y V' ⟨A', c', A2, c2, hx, ho, ho2, hb⟩ => ?_
  obtain ⟨A4, c4, e4, z0, z1, _, z2⟩ := ho.row
  injection e4 with e4 _ e5
  subst e4 e5
  obtain ⟨A6, c6, e6, y0, y1, _, y2⟩ := ho2.row
  injection e6 with e6 _ e7
  subst e6 e7
  have hw := fun y (hy : y ∈ x.e) => And.intro ((h.ng.ws y hy).1.below hb) (h.ng.ws y hy).2
  exact ⟨A', c', A2, c2, hx, ⟨z0, own_aok ho, z1, fun y hy => hw y (List.mem_filter.1 hy).1, fun _ q o ea hf => by have := h.gt.fg_lt hf; have := (z2 q o ea).2.1; omega, fun _ q o ea => (z2 q o ea).2.2⟩, y0, fun y hy => (hw y (List.mem_filter.1 hy).1).1.wr, hb⟩
theorem Ng.wr {r : Value} (h : Ng V g a r x) : WsR V x.e := fun m hm => (h.ws m hm).1.wr
theorem rroom_g (h : Pg w V g a s k x ks sc) (hs : Sg a s x) (l : Int) : Calls Try.prog 31 #[.agg #[.int .i64 x.L, .int .i64 x.P, .slice x.A x.e.length x.c], .int .i64 l] V fun y V' => y = .returned (.int .i64 (room a.L a.P s.d l)) ∧ Below V.heap.size V V' := by
  have h1 : room a.L a.P s.d l = room x.L x.P x.e l := by unfold room; rw [hs.L, hs.P, cnt_pl hs.pl]
  have h2 := congrArg List.length hs.pl
  rw [List.length_map, List.length_map] at h2
  have h3 := h.gt.st.len
  rw [h1]
  exact rroom_any h.ng.row (by omega) (by rw [← hs.P]; exact h.gt.st.p8) l
/-! ### Both new -/
theorem Ng.nil_ (V : World) (g : Nat) (a : Ga) (r : Value) {x : Rg} (he : x.e = []) (hA : x.A = none) (hc : x.c = 0) : Ng V g a r x :=
  ⟨by rw [he, hA]; exact Row.none_, .inl ⟨hA, hc⟩, by rw [he]; exact Nat.zero_le _, fun m hm => by rw [he] at hm; exact absurd hm (by simp), fun h0 => by rw [he] at h0; exact absurd h0 (by simp), fun h0 => by rw [he] at h0; exact absurd h0 (by simp)⟩
theorem sg_new {c : Chn} (hf : Fit c a) (hk : x.k = c) (hL : (x.L : Int) = near c.la 3) (hP : (x.P : Int) = near c.d 8) (hR : x.R = K11.rof c.ra) (hC : x.C = K11.cof c.c) (hT : x.T = x.C) (hN : x.N = 0) (hq : x.q = 0) (he : x.e = []) : Sg a (s0 a) x :=
  ⟨by rw [hf.ch, hk], by have := hf.l; omega, by have := hf.p; omega, by rw [hf.r, hR], by rw [hf.c, hC], by rw [hT, hC]; exact hf.c, hN.symm, hq.symm, by rw [he]; rfl⟩
/-- The document's gate in its box, new, beside the program's. -/
theorem pg_new {c : Chn} (hg : Gt w V g a (s0 a)) (hf : Fit c a) (hb : Blk V k 35 (rgc x)) (hge : w.heap.size ≤ k) (hs : Blk V ks 40 sc) (he : x.e = []) (hA : x.A = none) (hc : x.c = 0) : Pg w V g a (s0 a) k x ks sc :=
  ⟨hg, Ng.nil_ V g a _ he hA hc, hb, hge, hs⟩
end Go.Proofs.Ytmfkapbllmfegaa.A12
/- The program's calls and the document's Offer, lifted to both gates. -/
namespace Go.Proofs.Ytmfkapbllmfegaa.A12
open Go.RowKit Go.Proofs.Ytmfkapbllmfegaa.G Go.Proofs.Ytmfkapbllmfegaa.L10 Go.Proofs.Ytmfkapbllmfegaa.C04 Go.Sort
set_option maxRecDepth 100000
variable {w V V' : World} {g k ks : Nat} {a : Ga} {s s' : Gs} {x x' : Rg} {sc : Array Value}
theorem pl_len {m : MV} {code : Int} {ws : List Int} {M : Pm} (h : m.pl = if code = 0 then M else z0.pl) (hM : M.ws = ws) (hl : ws.length ≤ 1000) : m.ws.length ≤ 1000 := by
  have e : m.ws = m.pl.ws := rfl
  rw [e, h]
  split
  · rw [hM]; exact hl
  · exact Nat.zero_le _
theorem offer_pg (h : Pg w V g a s k x ks sc) {A : Option Addr} {ws : List Int} {c : Nat} (mode lane now r : Int) (hr : Ap V g a s.r A (L10.iv ws)) (hc : ws.length ≤ c) (hc2 : c ≤ 9223372036854775807) (hl : ws.length ≤ 1000) (hq0 : 0 ≤ s.q) (hq : s.q ≤ 1000000) :
    Calls Try.prog 12 #[.pointer (some ⟨g, 0, none⟩), .int .i64 mode, .int .i64 lane, .slice A ws.length c, .int .i64 now, .int .i64 r] V fun e V' => ∃ m' s', e = .returned (.tuple #[m'.val, .int .i64 (oc a s mode lane ws r)]) ∧ OfW w V g a s (pm a ws lane now (s.q + 1)) (oc a s mode lane ws r) (asks a s mode lane ws) (K11.ctok a.R a.C s.T s.N r) (K11.crnd s.N r) m' s' V' ∧ Pg w V' g a s' k x ks sc :=
  (offer_any h.gt mode lane now r hr hc hc2 hl hq0 hq).mono fun _ _ ⟨m', s', he, ho⟩ => ⟨m', s', he, ho, h.step ho.gt ho.on ho.nw⟩
/-- The document's Offer, ahead of the program's: told by the program's words. -/
theorem roffer_pg (h : Pg w V g a s k x ks sc) (hs : Sg a s x) {A : Option Addr} {ws : List Int} {c : Nat} (mode lane now r : Int) (hr : Row V A (L10.iv ws)) (hl : ws.length ≤ 1000) (hq0 : 0 ≤ s.q) (hq : s.q ≤ 1000000) :
    Calls Try.prog 10 #[rgv x, .int .i64 mode, .int .i64 lane, .slice A ws.length c, .int .i64 now, .int .i64 r] V fun e V' => ∃ m' x', e = .returned (.tuple #[rgv x', m'.val, .int .i64 (oc a s mode lane ws r)]) ∧ RofW V x (pm a ws lane now (s.q + 1)) (oc a s mode lane ws r) (asks a s mode lane ws) (K11.ctok a.R a.C s.T s.N r) (K11.crnd s.N r) m' x' V' ∧ Ng V' g a s.r x' := by
  have h0 := roffer_any (h.ok hs hq0) (c := c) mode lane now r hr hl (by rw [← hs.q]; exact hq)
  rw [← (hs.code mode lane ws r).1, ← (hs.code mode lane ws r).2, ← hs.pm ws lane now, ← hs.R, ← hs.C, ← hs.T, ← hs.N] at h0
  exact h0.mono fun _ _ ⟨m', x', he, ho⟩ => ⟨m', x', he, ho, h.offer ho (pl_len ho.mp rfl hl)⟩
def TkG (w V : World) (g : Nat) (a : Ga) (s : Gs) (k : Nat) (x : Rg) (ks : Nat) (sc : Array Value) (e : Ending) (V' : World) : Prop := ∃ r', e = .returned (.tuple #[(s.d.headD z0).val, .bool (!s.d.isEmpty)]) ∧ Wo V' 0 (s.d.headD z0) ∧ Pg w V' g a ⟨r', s.d.drop 1, s.T, s.N, s.q⟩ k x ks sc
theorem take_pg (h : Pg w V g a s k x ks sc) : Calls Try.prog 15 #[.pointer (some ⟨g, 0, none⟩)] V (TkG w V g a s k x ks sc) :=
  (take_any h.gt).mono fun _ _ ⟨r', he, ho⟩ => ⟨r', he, ho.wo, h.step ho.gt ho.on (.inr ho.fr)⟩
def OuG (w : World) (g : Nat) (a : Ga) (s : Gs) (gone stay : List MV) (k : Nat) (x : Rg) (ks : Nat) (sc : Array Value) (e : Ending) (V' : World) : Prop := ∃ A c r', e = .returned (.slice A gone.length c) ∧ Row V' A (mvs gone) ∧ WsR V' gone ∧ Pg w V' g a ⟨r', stay, s.T, s.N, s.q⟩ k x ks sc
theorem sweep_pg (h : Pg w V g a s k x ks sc) (n : Int) : Calls Try.prog 18 #[.pointer (some ⟨g, 0, none⟩), .int .i64 n] V (OuG w g a s (s.d.filter fun m => late n m.lt) (s.d.filter fun m => !late n m.lt) k x ks sc) :=
  (sweep_any h.gt n).mono fun _ _ ⟨A, c, r', he, hr, hw, hg, ho, hn⟩ => ⟨A, c, r', he, hr, hw, h.step hg ho hn⟩
theorem flush_pg (h : Pg w V g a s k x ks sc) : Calls Try.prog 19 #[.pointer (some ⟨g, 0, none⟩)] V (OuG w g a s s.d [] k x ks sc) :=
  (flush_any h.gt).mono fun _ _ ⟨A, c, r', he, hr, hw, hg, ho, hn⟩ => ⟨A, c, r', he, hr, hw, h.step hg ho hn⟩
/-- The bucket is told to come up to a round, by the program. -/
theorem tokens_pg (h : Pg w V g a s k x ks sc) (r : Int) : Calls Try.prog 23 #[.pointer (some ⟨g, 0, none⟩), .int .i64 r] V fun e V' => e = .returned (.int .i64 (K11.ctok a.R a.C s.T s.N r)) ∧ Pg w V' g a ⟨s.r, s.d, K11.ctok a.R a.C s.T s.N r, K11.crnd s.N r, s.q⟩ k x ks sc :=
  (tokens_any h.gt r).mono fun _ _ ⟨he, hg, ho⟩ => ⟨he, h.step hg ho (.inl rfl)⟩
end Go.Proofs.Ytmfkapbllmfegaa.A12
/- Both gates: the check behind each step. -/
namespace Go.Proofs.Ytmfkapbllmfegaa.A12
open Go.RowKit Go.Proofs.Ytmfkapbllmfegaa.G Go.Proofs.Ytmfkapbllmfegaa.L10 Go.Proofs.Ytmfkapbllmfegaa.C04 Go.Sort
set_option maxRecDepth 100000
variable {w V V' : World} {g k ks : Nat} {a : Ga} {s s' : Gs} {x x' : Rg} {sc : Array Value}
/-- The tokens of the round that the bucket knows: nothing turns. -/
theorem tokens_same (h : Pg w V g a s k x ks sc) (hs : Sg a s x) : Calls Try.prog 23 #[.pointer (some ⟨g, 0, none⟩), .int .i64 x.N] V fun e V' => e = .returned (.int .i64 x.T) ∧ Pg w V' g a s k x ks sc := by
  have hok := h.gt.bk.ok
  have hc : Sat.cut x.N ≤ s.N := by
    rw [← hs.N]
    unfold Sat.cut Sat.wit
    have := hok.n0
    split
    · omega
    · split <;> omega
  obtain ⟨h1, h2⟩ := K11.come_same hok hc
  have h0 := tokens_pg h x.N
  rw [h1, h2, hs.T] at h0
  refine h0.mono fun e V' ⟨he, hp⟩ => ⟨he, ?_⟩
  have e : (⟨s.r, s.d, x.T, s.N, s.q⟩ : Gs) = s := by rw [← hs.T]
  rw [e] at hp
  exact hp
/-- Lists that tell the same, by the document's Same. -/
theorem rsame_g {A : Option Addr} {c : Nat} {l : List MV} {r : Value} (hr : Row V A (mvs l)) (hw : WsR V l) (hn : Ng V g a r x) (hp : l.map MV.pl = x.e.map MV.pl) (hl : l.length ≤ 1000) : Calls Try.prog 17 #[.slice A l.length c, .slice x.A x.e.length x.c] V fun y V' => y = .returned (.bool true) ∧ Below V.heap.size V V' := by
  have h1 := congrArg List.length hp
  rw [List.length_map, List.length_map] at h1
  have hs : sames l x.e = true := decide_eq_true hp
  have := rsame_any (c := c) (d := x.c) hr hn.row hw hn.wr hl (by omega)
  rw [hs] at this
  exact this
/-- The document's list is laid aside: a flush. -/
theorem Pg.nil (h : Pg w V g a s k x ks sc) : Pg w (V.setCell ⟨k, 13, none⟩ (.slice none 0 0)) g a s k { x with A := none, c := 0, e := [] } ks sc :=
  h.put ((Ng.nil_ V g a s.r (x := { x with A := none, c := 0, e := [] }) rfl rfl rfl)) (h.bx.set_ 13 (.slice none 0 0)) ((Only.refl (fun q => q = k) V).set_ (.inl rfl) 13 _)
end Go.Proofs.Ytmfkapbllmfegaa.A12
