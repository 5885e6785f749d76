/- The document's own Lanes in their box, beside the program's Lanes: what stays, and each call of both, lifted. -/
import Derived.Test.YtfbbgoahipejlaaQL6
namespace Go.Proofs.Ytfbbgoahipejlaa.L10
open Go.RowKit Go.Proofs.Ytfbbgoahipejlaa.G Go.Sort
set_option maxRecDepth 100000
variable {w V V' : World} {b L P g ks : Nat} {r r' : Value} {d e : List MV} {A : Option Addr} {c : Nat} {sc : Array Value}
theorem Only.row {F : Nat → Prop} {xs : List Value} (h : Row V A xs) (k : Only F V V') (hn : 0 < xs.length → ∀ q o, A = some ⟨q, o, none⟩ → ¬ F q) : Row V' A xs := fun h0 => by
  obtain ⟨q, o, ea, hq, hc⟩ := h h0
  refine ⟨q, o, ea, Nat.lt_of_lt_of_le hq k.size, fun j u hj => ?_⟩
  have := hc j u hj
  unfold World.cell? at this ⊢
  rw [k.block q hq (hn h0 q o ea)]
  exact this
theorem row_lt (h : Row V A (mvs e)) (h0 : 0 < e.length) {q o : Nat} (ha : A = some ⟨q, o, none⟩) : q < V.heap.size := by
  obtain ⟨q', o', ea, hq, _⟩ := h (by rw [mvs_len]; omega)
  rw [ha] at ea; injection ea with ea; injection ea with e1 _
  omega
/-- A row that may be the document's: its messages' words were there at first; where it lies, neither the program's Lanes nor the box lie. -/
structure NR (w V : World) (b : Nat) (r : Value) (g : Nat) (A : Option Addr) (c : Nat) (e : List MV) : Prop where
  row : Row V A (mvs e)
  ok : AOk A c
  le : e.length ≤ c
  ws : ∀ m ∈ e, Wr w m ∧ m.ws.length ≤ 1000
  ap : 0 < e.length → ∀ q o, A = some ⟨q, o, none⟩ → ¬ FL b r q ∧ q ≠ g
  ty : 0 < e.length → ∀ q o, A = some ⟨q, o, none⟩ → ∃ cur, Blk V q 58 cur
theorem NR.below (h : NR w V b r g A c e) (hb : Below V.heap.size V V') : NR w V' b r g A c e := ⟨h.row.below hb, h.ok, h.le, h.ws, h.ap, fun h0 q o ea => (h.ty h0 q o ea).imp fun _ hq => hq.bel hb⟩
/-- Both Lanes, and the step. -/
structure PQ (w V : World) (b : Nat) (r : Value) (d : List MV) (g L P : Nat) (A : Option Addr) (c : Nat) (e : List MV) (ks : Nat) (sc : Array Value) : Prop where
  lv : Lv w V b L P r d
  st : St L P d
  wd : Wd V d
  nr : NR w V b r g A c e
  bx : Blk V g 53 #[.int .i64 L, .int .i64 P, .slice A e.length c]
  ge : w.heap.size ≤ g
  sx : Blk V ks 60 sc
  pl : d.map MV.pl = e.map MV.pl
/-- Both, where they may tell different things. -/
structure PH (w V : World) (b : Nat) (r : Value) (d : List MV) (g L P : Nat) (A : Option Addr) (c : Nat) (e : List MV) (ks : Nat) (sc : Array Value) : Prop where
  lv : Lv w V b L P r d
  st : St L P d
  wd : Wd V d
  nr : NR w V b r g A c e
  bx : Blk V g 53 #[.int .i64 L, .int .i64 P, .slice A e.length c]
  ge : w.heap.size ≤ g
  sx : Blk V ks 60 sc
theorem PQ.ph (h : PQ w V b r d g L P A c e ks sc) : PH w V b r d g L P A c e ks sc := ⟨h.lv, h.st, h.wd, h.nr, h.bx, h.ge, h.sx⟩
theorem PH.pq (h : PH w V b r d g L P A c e ks sc) (hp : d.map MV.pl = e.map MV.pl) : PQ w V b r d g L P A c e ks sc := ⟨h.lv, h.st, h.wd, h.nr, h.bx, h.ge, h.sx, hp⟩
theorem PH.below (h : PH w V b r d g L P A c e ks sc) (hb : Below V.heap.size V V') : PH w V' b r d g L P A c e ks sc :=
  ⟨h.lv.below hb, h.st, h.wd.below hb, h.nr.below hb, h.bx.bel hb, h.ge, h.sx.bel hb⟩
theorem PQ.below (h : PQ w V b r d g L P A c e ks sc) (hb : Below V.heap.size V V') : PQ w V' b r d g L P A c e ks sc := (h.ph.below hb).pq h.pl
/-- What the program's step turns. -/
structure Stp (V V' : World) (b : Nat) (r r' : Value) : Prop where
  on : Only (FL b r) V V'
  nw : Nw V.heap.size r r'
theorem Stp.keep (h : Stp V V' b r r') {k : Nat} {t : TypeId} {cs : Array Value} (hk : Blk V k t cs) (hf : ¬ FL b r k) : Blk V' k t cs ∧ ¬ FL b r' k :=
  ⟨h.on.blk hk hf, off_nw h.nw hf hk.lt⟩
theorem NR.step (h : NR w V b r g A c e) (ho : Stp V V' b r r') : NR w V' b r' g A c e :=
  ⟨Only.row h.row ho.on fun h0 q o ea => (h.ap (by rw [mvs_len] at h0; omega) q o ea).1, h.ok, h.le, h.ws, fun h0 q o ea => ⟨off_nw ho.nw (h.ap h0 q o ea).1 (row_lt h.row h0 ea), (h.ap h0 q o ea).2⟩, fun h0 q o ea => (h.ty h0 q o ea).imp fun _ hq => (ho.keep hq (h.ap h0 q o ea).1).1⟩
theorem PH.step {d' : List MV} (h : PH w V b r d g L P A c e ks sc) (hl : Ln V' b L P r' d') (hs : St L P d') (hw : Wd V' d') (ho : Stp V V' b r r') : PH w V' b r' d' g L P A c e ks sc := by
  have hg := ho.keep h.bx (h.lv.ln.off h.bx (by decide) (by decide))
  have hk := ho.keep h.sx (h.lv.ln.off h.sx (by decide) (by decide))
  exact ⟨h.lv.step hl ho.on ho.nw, hs, hw, h.nr.step ho, hg.1, h.ge, hk.1⟩
/-- A block that is new is neither's. -/
theorem PH.new_ap (h : PH w V b r d g L P A c e ks sc) {q : Nat} (hq : V.heap.size ≤ q) : ¬ FL b r q ∧ q ≠ g := by
  refine ⟨fun hf => ?_, fun he => ?_⟩
  · have := h.lv.ln.lts q hf; omega
  · have := h.bx.lt; omega
/-- The box is stored to. -/
theorem PH.one (h : PH w V b r d g L P A c e ks sc) (i : Nat) (u : Value) : Lv w (V.setCell ⟨g, i, none⟩ u) b L P r d ∧ Wd (V.setCell ⟨g, i, none⟩ u) d ∧ Blk (V.setCell ⟨g, i, none⟩ u) ks 60 sc := by
  have on : Only (fun q => q = g) V (V.setCell ⟨g, i, none⟩ u) := (Only.refl (fun q => q = g) V).set_ (.inl rfl) i u
  refine ⟨h.lv.other on fun q hq => ?_, h.wd.only on fun q cs hq e => Blk.ne_ hq h.bx (by decide) e, h.sx.far (p := ⟨g, i, none⟩) (h.sx.ne_ h.bx (by decide)) u⟩
  have e' : q = g := hq
  subst e'
  exact ⟨h.lv.ln.off h.bx (by decide) (by decide), h.ge⟩
theorem NR.far {A' : Option Addr} {c' : Nat} {e' : List MV} (h : NR w V b r g A' c' e') (i : Nat) (u : Value) : NR w (V.setCell ⟨g, i, none⟩ u) b r g A' c' e' :=
  ⟨fun h0 => (h.row.far (p := ⟨g, i, none⟩) (fun q o ea => (h.ap (by rw [mvs_len] at h0; omega) q o ea).2) u) h0, h.ok, h.le, h.ws, h.ap, fun h0 q o ea => (h.ty h0 q o ea).imp fun _ hq => hq.far (p := ⟨g, i, none⟩) (h.ap h0 q o ea).2 u⟩
/-- Another box of the document's is stored to. -/
theorem NR.box {k : Nat} {cs : Array Value} (h : NR w V b r g A c e) (hk : Blk V k 53 cs) (i : Nat) (u : Value) : NR w (V.setCell ⟨k, i, none⟩ u) b r g A c e := by
  have hne : 0 < e.length → ∀ q o, A = some ⟨q, o, none⟩ → q ≠ k := fun h0 q o ea => by
    obtain ⟨cur, hq⟩ := h.ty h0 q o ea
    exact hq.ne_ hk (by decide)
  exact ⟨fun h0 => (h.row.far (p := ⟨k, i, none⟩) (hne (by rw [mvs_len] at h0; omega)) u) h0, h.ok, h.le, h.ws, h.ap, fun h0 q o ea => (h.ty h0 q o ea).imp fun _ hq => hq.far (p := ⟨k, i, none⟩) (hne h0 q o ea) u⟩
theorem PH.put2 {A' : Option Addr} {c' : Nat} {e' : List MV} (h : PH w V b r d g L P A c e ks sc) (hn : NR w V b r g A' c' e') : PH w (V.setCell ⟨g, 2, none⟩ (.slice A' e'.length c')) b r d g L P A' c' e' ks sc :=
  ⟨(h.one 2 _).1, h.st, (h.one 2 _).2.1, hn.far 2 _, h.bx.set_ 2 _, h.ge, (h.one 2 _).2.2⟩
theorem PH.put {A' : Option Addr} {c' : Nat} {e' : List MV} (h : PH w V b r d g L P A c e ks sc) (hn : NR w V b r g A' c' e') : PH w (((V.setCell ⟨g, 0, none⟩ (.int .i64 L)).setCell ⟨g, 1, none⟩ (.int .i64 P)).setCell ⟨g, 2, none⟩ (.slice A' e'.length c')) b r d g L P A' c' e' ks sc := by
  have h0 : PH w (V.setCell ⟨g, 0, none⟩ (.int .i64 L)) b r d g L P A c e ks sc := ⟨(h.one 0 _).1, h.st, (h.one 0 _).2.1, h.nr.far 0 _, h.bx.set_ 0 _, h.ge, (h.one 0 _).2.2⟩
  have h1 : PH w ((V.setCell ⟨g, 0, none⟩ (.int .i64 L)).setCell ⟨g, 1, none⟩ (.int .i64 P)) b r d g L P A c e ks sc := ⟨(h0.one 1 _).1, h.st, (h0.one 1 _).2.1, h0.nr.far 1 _, h0.bx.set_ 1 _, h.ge, (h0.one 1 _).2.2⟩
  exact h1.put2 ((hn.far 0 _).far 1 _)
theorem PH.wr (h : PH w V b r d g L P A c e ks sc) : ∀ m ∈ e, Wr V m ∧ m.ws.length ≤ 1000 := fun m hm => ⟨(h.nr.ws m hm).1.below h.lv.bl, (h.nr.ws m hm).2⟩
theorem PQ.len (h : PQ w V b r d g L P A c e ks sc) : e.length = d.length ∧ d.length ≤ 24 := by
  have h1 := congrArg List.length h.pl
  rw [List.length_map, List.length_map] at h1
  exact ⟨h1.symm, h.st.len⟩
theorem srt_pl {d e : List MV} (h : d.map MV.pl = e.map MV.pl) (hs : SrtL d) : SrtL e := by
  have q : ∀ x : List MV, SrtL x ↔ (x.map MV.pl).Pairwise (fun x y => x.ln ≤ y.ln) := fun x => by
    unfold SrtL
    rw [List.pairwise_map]
    exact Iff.rfl
  rw [q, ← h, ← q]
  exact hs
/-! ### The document's calls -/
def RpP (w V : World) (b : Nat) (r : Value) (d : List MV) (g L P : Nat) (m : MV) (x : Ending) (V' : World) : Prop := ∃ A' c' e', x = .returned (.tuple #[rLv L P (.slice A' e'.length c'), .int .i64 (pcode L P d m.ln)]) ∧ NR w V' b r g A' c' e' ∧ e'.map MV.pl = putP L P d m ∧ Below V.heap.size V V'
theorem rput_p (h : PQ w V b r d g L P A c e ks sc) {m : MV} (hm : Wr w m) (hml : m.ws.length ≤ 1000) : Calls Try.prog 30 #[.agg #[.int .i64 L, .int .i64 P, .slice A e.length c], m.val] V (RpP w V b r d g L P m) := by
  have hl := h.len
  have hpc := pcode_pl (L := L) (P := P) h.pl m.ln
  have hpp := putP_pl (L := L) (P := P) h.pl m
  have key : Calls Try.prog 30 #[.agg #[.int .i64 L, .int .i64 P, .slice A e.length c], m.val] V (RpPost V L P e m A) := by
    cases hi : isL L m.ln with
    | false => exact rput_no h.nr.row h.nr.ok h.nr.le hi
    | true =>
      have hcn : cnt e m.ln ≤ P := by rw [← cnt_pl h.pl]; exact h.st.cn m.ln
      by_cases hf : cnt e m.ln < P
      · exact rput_ok h.nr.row h.nr.ok h.nr.le (by omega) h.st.p8 (srt_pl h.pl h.st.srt) hi hf
      · exact rput_full h.nr.row h.nr.ok h.nr.le (by omega) h.st.p8 hi (by omega)
  refine key.mono fun x V' ⟨A', c', e', hx, hr, ha, hle, hok, he, hb⟩ => ⟨A', c', e', by rw [hpc]; exact hx, ⟨hr, hok, hle, fun y hy => ?_, fun h0 q o ea => ?_, fun h0 q o ea => ?_⟩, ?_, hb⟩
  · rw [he] at hy
    split at hy
    · rcases insL_mem hy with rfl | hy
      · exact ⟨hm, hml⟩
      · exact h.nr.ws y hy
    · exact h.nr.ws y hy
  · rcases ha q o ea with ⟨h1, _⟩ | ⟨h1, o', h2⟩
    · exact h.ph.new_ap h1
    · rw [h1] at h0
      exact h.nr.ap h0 q o' h2
  · rcases ha q o ea with ⟨_, h1⟩ | ⟨h1, o', h2⟩
    · exact h1
    · rw [h1] at h0
      exact (h.nr.ty h0 q o' h2).imp fun _ hq => hq.bel hb
  · rw [hpp]
    unfold putP
    rw [he]
    split
    · exact insL_pl e m
    · rfl
def RtP (w V : World) (b : Nat) (r : Value) (e : List MV) (g L P : Nat) (x : Ending) (V' : World) : Prop := ∃ A' c', x = .returned (.tuple #[rLv L P (.slice A' (e.drop 1).length c'), (e.headD z0).val, .bool (!e.isEmpty)]) ∧ NR w V' b r g A' c' (e.drop 1) ∧ Below V.heap.size V V'
theorem rtake_p (h : PQ w V b r d g L P A c e ks sc) : Calls Try.prog 33 #[.agg #[.int .i64 L, .int .i64 P, .slice A e.length c]] V (RtP w V b r e g L P) := by
  have hl := h.len
  have key : Calls Try.prog 33 #[.agg #[.int .i64 L, .int .i64 P, .slice A e.length c]] V (RtPost V L P e A c) := by
    cases he : e with
    | nil => exact rtake_nil (L : Int) (P : Int) h.nr.ok V
    | cons m t =>
      have hr := h.nr.row
      have hle := h.nr.le
      rw [he] at hr hle
      rw [he] at hl
      exact rtake_cons (L : Int) (P : Int) hr hle (by have := hl.1; have := hl.2; rw [List.length_cons] at *; omega)
  refine key.mono fun x V' ⟨A', c', hx, hr, ha, hle, hok, hb⟩ => ⟨A', c', hx, ⟨hr.below hb, hok, hle, fun y hy => h.nr.ws y (List.mem_of_mem_drop hy), fun h0 q o ea => ?_, fun h0 q o ea => ?_⟩, hb⟩
  · obtain ⟨o', h2⟩ := ha q o ea
    rw [List.length_drop] at h0
    exact h.nr.ap (by omega) q o' h2
  · obtain ⟨o', h2⟩ := ha q o ea
    rw [List.length_drop] at h0
    exact (h.nr.ty (by omega) q o' h2).imp fun _ hq => hq.bel hb
def RsP (w V : World) (b : Nat) (r : Value) (e : List MV) (g L P : Nat) (now : Int) (x : Ending) (V' : World) : Prop := ∃ A' c' A2 c2, x = .returned (.tuple #[rLv L P (.slice A' (e.filter fun m => !late now m.lt).length c'), .slice A2 (e.filter fun m => late now m.lt).length c2]) ∧ NR w V' b r g A' c' (e.filter fun m => !late now m.lt) ∧ NR w V' b r g A2 c2 (e.filter fun m => late now m.lt) ∧ Below V.heap.size V V'
theorem rsweep_p (h : PQ w V b r d g L P A c e ks sc) (now : Int) : Calls Try.prog 37 #[.agg #[.int .i64 L, .int .i64 P, .slice A e.length c], .int .i64 now] V (RsP w V b r e g L P now) := by
  have hl := h.len
  refine (rsweep_any (c := c) (L : Int) (P : Int) h.nr.row (by omega) now).mono fun x V' ⟨A', c', A2, c2, hx, ho, ho2, hb⟩ => ?_
  obtain ⟨A4, c4, e4, z0, z1, _, z2⟩ := ho.row
  injection e4 with e4 _ e5
  subst e4 e5
  obtain ⟨A6, c6, e6, y0, y1, _, y2⟩ := ho2.row
  injection e6 with e6 _ e7
  subst e6 e7
  exact ⟨A', c', A2, c2, hx, ⟨z0, own_aok ho, z1, fun y hy => h.nr.ws y (List.mem_filter.1 hy).1, fun _ q o ea => h.ph.new_ap (z2 q o ea).2.1, fun _ q o ea => (z2 q o ea).2.2⟩, ⟨y0, own_aok ho2, y1, fun y hy => h.nr.ws y (List.mem_filter.1 hy).1, fun _ q o ea => h.ph.new_ap (y2 q o ea).2.1, fun _ q o ea => (y2 q o ea).2.2⟩, hb⟩
theorem room_pl {d e : List MV} (h : d.map MV.pl = e.map MV.pl) (k : Int) : room L P d k = room L P e k := by unfold room; rw [cnt_pl h]
theorem rroom_p (h : PQ w V b r d g L P A c e ks sc) (k : Int) : Calls Try.prog 44 #[.agg #[.int .i64 L, .int .i64 P, .slice A e.length c], .int .i64 k] V fun x V' => x = .returned (.int .i64 (room L P d k)) ∧ Below V.heap.size V V' := by
  rw [room_pl h.pl]
  exact rroom_any h.nr.row (by have := h.len; omega) h.st.p8 k
def LsP (V : World) (l0 : List Pm) (x : Ending) (V' : World) : Prop := ∃ A' c' l, x = .returned (.slice A' l.length c') ∧ Row V' A' (mvs l) ∧ WsR V' l ∧ l.map MV.pl = l0 ∧ Below V.heap.size V V'
theorem rof_p (h : PQ w V b r d g L P A c e ks sc) (k : Int) : Calls Try.prog 46 #[.agg #[.int .i64 L, .int .i64 P, .slice A e.length c], .int .i64 k] V (LsP V ((e.map MV.pl).filter fun m => m.ln == k)) := by
  refine (rof_any (c := c) (L : Int) (P : Int) h.nr.row (by have := h.len; omega) k).mono fun x V' ⟨A', c', hx, ho, hb⟩ => ?_
  obtain ⟨A4, c4, e4, z0, _⟩ := ho.row
  injection e4 with e4 _ e5
  subst e4 e5
  refine ⟨A', c', _, hx, z0, fun m hm => (h.ph.wr m (List.mem_filter.1 hm).1).1.below hb, ?_, hb⟩
  rw [List.filter_map]
  rfl
/-! ### The program's calls -/
theorem put_ph {A' : Option Addr} {c' : Nat} {e' : List MV} (h : PH w V b r d g L P A' c' e' ks sc) {m : MV} (hm : Wr V m) (hml : m.ws.length ≤ 1000) : Calls Try.prog 32 #[.pointer (some ⟨b, 0, none⟩), m.val] V fun x V' => ∃ r' d', x = .returned (.int .i64 (pcode L P d m.ln)) ∧ PH w V' b r' d' g L P A' c' e' ks sc ∧ d'.map MV.pl = putP L P d m :=
  (putp_any h.lv.ln h.st hm hml).mono fun _ _ ⟨r', d', hx, hp, hd⟩ => ⟨r', d', hx, h.step hp.ln hp.st (hp.wd h.wd) ⟨hp.on, hp.nw⟩, hd⟩
theorem sub_st {d' : List MV} (hs : St L P d) (h : d'.Sublist d) : St L P d' := ⟨hs.l3, hs.p8, hs.srt.sublist h, fun x hx => hs.ln x (h.subset hx), fun k => Nat.le_trans (h.filter _).length_le (hs.cn k)⟩
theorem stp_of (h : Only (fun q => q = b) V V') (hn : ∀ q, r'.ownBlock = some q → V.heap.size ≤ q) : Stp V V' b r r' := ⟨h.mono fun _ hk => .inl hk, .inr hn⟩
def TkP (w V : World) (b : Nat) (r : Value) (d : List MV) (g L P : Nat) (A : Option Addr) (c : Nat) (e : List MV) (ks : Nat) (sc : Array Value) (x : Ending) (V' : World) : Prop := ∃ r', x = .returned (.tuple #[(d.headD z0).val, .bool (!d.isEmpty)]) ∧ PH w V' b r' (d.drop 1) g L P A c e ks sc ∧ Stp V V' b r r' ∧ Wr V' (d.headD z0)
theorem take_ph (h : PH w V b r d g L P A c e ks sc) : Calls Try.prog 35 #[.pointer (some ⟨b, 0, none⟩)] V (TkP w V b r d g L P A c e ks sc) := by
  have h24 := h.st.len
  refine (take_any h.lv.ln (by omega)).mono fun x V' ⟨r', hx, hl, hn, ho⟩ => ⟨r', hx, h.step hl (sub_st h.st (List.drop_sublist 1 d)) ((h.wd.sub fun y hy => List.mem_of_mem_drop hy).only ho fun q cs hq e => h.lv.ln.no_int q cs hq (.inl e)) (stp_of ho hn), stp_of ho hn, ?_⟩
  cases d with
  | nil => exact ⟨Row.none_, Nat.le_refl _, by decide⟩
  | cons m t => exact ((h.wd m (List.mem_cons_self ..)).1.only ho fun q cs hq e => h.lv.ln.no_int q cs hq (.inl e)).wr
def PkP (V : World) (d : List MV) (x : Ending) (V' : World) : Prop := ∃ m : MV, x = .returned (.tuple #[m.val, .bool (!d.isEmpty)]) ∧ m.pl = (d.headD z0).pl ∧ Wo V' V.heap.size m ∧ Below V.heap.size V V'
theorem peek_ph (h : PH w V b r d g L P A c e ks sc) : Calls Try.prog 34 #[.pointer (some ⟨b, 0, none⟩)] V (PkP V d) := by
  have h24 := h.st.len
  exact (peek_any h.lv.ln h.wd.ws (by omega)).mono fun x V' ⟨m, hx, hm, hw, hb⟩ => ⟨m, hx, hm, hw, hb⟩
def OuP (w V : World) (b : Nat) (r : Value) (gone stay : List MV) (g L P : Nat) (A : Option Addr) (c : Nat) (e : List MV) (ks : Nat) (sc : Array Value) (x : Ending) (V' : World) : Prop := ∃ A' c' r', x = .returned (.slice A' gone.length c') ∧ Row V' A' (mvs gone) ∧ WsR V' gone ∧ PH w V' b r' stay g L P A c e ks sc ∧ Stp V V' b r r'
theorem outs_ph {gone stay : List MV} (h : PH w V b r d g L P A c e ks sc) (hg : gone.Sublist d) (hs : stay.Sublist d) {x : Ending} (hx : OutsPost V b L P gone stay x V') : OuP w V b r gone stay g L P A c e ks sc x V' := by
  obtain ⟨v, r', rfl, ho⟩ := hx
  obtain ⟨A', c', rfl, z0, _⟩ := ho.og.row
  have hw := fun y (hy : y ∈ gone) => (h.wd.sub (d' := gone) (fun y hy => hg.subset hy)).only ho.on (fun q cs hq e => h.lv.ln.no_int q cs hq (.inl e)) y hy
  exact ⟨A', c', r', rfl, z0, fun y hy => (hw y hy).1.wr, h.step ho.ln (sub_st h.st hs) ((h.wd.sub fun y hy => hs.subset hy).only ho.on fun q cs hq e => h.lv.ln.no_int q cs hq (.inl e)) (stp_of ho.on ho.fr), stp_of ho.on ho.fr⟩
theorem sweep_ph (h : PH w V b r d g L P A c e ks sc) (n : Int) : Calls Try.prog 39 #[.pointer (some ⟨b, 0, none⟩), .int .i64 n] V (OuP w V b r (d.filter fun m => late n m.lt) (d.filter fun m => !late n m.lt) g L P A c e ks sc) := by
  have h24 := h.st.len
  exact (sweep_any h.lv.ln (by omega) n).mono fun x V' hx => outs_ph h List.filter_sublist List.filter_sublist hx
theorem flush_ph (h : PH w V b r d g L P A c e ks sc) : Calls Try.prog 40 #[.pointer (some ⟨b, 0, none⟩)] V (OuP w V b r d [] g L P A c e ks sc) := by
  have h24 := h.st.len
  exact (flush_any h.lv.ln (by omega)).mono fun x V' hx => outs_ph h (List.Sublist.refl _) (List.nil_sublist _) hx
theorem ls_p {l0 : List MV} {x : Ending} (h : LsPost l0 V x V') : LsP V (l0.map MV.pl) x V' := by
  obtain ⟨v, l, rfl, hm, hp, hb⟩ := h
  obtain ⟨A', c', rfl, z0, _⟩ := hm.own.row
  exact ⟨A', c', l, rfl, z0, fun y hy => (hm.ws y hy).wr, hp, hb⟩
theorem all_p (h : PH w V b r d g L P A c e ks sc) : Calls Try.prog 42 #[.pointer (some ⟨b, 0, none⟩)] V (LsP V (d.map MV.pl)) := by
  have h24 := h.st.len
  exact (all_any h.lv.ln h.wd.ws (by omega)).mono fun x V' hx => ls_p hx
theorem of_p (h : PH w V b r d g L P A c e ks sc) (k : Int) : Calls Try.prog 45 #[.pointer (some ⟨b, 0, none⟩), .int .i64 k] V (LsP V ((d.map MV.pl).filter fun m => m.ln == k)) := by
  have h24 := h.st.len
  refine (of_any h.lv.ln h.wd.ws (by omega) k).mono fun x V' hx => ?_
  have := ls_p hx
  rw [List.filter_map]
  exact this
theorem room_p (h : PH w V b r d g L P A c e ks sc) (k : Int) : Calls Try.prog 43 #[.pointer (some ⟨b, 0, none⟩), .int .i64 k] V fun x V' => x = .returned (.int .i64 (room L P d k)) ∧ Below V.heap.size V V' := by
  have h24 := h.st.len
  exact room_any h.lv.ln k h.st.p8 (by omega)
/-- The document's Same of lists that tell the same. -/
theorem rsame_p {A B : Option Addr} {c d : Nat} {l r : List MV} (ha : Row V A (mvs l)) (hb : Row V B (mvs r)) (wl : WsR V l) (wr' : WsR V r) (hp : l.map MV.pl = r.map MV.pl) (hl : l.length ≤ 1000) : Calls Try.prog 38 #[.slice A l.length c, .slice B r.length d] V fun x V' => x = .returned (.bool true) ∧ Below V.heap.size V V' := by
  have h1 := congrArg List.length hp
  rw [List.length_map, List.length_map] at h1
  have hs : sames l r = true := decide_eq_true hp
  have := rsame_any (c := c) (d := d) ha hb wl wr' hl (by omega)
  rw [hs] at this
  exact this
theorem ron_p {x y : MV} (hx : Wr V x) (hy : Wr V y) (hp : x.pl = y.pl) : Calls Try.prog 36 #[x.val, y.val] V fun z V' => z = .returned (.bool true) ∧ Below V.heap.size V V' := by
  have h1 : one x y = true := decide_eq_true hp
  refine (one_any hx hy).mono fun z V' ⟨hz, hg⟩ => ⟨by rw [hz, h1], hg.below⟩
theorem NR.put (h : NR w V b r g A c e) (u0 u1 u2 : Value) : NR w (((V.setCell ⟨g, 0, none⟩ u0).setCell ⟨g, 1, none⟩ u1).setCell ⟨g, 2, none⟩ u2) b r g A c e := ((h.far 0 u0).far 1 u1).far 2 u2
theorem NR.nil_ (w V : World) (b : Nat) (r : Value) (g : Nat) : NR w V b r g none 0 [] := ⟨Row.none_, .inl ⟨rfl, rfl⟩, Nat.le_refl _, fun m hm => absurd hm (by simp), fun h0 => absurd h0 (by simp), fun h0 => absurd h0 (by simp)⟩
theorem filt_pl {d e : List MV} (h : d.map MV.pl = e.map MV.pl) (p : Int → Bool) : (d.filter fun m => p m.lt).map MV.pl = (e.filter fun m => p m.lt).map MV.pl := by
  have q : ∀ x : List MV, (x.filter fun m => p m.lt).map MV.pl = (x.map MV.pl).filter (fun m => p m.lt) := fun x => by rw [List.filter_map]; rfl
  rw [q, q, h]
theorem head_pl {d e : List MV} (h : d.map MV.pl = e.map MV.pl) : (d.headD z0).pl = (e.headD z0).pl ∧ d.isEmpty = e.isEmpty ∧ (d.drop 1).map MV.pl = (e.drop 1).map MV.pl := by
  cases d with
  | nil =>
    cases e with
    | nil => exact ⟨rfl, rfl, rfl⟩
    | cons y t => simp at h
  | cons x s =>
    cases e with
    | nil => simp at h
    | cons y t =>
      simp only [List.map_cons, List.cons.injEq] at h
      exact ⟨h.1, rfl, h.2⟩
/-- The lists of a flush, of a sweep, compared. -/
theorem rsame_n {A' : Option Addr} {c' : Nat} {l : List MV} (hr : Row V A' (mvs l)) (hw : WsR V l) (hn : NR w V b r g A c e) (hb : Below w.heap.size w V) (hp : l.map MV.pl = e.map MV.pl) (hl : l.length ≤ 1000) : Calls Try.prog 38 #[.slice A' l.length c', .slice A e.length c] V fun x V' => x = .returned (.bool true) ∧ Below V.heap.size V V' :=
  rsame_p hr hn.row hw (fun m hm => (hn.ws m hm).1.below hb) hp hl
/-- What the document's Put leaves in a box of its own: the box, and the row. -/
structure NxP (w W V : World) (b : Nat) (r : Value) (g L P nb : Nat) (A : Option Addr) (c : Nat) (e : List MV) : Prop where
  bx : Blk V nb 53 #[.int .i64 L, .int .i64 P, .slice A e.length c]
  bl : Below W.heap.size W V
  nr : NR w V b r g A c e
theorem bel3 {W : World} {nb : Nat} (h : Below W.heap.size W V) (hg : W.heap.size ≤ nb) (u0 u1 u2 : Value) : Below W.heap.size W (((V.setCell ⟨nb, 0, none⟩ u0).setCell ⟨nb, 1, none⟩ u1).setCell ⟨nb, 2, none⟩ u2) :=
  ((h.setCell (p := ⟨nb, 0, none⟩) hg u0).setCell (p := ⟨nb, 1, none⟩) hg u1).setCell (p := ⟨nb, 2, none⟩) hg u2
theorem nx_alloc {W : World} (h : Below W.heap.size W V) (hn : NR w V b r g A c e) : NxP w W (V.alloc (.cells #[.int .i64 L, .int .i64 P, .slice A e.length c] 53)) b r g L P V.heap.size A c e :=
  ⟨Blk.new V 53 _, ba1 h _, hn.below (b01 V _)⟩
theorem nx_put {W : World} {nb : Nat} {z0 z1 z2 : Value} (h : Below W.heap.size W V) (hg : W.heap.size ≤ nb) (hb : Blk V nb 53 #[z0, z1, z2]) (hn : NR w V b r g A c e) : NxP w W (((V.setCell ⟨nb, 0, none⟩ (.int .i64 L)).setCell ⟨nb, 1, none⟩ (.int .i64 P)).setCell ⟨nb, 2, none⟩ (.slice A e.length c)) b r g L P nb A c e := by
  have b1 := hb.set_ 0 (.int .i64 L)
  have b2 := b1.set_ 1 (.int .i64 P)
  exact ⟨b2.set_ 2 (.slice A e.length c), bel3 h hg _ _ _, ((hn.box hb 0 _).box b1 1 _).box b2 2 _⟩
end Go.Proofs.Ytfbbgoahipejlaa.L10
