/- A gate: New, Take, Sweep, Flush, All, Len, Tokens, Seq, also of none: contracts. -/
import Derived.Test.YtgmcjkiofcpjbaaA1
namespace Go.Proofs.Ytgmcjkiofcpjbaa.A12
open Go.RowKit Go.Proofs.Ytgmcjkiofcpjbaa.G Go.Proofs.Ytgmcjkiofcpjbaa.L10 Go.Proofs.Ytgmcjkiofcpjbaa.C04
set_option maxRecDepth 100000
variable {w0 w00 w w' : World} {g : Nat} {a : Ga} {s : Gs}
theorem Gt.old (h : Gt w0 w g a s) (hb : Below w00.heap.size w00 w0) : Gt w00 w g a s :=
  ⟨h.bx, ⟨h.lv.ln, fun k hk => Nat.le_trans hb.size (h.lv.ab k hk), bt hb h.lv.bl⟩, h.st, h.wd, h.bk, Nat.le_trans hb.size h.bg, Nat.le_trans hb.size h.ge⟩
/-- The gate that New makes, as it lies. -/
structure Fit (k : Chn) (a : Ga) : Prop where
  ch : a.k = k
  l : (a.L : Int) = near k.la 3
  p : (a.P : Int) = near k.d 8
  r : a.R = K11.rof k.ra
  c : a.C = K11.cof k.c
  l3 : 1 ≤ a.L ∧ a.L ≤ 3
  p8 : 1 ≤ a.P ∧ a.P ≤ 8
def s0 (a : Ga) : Gs := ⟨.slice none 0 0, [], a.C, 0, 0⟩
def NwPost (k : Chn) (w : World) (e : Ending) (w' : World) : Prop := ∃ g a, e = .returned (.pointer (some ⟨g, 0, none⟩)) ∧ Gt w w' g a (s0 a) ∧ Fit k a
theorem new_fin {W w2 : World} {k : Chn} {bb L P : Nat} {R C : Int} (hW : Below w.heap.size w W) (hl : Ln w2 W.heap.size L P (.slice none 0 0) []) (hb : K11.Bk w2 bb R C C 0) (hg : W.heap.size ≤ bb) (hB : Below W.heap.size W w2) (h3 : L ≤ 3 ∧ P ≤ 8) :
    Gt w (w2.alloc (.cells (gcells ⟨k, W.heap.size, bb, L, P, R, C⟩ 0) 81)) w2.heap.size ⟨k, W.heap.size, bb, L, P, R, C⟩ (s0 ⟨k, W.heap.size, bb, L, P, R, C⟩) := by
  have b := b01 w2 (.cells (gcells ⟨k, W.heap.size, bb, L, P, R, C⟩ 0) 81)
  refine ⟨Blk.new w2 81 _, ⟨hl.below b, fun q hq => ?_, bt (bt hW hB) b⟩, St.nil_ L P h3.1 h3.2, Wd.nil_ _, hb.below b, Nat.le_trans hW.size hg, (bt hW hB).size⟩
  rcases hq with e | hq
  · have := hW.size
    have e' : q = W.heap.size := e
    omega
  · simp [s0, Value.ownBlock] at hq
set_option maxHeartbeats 2000000 in
theorem new_any (k : Chn) (w : World) : Calls Try.prog 12 #[k.val] w (NwPost k w) := by
  have h1 := near_pos k.la (m := 3) (by omega)
  have h2 := near_pos k.d (m := 8) (by omega)
  have C1 := Lib.hid (fun V => L10.new_any k.la k.d V)
  have C2 := Lib.hid (fun V => K11.new_any k.ra k.c V)
  obtain ⟨L, hL⟩ : ∃ L, (near k.la 3).toNat = L := ⟨_, rfl⟩
  obtain ⟨P, hP⟩ : ∃ P, (near k.d 8).toNat = P := ⟨_, rfl⟩
  obtain ⟨R, hR⟩ : ∃ R, K11.rof k.ra = R := ⟨_, rfl⟩
  obtain ⟨C, hC⟩ : ∃ C, K11.cof k.c = C := ⟨_, rfl⟩
  have HF : Hid (∀ lb bb, Fit k ⟨k, lb, bb, L, P, R, C⟩) := fun lb bb => ⟨rfl, by show (L : Int) = _; omega, by show (P : Int) = _; omega, hR.symm, hC.symm, by show 1 ≤ L ∧ L ≤ 3; omega, by show 1 ≤ P ∧ P ≤ 8; omega⟩
  unfold L10.NewPost at C1
  rw [hR, hC] at C2
  simp only [hL, hP] at C1
  have HL3 : Hid (L ≤ 3 ∧ P ≤ 8) := by show L ≤ 3 ∧ P ≤ 8; omega
  clear h1 h2 hL hP hR hC
  have b1 := Lib.hid (b01 w (.cells #[.int .i64 k.k, .int .i64 k.f, .int .i64 k.t, .int .i64 k.w, .int .i64 k.r, .int .i64 k.la, .int .i64 k.d, .int .i64 k.h, .int .i64 k.li, .int .i64 k.ra, .int .i64 k.c] 23))
  have HK := Lib.hid (Blk.new w 23 #[.int .i64 k.k, .int .i64 k.f, .int .i64 k.t, .int .i64 k.w, .int .i64 k.r, .int .i64 k.la, .int .i64 k.d, .int .i64 k.h, .int .i64 k.li, .int .i64 k.ra, .int .i64 k.c])
  unfold Chn.val
  go_enter Try.func12, Try.ntmps12
  go_wp2_with fail
  obtain ⟨kx, hkx⟩ : ∃ kx, w.heap.size = kx := ⟨_, rfl⟩
  rw [hkx] at HK ⊢
  clear hkx
  generalize w.alloc (.cells #[.int .i64 k.k, .int .i64 k.f, .int .i64 k.t, .int .i64 k.w, .int .i64 k.r, .int .i64 k.la, .int .i64 k.d, .int .i64 k.h, .int .i64 k.li, .int .i64 k.ra, .int .i64 k.c] 23) = W at *
  have HS : Hid (∀ V, Below W.heap.size W V → ∀ i, V.cell? ⟨kx, i, none⟩ = (#[.int .i64 k.k, .int .i64 k.f, .int .i64 k.t, .int .i64 k.w, .int .i64 k.r, .int .i64 k.la, .int .i64 k.d, .int .i64 k.h, .int .i64 k.li, .int .i64 k.ra, .int .i64 k.c] : Array Value)[i]?) := fun V hV => (HK.out.bel hV).cell
  have S0 : Below W.heap.size W W.drew := (Below.refl _ _).drew
  have K0 := HS.out _ S0
  go_region_held3 (fun V => ∀ i, V.cell? ⟨kx, i, none⟩ = (#[.int .i64 k.k, .int .i64 k.f, .int .i64 k.t, .int .i64 k.w, .int .i64 k.r, .int .i64 k.la, .int .i64 k.d, .int .i64 k.h, .int .i64 k.li, .int .i64 k.ra, .int .i64 k.c] : Array Value)[i]?) (first | (with_reducible exact HS.out _ S0) | (with_reducible exact HS.out _ (ba1 S0 _)) | fail)
    (first
      | (go_at_call 35; (with_reducible refine (C1.out _).mono ?_); rintro e w1 ⟨rfl, hl1, hb1⟩; have HL1 := Lib.hid hl1; have HB1 := Lib.hid (bt S0 hb1); have S0 := bt S0 hb1)
      | (go_at_call 36; (with_reducible refine (C2.out _).mono ?_); rintro e w2 ⟨bb, rfl, hb2, hg2, hB2⟩; have HL2 := Lib.hid (hl1.below hB2); have HB2 := Lib.hid (And.intro hb2 (And.intro hg2 hB2)); have S0 := bt S0 hB2)
      | fail)
  have HX := Lib.hid (new_fin (k := k) b1.out HL2.out HB2.out.1 (Nat.le_trans HB1.out.size HB2.out.2.1) S0 HL3.out)
  go_wp2_with fail
  go_ret
  exact ⟨_, _, rfl, HX.out, HF.out _ _⟩
theorem there_any (h : Gt w0 w g a s) : Calls Try.prog 48 #[.pointer (some ⟨g, 0, none⟩)] w fun e w' => e = .returned (.pointer (some ⟨a.lb, 0, none⟩)) ∧ w = w' := by
  have c11 := h.bx.cell 11
  unfold gcells at c11
  simp only [List.getElem?_toArray, List.getElem?_cons_zero, List.getElem?_cons_succ] at c11
  clear h
  go_enter Try.func48, Try.ntmps48
  go_wp2
  go_ret
  exact ⟨rfl, rfl⟩
theorem there_nil (w : World) : Calls Try.prog 48 #[.pointer none] w fun e w' => e = .returned (.pointer none) ∧ w = w' := by
  go_enter Try.func48, Try.ntmps48
  go_wp2
  go_ret
  exact ⟨rfl, rfl⟩
theorem seq_any (h : Gt w0 w g a s) : Calls Try.prog 28 #[.pointer (some ⟨g, 0, none⟩)] w fun e w' => e = .returned (.int .i64 s.q) ∧ w = w' := by
  have c13 := h.bx.cell 13
  unfold gcells at c13
  simp only [List.getElem?_toArray, List.getElem?_cons_zero, List.getElem?_cons_succ] at c13
  clear h
  go_enter Try.func28, Try.ntmps28
  go_wp2
  go_ret
  exact ⟨rfl, rfl⟩
theorem seq_nil (w : World) : Calls Try.prog 28 #[.pointer none] w fun e w' => e = .returned (.int .i64 0) ∧ w = w' := by
  go_enter Try.func28, Try.ntmps28
  go_wp2
  go_ret
  exact ⟨rfl, rfl⟩
theorem tokens_nil (r : Int) (w : World) : Calls Try.prog 29 #[.pointer none, .int .i64 r] w fun e w' => e = .returned (.int .i64 0) ∧ w = w' := by
  go_enter Try.func29, Try.ntmps29
  go_wp2
  go_ret
  exact ⟨rfl, rfl⟩
def TkPost (w0 w : World) (g : Nat) (a : Ga) (s : Gs) (T N : Int) (e : Ending) (w' : World) : Prop := e = .returned (.int .i64 T) ∧ Gt w0 w' g a ⟨s.r, s.d, T, N, s.q⟩ ∧ Only (FG g a s.r) w w'
theorem tokens_any (h : Gt w0 w g a s) (r : Int) : Calls Try.prog 29 #[.pointer (some ⟨g, 0, none⟩), .int .i64 r] w (TkPost w0 w g a s (K11.ctok a.R a.C s.T s.N r) (K11.crnd s.N r)) := by
  have HC := Lib.hid (K11.tokens_any h.bk r)
  have HH := Lib.hid h
  have c12 := h.bx.cell 12
  unfold gcells at c12
  simp only [List.getElem?_toArray, List.getElem?_cons_zero, List.getElem?_cons_succ] at c12
  generalize K11.ctok a.R a.C s.T s.N r = T at *
  generalize K11.crnd s.N r = N at *
  clear h
  go_enter Try.func29, Try.ntmps29
  go_wp2_with fail
  refine HC.out.mono ?_
  rintro e w1 ⟨rfl, hb, ho⟩
  have H1 := Lib.hid (And.intro (HH.out.bucket hb ho) (fg_bb (g := g) (r := s.r) ho))
  clear hb ho
  go_wp2_with fail
  go_ret
  exact ⟨rfl, H1.out.1, H1.out.2⟩
theorem len_any (h : Gt w0 w g a s) : Calls Try.prog 26 #[.pointer (some ⟨g, 0, none⟩)] w fun e w' => e = .returned (.int .i64 s.d.length) ∧ w = w' := by
  have HT := Lib.hid (there_any h)
  have HL := Lib.hid (L10.len_any h.lv.ln)
  clear h
  go_enter Try.func26, Try.ntmps26
  go_wp2_with fail
  refine HT.out.mono ?_
  rintro e w' ⟨rfl, rfl⟩
  go_wp2_with fail
  refine HL.out.mono ?_
  rintro e w' ⟨rfl, rfl⟩
  go_wp2_with fail
  go_ret
  exact ⟨rfl, rfl⟩
theorem len_nil (w : World) : Calls Try.prog 26 #[.pointer none] w fun e w' => e = .returned (.int .i64 0) ∧ w = w' := by
  go_enter Try.func26, Try.ntmps26
  go_wp2_with fail
  refine (there_nil _).mono ?_
  rintro e w' ⟨rfl, rfl⟩
  go_wp2_with fail
  refine (L10.len_nil _).mono ?_
  rintro e w' ⟨rfl, rfl⟩
  go_wp2_with fail
  go_ret
  exact ⟨rfl, rfl⟩
/-- A list that is told. -/
def LsP (w : World) (l0 : List Pm) (e : Ending) (w' : World) : Prop := ∃ A c l, e = .returned (.slice A l.length c) ∧ Row w' A (mvs l) ∧ WsR w' l ∧ l.map MV.pl = l0 ∧ Below w.heap.size w w'
theorem ls_p {l0 : List MV} {e : Ending} (h : LsPost l0 w e w') : LsP w (l0.map MV.pl) e w' := by
  obtain ⟨v, l, rfl, hm, hp, hb⟩ := h
  obtain ⟨A', c', rfl, z0, _⟩ := hm.own.row
  exact ⟨A', c', l, rfl, z0, fun y hy => (hm.ws y hy).wr, hp, hb⟩
theorem all_any (h : Gt w0 w g a s) : Calls Try.prog 27 #[.pointer (some ⟨g, 0, none⟩)] w (LsP w (s.d.map MV.pl)) := by
  have HT := Lib.hid (there_any h)
  have HL := Lib.hid ((L10.all_any h.lv.ln h.wd.ws (by have := h.len; omega)).mono fun e w' hx => ls_p hx)
  clear h
  go_enter Try.func27, Try.ntmps27
  go_wp2_with fail
  refine HT.out.mono ?_
  rintro e w' ⟨rfl, rfl⟩
  go_wp2_with fail
  refine HL.out.mono ?_
  rintro e w' ⟨A, c, l, rfl, h1⟩
  have H1 := Lib.hid h1
  clear h1
  go_wp2_with fail
  go_ret
  exact ⟨A, c, l, rfl, H1.out⟩
theorem all_nil (w : World) : Calls Try.prog 27 #[.pointer none] w fun e w' => e = .returned (.slice none 0 0) ∧ Below w.heap.size w w' := by
  go_enter Try.func27, Try.ntmps27
  go_wp2_with fail
  refine (there_nil _).mono ?_
  rintro e w' ⟨rfl, rfl⟩
  go_wp2_with fail
  refine (L10.all_nil _).mono ?_
  rintro e w' ⟨rfl, hb⟩
  go_wp2_with fail
  go_ret
  exact ⟨rfl, hb⟩
/-- Messages that are taken out, and what stays. -/
def OuP (w0 w : World) (g : Nat) (a : Ga) (s : Gs) (gone stay : List MV) (e : Ending) (w' : World) : Prop := ∃ A c r', e = .returned (.slice A gone.length c) ∧ Row w' A (mvs gone) ∧ WsR w' gone ∧ Gt w0 w' g a ⟨r', stay, s.T, s.N, s.q⟩ ∧ Only (FG g a s.r) w w' ∧ Nw w.heap.size s.r r'
theorem sub_st {L P : Nat} {d d' : List MV} (hs : St L P d) (h : d'.Sublist d) : St L P d' := ⟨hs.l3, hs.p8, hs.srt.sublist h, fun x hx => hs.ln x (h.subset hx), fun k => Nat.le_trans (h.filter _).length_le (hs.cn k)⟩
theorem out_p {gone stay : List MV} (h : Gt w0 w g a s) (hg : gone.Sublist s.d) (hs : stay.Sublist s.d) {e : Ending} (hx : OutsPost w a.lb a.L a.P gone stay e w') : OuP w0 w g a s gone stay e w' := by
  obtain ⟨v, r', rfl, ho⟩ := hx
  obtain ⟨A', c', rfl, z0, _⟩ := ho.og.row
  have hn := fun q cs (hq : Blk w q 3 cs) (e : q = a.lb) => h.lv.ln.no_int q cs hq (.inl e)
  have hw := fun y (hy : y ∈ gone) => (h.wd.sub (d' := gone) (fun y hy => hg.subset hy)).only ho.on hn y hy
  exact ⟨A', c', r', rfl, z0, fun y hy => (hw y hy).1.wr, h.lanes ho.ln (sub_st h.st hs) ((h.wd.sub fun y hy => hs.subset hy).only ho.on hn) (ho.on.mono fun _ hk => .inl hk) (.inr ho.fr), fg_lb ho.on, .inr ho.fr⟩
theorem sweep_any (h : Gt w0 w g a s) (n : Int) : Calls Try.prog 24 #[.pointer (some ⟨g, 0, none⟩), .int .i64 n] w (OuP w0 w g a s (s.d.filter fun m => late n m.lt) (s.d.filter fun m => !late n m.lt)) := by
  have HT := Lib.hid (there_any h)
  have HL := Lib.hid ((L10.sweep_any h.lv.ln (by have := h.len; omega) n).mono fun e w' hx => out_p h List.filter_sublist List.filter_sublist hx)
  generalize (s.d.filter fun m => late n m.lt) = G at *
  generalize (s.d.filter fun m => !late n m.lt) = S at *
  clear h
  go_enter Try.func24, Try.ntmps24
  go_wp2_with fail
  refine HT.out.mono ?_
  rintro e w' ⟨rfl, rfl⟩
  go_wp2_with fail
  refine HL.out.mono ?_
  rintro e w' ⟨A, c, r', rfl, h1⟩
  have H1 := Lib.hid h1
  clear h1
  go_wp2_with fail
  go_ret
  exact ⟨A, c, r', rfl, H1.out⟩
theorem sweep_nil (n : Int) (w : World) : Calls Try.prog 24 #[.pointer none, .int .i64 n] w fun e w' => e = .returned (.slice none 0 0) ∧ Below w.heap.size w w' := by
  go_enter Try.func24, Try.ntmps24
  go_wp2_with fail
  refine (there_nil _).mono ?_
  rintro e w' ⟨rfl, rfl⟩
  go_wp2_with fail
  refine (L10.sweep_nil _ _).mono ?_
  rintro e w' ⟨rfl, hb⟩
  go_wp2_with fail
  go_ret
  exact ⟨rfl, hb⟩
theorem flush_any (h : Gt w0 w g a s) : Calls Try.prog 25 #[.pointer (some ⟨g, 0, none⟩)] w (OuP w0 w g a s s.d []) := by
  have HT := Lib.hid (there_any h)
  have HL := Lib.hid ((L10.flush_any h.lv.ln (by have := h.len; omega)).mono fun e w' hx => out_p h (List.Sublist.refl _) (List.nil_sublist _) hx)
  clear h
  go_enter Try.func25, Try.ntmps25
  go_wp2_with fail
  refine HT.out.mono ?_
  rintro e w' ⟨rfl, rfl⟩
  go_wp2_with fail
  refine HL.out.mono ?_
  rintro e w' ⟨A, c, r', rfl, h1⟩
  have H1 := Lib.hid h1
  clear h1
  go_wp2_with fail
  go_ret
  exact ⟨A, c, r', rfl, H1.out⟩
theorem flush_nil (w : World) : Calls Try.prog 25 #[.pointer none] w fun e w' => e = .returned (.slice none 0 0) ∧ w = w' := by
  go_enter Try.func25, Try.ntmps25
  go_wp2_with fail
  refine (there_nil _).mono ?_
  rintro e w' ⟨rfl, rfl⟩
  go_wp2_with fail
  refine (L10.flush_nil _).mono ?_
  rintro e w' ⟨rfl, rfl⟩
  go_wp2_with fail
  go_ret
  exact ⟨rfl, rfl⟩
/-- A box of messages, of none of the gate's, is stored to. -/
theorem Gt.box (h : Gt w0 w g a s) {k : Nat} {cs : Array Value} (hk : Blk w k 43 cs) (hr : s.r.ownBlock ≠ some k) (hge : w0.heap.size ≤ k) (ho : Only (fun q => q = k) w w') : Gt w0 w' g a s := by
  refine ⟨ho.blk h.bx fun e => h.bx.ne_ hk (by decide) e, h.lv.other ho fun q hq => ?_, h.st, h.wd.only ho fun q cs' hq e => ?_, ⟨ho.blk h.bk.blk fun e => h.bk.blk.ne_ hk (by decide) e, h.bk.ok⟩, h.bg, h.ge⟩
  · have e : q = k := hq
    subst e
    refine ⟨fun hf => ?_, hge⟩
    rcases hf with e | hf
    · exact hk.ne_ h.lv.ln.blk (by decide) e
    · exact hr hf
  · have e' : q = k := e
    exact hq.ne_ hk (by decide) e'
/-- The first one is taken. -/
structure TaW (w0 w : World) (g : Nat) (a : Ga) (s : Gs) (r' : Value) (w' : World) : Prop where
  wo : Wo w' 0 (s.d.headD z0)
  gt : Gt w0 w' g a ⟨r', s.d.drop 1, s.T, s.N, s.q⟩
  fr : ∀ q, r'.ownBlock = some q → w.heap.size ≤ q
  on : Only (fun k => k = a.lb) w w'
/-- What a call answers of a first one that it takes. -/
structure TbW (w0 w : World) (g : Nat) (a : Ga) (s : Gs) (r' : Value) (w' : World) : Prop where
  wo : Wo w' 0 (s.d.headD z0)
  gt : Gt w0 w' g a ⟨r', s.d.drop 1, s.T, s.N, s.q⟩
  fr : ∀ q, r'.ownBlock = some q → w.heap.size ≤ q
  on : Only (FG g a s.r) w w'
def TaP (w0 w : World) (g : Nat) (a : Ga) (s : Gs) (e : Ending) (w' : World) : Prop := ∃ r', e = .returned (.tuple #[(s.d.headD z0).val, .bool (!s.d.isEmpty)]) ∧ TaW w0 w g a s r' w'
def TbP (w0 w : World) (g : Nat) (a : Ga) (s : Gs) (e : Ending) (w' : World) : Prop := ∃ r', e = .returned (.tuple #[(s.d.headD z0).val, .bool (!s.d.isEmpty)]) ∧ TbW w0 w g a s r' w'
theorem ta_p (h : Gt w0 w g a s) {e : Ending} (hx : L10.TkPost w a.lb a.L a.P s.d e w') : TaP w0 w g a s e w' := by
  obtain ⟨r', he, hl, hf, ho⟩ := hx
  have hn := fun q cs (hq : Blk w q 3 cs) (e : q = a.lb) => h.lv.ln.no_int q cs hq (.inl e)
  refine ⟨r', he, ?_, h.lanes hl (sub_st h.st (List.drop_sublist 1 _)) ((h.wd.sub fun y hy => List.mem_of_mem_drop hy).only ho hn) (ho.mono fun _ hk => .inl hk) (.inr hf), hf, ho⟩
  have hw := h.wd
  cases hd : s.d with
  | nil => exact Own.nil_ _ _ _ _
  | cons m t =>
    rw [hd] at hw
    exact (hw m (List.mem_cons_self ..)).1.only ho hn
theorem only5 {F : Nat → Prop} {x W : World} {q : Nat} (h : Only F x W) (hq : F q ∨ x.heap.size ≤ q) (u0 u1 u2 u3 u4 : Value) : Only F x (((((W.setCell ⟨q, 0, none⟩ u0).setCell ⟨q, 1, none⟩ u1).setCell ⟨q, 2, none⟩ u2).setCell ⟨q, 3, none⟩ u3).setCell ⟨q, 4, none⟩ u4) :=
  ((((h.set_ hq 0 u0).set_ hq 1 u1).set_ hq 2 u2).set_ hq 3 u3).set_ hq 4 u4
set_option maxHeartbeats 2000000 in
theorem take_any (h : Gt w0 w g a s) : Calls Try.prog 21 #[.pointer (some ⟨g, 0, none⟩)] w (TbP w0 w g a s) := by
  have b1 := b01 w (.cells zC 43)
  have N := Blk.new w 43 zC
  have HT := Lib.hid (there_any (h.below b1))
  have HL := Lib.hid ((L10.take_any (h.below b1).lv.ln (by have := h.len; omega)).mono fun e w' hx => ta_p (h.below b1) hx)
  have HN := Lib.hid N
  have HZ : Hid (w0.heap.size ≤ w.heap.size) := h.bl.size
  have HSz : Hid (w.heap.size < (w.alloc (.cells zC 43)).heap.size) := by show w.heap.size < _; rw [World.size_alloc]; omega
  have HOn : Hid (∀ V r', TaW w0 (w.alloc (.cells zC 43)) g a s r' V → Blk V w.heap.size 43 zC) := fun V r' ht => ht.on.blk N fun e => N.ne_ (h.below b1).lv.ln.blk (by decide) e
  unfold TaP at HL
  unfold TbP
  have HFin : Hid (∀ V W r' cs, TaW w0 (w.alloc (.cells zC 43)) g a s r' V → Blk V w.heap.size 43 cs → Only (fun q => q = w.heap.size) V W → TbW w0 w g a s r' W) := fun V W r' cs ht hk ho => by
    refine ⟨ht.wo.only ho fun q cs' hq e => ?_, ht.gt.box hk (fun e => ?_) HZ.out ho, fun q hq => by have := ht.fr q hq; have := HSz.out; omega, ?_⟩
    · have e' : q = w.heap.size := e
      exact hq.ne_ hk (by decide) e'
    · have := ht.fr _ e
      have := HSz.out
      omega
    · exact ((Only.of (F := FG g a s.r) b1).trans_ (fg_lb ht.on)).trans (ho.mono fun k hk => .inr (by have e : k = w.heap.size := hk; omega))
  unfold zC at HT HL HN HOn
  generalize (!s.d.isEmpty) = y at *
  generalize s.d.headD z0 = m at *
  clear h b1 N
  unfold MV.val at HL ⊢
  go_enter Try.func21, Try.ntmps21
  go_wp2_with fail
  refine HT.out.mono ?_
  rintro e w' ⟨rfl, rfl⟩
  go_wp2_with fail
  refine HL.out.mono ?_
  rintro e w1 ⟨r', rfl, h1⟩
  have H1 := Lib.hid h1
  have B0 := HOn.out _ _ h1
  have HB0 := Lib.hid B0
  have c0 := B0.cell 0
  have c1 := B0.cell 1
  have c2 := B0.cell 2
  have c3 := B0.cell 3
  have c4 := B0.cell 4
  have f0 := B0.frozen
  simp only [List.getElem?_toArray, List.getElem?_cons_zero, List.getElem?_cons_succ] at c0 c1 c2 c3 c4
  clear h1 B0
  go_wp2_with fail
  refine bodyPost_ret (v := .tuple #[.agg #[.slice m.a m.ws.length m.c, .int .i64 m.ln, .int .i64 m.st, .int .i64 m.lt, .int .i64 m.sq], .bool y]) (by simp [results, Try.results21, go_sem, c0, c1, c2, c3, c4]) rfl ⟨r', rfl, ?_⟩
  exact HFin.out _ _ _ _ H1.out HB0.out (only5 (Only.refl (fun q => q = w.heap.size) w1) (.inl rfl) (.slice m.a m.ws.length m.c) (.int .i64 m.ln) (.int .i64 m.st) (.int .i64 m.lt) (.int .i64 m.sq))
theorem take_nil (w : World) : Calls Try.prog 21 #[.pointer none] w fun e w' => e = .returned (.tuple #[z0.val, .bool false]) ∧ Below w.heap.size w w' := by
  unfold MV.val z0
  go_enter Try.func21, Try.ntmps21
  go_wp2_with fail
  refine (there_nil _).mono ?_
  rintro e w' ⟨rfl, rfl⟩
  go_wp2_with fail
  refine (L10.take_nil _).mono ?_
  rintro e w' ⟨rfl, hb⟩
  have B0 := (Blk.new w 43 zC).bel hb
  have HB := Lib.hid (bt (b01 w (.cells zC 43)) hb)
  unfold MV.val z0
  unfold zC at B0
  have c0 := B0.cell 0
  have c1 := B0.cell 1
  have c2 := B0.cell 2
  have c3 := B0.cell 3
  have c4 := B0.cell 4
  have f0 := B0.frozen
  simp only [List.getElem?_toArray, List.getElem?_cons_zero, List.getElem?_cons_succ] at c0 c1 c2 c3 c4
  clear hb B0
  go_wp2_with fail
  refine bodyPost_ret (v := .tuple #[.agg #[.slice none 0 0, .int .i64 0, .int .i64 0, .int .i64 0, .int .i64 0], .bool false]) (by simp [results, Try.results21, go_sem, c0, c1, c2, c3, c4]) rfl ?_
  have HO := only5 (Only.of (F := fun _ => False) HB.out) (q := w.heap.size) (.inr (Nat.le_refl _)) (.slice none 0 0) (.int .i64 0) (.int .i64 0) (.int .i64 0) (.int .i64 0)
  exact And.intro rfl (below_only HO fun _ h => h.elim)
end Go.Proofs.Ytgmcjkiofcpjbaa.A12
