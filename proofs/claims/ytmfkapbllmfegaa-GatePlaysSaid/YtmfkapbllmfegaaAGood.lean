/- A queuing channel that is right, made of any ('good' of stage 12's statements): a contract. -/
import Derived.Test.YtmfkapbllmfegaaGood1
import Derived.Test.YtmfkapbllmfegaaAArgs
namespace Go.Proofs.Ytmfkapbllmfegaa.A12
open Go.RowKit Go.Proofs.Ytmfkapbllmfegaa.G Go.Proofs.Ytmfkapbllmfegaa.C04
set_option maxRecDepth 100000
variable {w w' : World}
structure GdC (y : Chn) : Prop where
  k : y.k = 1
  w : 1 ≤ y.w ∧ y.w ≤ 4
  la : 1 ≤ y.la ∧ y.la ≤ 3
  d : 1 ≤ y.d ∧ y.d ≤ 4
  li : 1 ≤ y.li ∧ y.li ≤ 60
  ra : 0 ≤ y.ra ∧ y.ra ≤ 4
  c : 1 ≤ y.c ∧ y.c ≤ 6
theorem gdc_of {y : Chn} (h : rgt 2 y = true) (hs : smallC y) (hk : y.k = 1) : GdC y := by
  unfold rgt at h
  have h1 := of_decide_eq_true h
  obtain ⟨_, _, _, _, _, w0, w1, hn⟩ := h1
  unfold knd at hn
  have h2 := of_decide_eq_true hn
  obtain ⟨_, s1, _, s3, s4, s5⟩ := hs
  rcases h2 with ⟨e, _⟩ | ⟨_, _, ⟨a0, a1⟩, ⟨b0, b1⟩, _, ⟨d0, d1⟩, ⟨e0, e1⟩, ⟨f0, f1⟩⟩
  · omega
  · exact ⟨hk, ⟨w0, w1⟩, ⟨a0, a1⟩, ⟨b0, s1⟩, ⟨d0, s3⟩, ⟨e0, s4⟩, ⟨f0, s5⟩⟩
theorem flt_cbad {c : Cfg} (h : flt c = none) : cbad c.P 0 c.cs = none := by
  unfold flt at h
  split at h
  · split at h
    · split at h
      · cases h
      · split at h
        · cases h
        · rename_i hc
          unfold cflt at hc
          split at hc
          · cases hb : cbad c.P 0 c.cs with
            | none => rfl
            | some i => rw [hb] at hc; cases hc
          · cases hc
    · cases h
  · cases h
theorem cbad_one {P : Int} {y : Chn} (h : cbad P 0 [y] = none) : rgt P y = true := by
  unfold cbad at h
  split at h
  · assumption
  · cases h
theorem one_chn {g : Cfg} {k : Chn} (h : One.GoodC g) (hP : g.P = nearV 1 1 4) (hk : One.KK [k] g.cs) (hl : 1 < g.P → g.cs.length = min [k].length 5) (hk1 : k.k = 1) : ∃ y, g.cs = [y] ∧ GdC y := by
  have hP2 : g.P = 2 := hP.trans (by decide)
  have h1 : g.cs.length = 1 := hl (by omega)
  obtain ⟨y, hy⟩ := List.length_eq_one_iff.1 h1
  refine ⟨y, hy, ?_⟩
  obtain ⟨hf, _, _, hs, _⟩ := h
  have hc := flt_cbad hf
  rw [hP2, hy] at hc
  refine gdc_of (cbad_one hc) (hs 0 y (by rw [hy]; rfl)) ?_
  have := hk 0 k y rfl (by rw [hy]; rfl)
  rw [this, hk1]; decide
def GdPost (w : World) (e : Ending) (w' : World) : Prop := ∃ y : Chn, e = .returned y.val ∧ GdC y ∧ Below w.heap.size w w'
set_option maxHeartbeats 4000000 in
theorem good12_any (k : Chn) (w : World) : Calls Try.prog 5 #[k.val] w (GdPost w) := by
  obtain ⟨k0, f0, t0, w0, r0, la0, d0, h0, li0, ra0, c0⟩ := k
  unfold Chn.val
  simp only
  have N0 := ((Blk.new w 23 #[.int .i64 1, .int .i64 f0, .int .i64 t0, .int .i64 w0, .int .i64 r0, .int .i64 la0, .int .i64 d0, .int .i64 h0, .int .i64 li0, .int .i64 ra0, .int .i64 c0]).alloc (.cells #[.int .i64 0, .int .i64 0, .int .i64 0, .int .i64 0, .int .i64 0, .int .i64 0, .int .i64 0, .int .i64 0, .int .i64 0, .int .i64 0, .int .i64 0] 23)).alloc (.cells #[.int .i64 1, .int .i64 f0, .int .i64 t0, .int .i64 w0, .int .i64 r0, .int .i64 la0, .int .i64 d0, .int .i64 h0, .int .i64 li0, .int .i64 ra0, .int .i64 c0] 23)
  have N1 := (Blk.new_at (w := w.alloc (.cells #[.int .i64 1, .int .i64 f0, .int .i64 t0, .int .i64 w0, .int .i64 r0, .int .i64 la0, .int .i64 d0, .int .i64 h0, .int .i64 li0, .int .i64 ra0, .int .i64 c0] 23)) (n := w.heap.size + 1) (by simp) 23 #[.int .i64 0, .int .i64 0, .int .i64 0, .int .i64 0, .int .i64 0, .int .i64 0, .int .i64 0, .int .i64 0, .int .i64 0, .int .i64 0, .int .i64 0]).alloc (.cells #[.int .i64 1, .int .i64 f0, .int .i64 t0, .int .i64 w0, .int .i64 r0, .int .i64 la0, .int .i64 d0, .int .i64 h0, .int .i64 li0, .int .i64 ra0, .int .i64 c0] 23)
  have N2 := Blk.new_at (w := (w.alloc (.cells #[.int .i64 1, .int .i64 f0, .int .i64 t0, .int .i64 w0, .int .i64 r0, .int .i64 la0, .int .i64 d0, .int .i64 h0, .int .i64 li0, .int .i64 ra0, .int .i64 c0] 23)).alloc (.cells #[.int .i64 0, .int .i64 0, .int .i64 0, .int .i64 0, .int .i64 0, .int .i64 0, .int .i64 0, .int .i64 0, .int .i64 0, .int .i64 0, .int .i64 0] 23)) (n := w.heap.size + 1 + 1) (by simp) 23 #[.int .i64 1, .int .i64 f0, .int .i64 t0, .int .i64 w0, .int .i64 r0, .int .i64 la0, .int .i64 d0, .int .i64 h0, .int .i64 li0, .int .i64 ra0, .int .i64 c0]
  have HB := Lib.hid (ba1 (ba1 (b01 w (.cells #[.int .i64 1, .int .i64 f0, .int .i64 t0, .int .i64 w0, .int .i64 r0, .int .i64 la0, .int .i64 d0, .int .i64 h0, .int .i64 li0, .int .i64 ra0, .int .i64 c0] 23)) (.cells #[.int .i64 0, .int .i64 0, .int .i64 0, .int .i64 0, .int .i64 0, .int .i64 0, .int .i64 0, .int .i64 0, .int .i64 0, .int .i64 0, .int .i64 0] 23)) (.cells #[.int .i64 1, .int .i64 f0, .int .i64 t0, .int .i64 w0, .int .i64 r0, .int .i64 la0, .int .i64 d0, .int .i64 h0, .int .i64 li0, .int .i64 ra0, .int .i64 c0] 23))
  have HC := Lib.hid (One.good_any (c := ⟨1, 0, [], [⟨1, f0, t0, w0, r0, la0, d0, h0, li0, ra0, c0⟩], []⟩) ⟨none, some ⟨w.heap.size + 1 + 1, 0, none⟩, none, 0, 1, 0, rfl, Row.none_, Row.of_blk N2 (fun j u hj => by simpa [cvs, Chn.cells] using hj), Row.none_, Nat.le_refl _, by decide, Nat.le_refl _, by decide, Nat.le_refl _, by decide, fun k x hx => by simp at hx⟩)
  have HN1 := Lib.hid N1
  clear N0 N1 N2
  simp only [List.length_cons, List.length_nil, Nat.zero_add] at HC
  go_enter Try.func5, Try.ntmps5
  go_wp2_with fail
  generalize ((w.alloc (.cells #[.int .i64 1, .int .i64 f0, .int .i64 t0, .int .i64 w0, .int .i64 r0, .int .i64 la0, .int .i64 d0, .int .i64 h0, .int .i64 li0, .int .i64 ra0, .int .i64 c0] 23)).alloc (.cells #[.int .i64 0, .int .i64 0, .int .i64 0, .int .i64 0, .int .i64 0, .int .i64 0, .int .i64 0, .int .i64 0, .int .i64 0, .int .i64 0, .int .i64 0] 23)).alloc (.cells #[.int .i64 1, .int .i64 f0, .int .i64 t0, .int .i64 w0, .int .i64 r0, .int .i64 la0, .int .i64 d0, .int .i64 h0, .int .i64 li0, .int .i64 ra0, .int .i64 c0] 23) = W1 at *
  refine HC.out.mono ?_
  rintro e w4 ⟨v, g, rfl, ho, hg, hP, hkk, hl, hb4⟩
  obtain ⟨y, hy, hyc⟩ := one_chn hg hP hkk hl rfl
  obtain ⟨A1, A2, A3, c1, c2, c3, rfl, _, hrow, _, _, _, hle2, _, _, _, _⟩ := ho.at_
  rw [hy] at hrow
  obtain ⟨b2, o2, rfl, hb2, hat⟩ := row_chn hrow (k := 0) (x := y) rfl
  rw [hy]
  have HY := Lib.hid hyc
  have hN1 := HN1.out.bel hb4
  have HB4 := Lib.hid (bt HB.out hb4)
  rw [Nat.zero_mul, Nat.add_zero] at hat
  obtain ⟨g0, g1, g2, g3, g4, g5, g6, g7, g8, g9, g10⟩ := hat
  have f1 := hN1.frozen
  have q1 := hN1.cell
  have z1 := hN1.lt
  clear ho hg hP hkk hl hb4 hrow hle2 hy hyc hN1 HC HN1
  simp only [List.length_cons, List.length_nil, Nat.zero_add]
  go_wp2_with fail
  refine bodyPost_ret (v := y.val) (by simp [results, Try.results5, go_sem, Chn.val, q1, World.cell?_alloc_lt, z1]) rfl ⟨y, rfl, HY.out, ?_⟩
  exact (by
    refine Below.alloc ?_ ?_ _
    · repeat (refine Below.setCell ?_ (Nat.le_succ _) _)
      exact HB4.out
    · simp only [World.size_setCell]
      exact HB4.out.size)
end Go.Proofs.Ytmfkapbllmfegaa.A12
