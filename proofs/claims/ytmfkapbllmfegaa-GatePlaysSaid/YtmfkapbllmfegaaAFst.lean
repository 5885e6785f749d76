/- A gate of a right channel: what a first Offer answers. -/
import Derived.Test.YtmfkapbllmfegaaAAll
import Derived.Test.YtmfkapbllmfegaaAGood
import Derived.Test.YtmfkapbllmfegaaKAll
namespace Go.Proofs.Ytmfkapbllmfegaa.A12
open Go.RowKit Go.Proofs.Ytmfkapbllmfegaa.G Go.Proofs.Ytmfkapbllmfegaa.L10 Go.Proofs.Ytmfkapbllmfegaa.C04
set_option maxRecDepth 100000
variable {w w' : World} {g : Nat} {a : Ga} {y : Chn}
theorem bk_full (hg : Gt w w' g a (s0 a)) (r : Int) : K11.ctok a.R a.C (s0 a).T (s0 a).N r = a.C := K11.full_tok hg.bk.ok r
theorem ctok_pos (hg : Gt w w' g a (s0 a)) (r : Int) : K11.ctok a.R a.C (s0 a).T (s0 a).N r ≠ 0 := by
  rw [bk_full hg r]
  have := hg.bk.ok.c0
  omega
theorem room_pos (hf : Fit y a) : room a.L a.P [] 0 ≠ 0 := by
  have h1 := hf.l3
  have h2 := hf.p8
  rw [room_in (decide_eq_true (by omega))]
  show (a.P : Int) - 0 ≠ 0
  omega
theorem jdg_one (hy : GdC y) (z : Int) (h0 : 0 ≤ z) (h1 : z ≤ 2147483647) : jdg y 0 0 [z] = 0 :=
  jdg_ok rfl hy.k (decide_eq_true (by have := hy.la; omega)) (mayb_yes (by simp) (by have := hy.w; simp only [List.length_cons, List.length_nil]; omega) (by simp [A12.wok, h0, h1]))
theorem oc_new (hg : Gt w w' g a (s0 a)) (hf : Fit y a) (hy : GdC y) (z : Int) (h0 : 0 ≤ z) (h1 : z ≤ 2147483647) (r : Int) : oc a (s0 a) 0 0 [z] r = 0 ∧ asks a (s0 a) 0 0 [z] = true := by
  have e1 : jdg a.k 0 0 [z] = 0 := by rw [hf.ch]; exact jdg_one hy z h0 h1
  have e2 : room a.L a.P (s0 a).d 0 ≠ 0 := room_pos hf
  exact ⟨by unfold oc; rw [e1, if_neg (by omega), if_neg e2, if_neg (ctok_pos hg r)], decide_eq_true ⟨e1, e2⟩⟩
/-- An Offer of one word, in a list that is new. -/
theorem offer_one {w0 : World} {s : Gs} (h : Gt w0 w g a s) (z mode lane now r : Int) (hq0 : 0 ≤ s.q) (hq : s.q ≤ 1000000) : Calls Try.prog 12 #[.pointer (some ⟨g, 0, none⟩), .int .i64 mode, .int .i64 lane, .slice (some ⟨w.heap.size, 0, none⟩) 1 1, .int .i64 now, .int .i64 r] (w.alloc (.cells #[.int .i64 z] 3)) (OfP w0 (w.alloc (.cells #[.int .i64 z] 3)) g a s (pm a [z] lane now (s.q + 1)) (oc a s mode lane [z] r) (asks a s mode lane [z]) (K11.ctok a.R a.C s.T s.N r) (K11.crnd s.N r)) :=
  offer_any (h.below (b01 w _)) (ws := [z]) (c := 1) mode lane now r (h.ap_new (Row.of_blk (xs := L10.iv [z]) (Blk.new w 3 #[.int .i64 z]) (fun j u hj => by simpa [L10.iv] using hj)) fun _ q o e => by injection e with e; injection e with e1 _; omega) (Nat.le_refl _) (by decide) (show 1 ≤ 1000 by decide) hq0 hq
/-- Behind an Offer that let a message in: the box of the message, the gate. -/
theorem add_small {x z : Int} (h0 : 0 ≤ x) (h1 : x ≤ 1000000000) (h2 : 0 ≤ z) (h3 : z ≤ 1000000000) : Sat.add (Sat.cut x) z = x + z := by
  rw [Sat.cut_id x h0 (by omega)]
  unfold Sat.add
  rw [Sat.cut_id x h0 (by omega), Sat.cut_id z h2 (by omega)]
  exact Sat.cut_id _ (by omega) (by omega)
theorem cut_small {x : Int} (h0 : 0 ≤ x) (h1 : x ≤ 1000000000) : L10.cut x = x := by unfold L10.cut; rw [if_neg (by omega), if_neg (by omega)]
theorem late_small {x z : Int} (h0 : 0 ≤ x) (h1 : x ≤ 1000000000) (h2 : 0 ≤ z) (h3 : z ≤ 1000000000) : late x z = decide (z ≤ x) := by
  unfold late
  rw [cut_small h0 h1, cut_small h2 h3]
theorem pl_eq {m : MV} {ws : List Int} {l s t q : Int} (h : m.pl = ⟨ws, l, s, t, q⟩) : ∃ a c, m = ⟨a, ws, c, l, s, t, q⟩ := by
  obtain ⟨ma, mw, mc, ml, ms, mt, mq⟩ := m
  simp only [MV.pl, Pm.mk.injEq] at h
  obtain ⟨rfl, rfl, rfl, rfl, rfl⟩ := h
  exact ⟨_, _, rfl⟩
theorem pl_one {d : List MV} {M : Pm} (h : d.map MV.pl = [M]) : ∃ x, d = [x] ∧ x.pl = M := by
  cases d with
  | nil => simp at h
  | cons x t =>
    cases t with
    | nil => exact ⟨x, rfl, by simpa using h⟩
    | cons y t => simp at h
end Go.Proofs.Ytmfkapbllmfegaa.A12
