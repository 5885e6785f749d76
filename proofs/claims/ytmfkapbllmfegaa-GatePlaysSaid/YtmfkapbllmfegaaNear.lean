/- The document's own 'near' (a number from one on, so many at most) and 'channel' (one that is right, made of any): contracts. -/
import Derived.Test.YtmfkapbllmfegaaKind
import Derived.RegionTactic
import Derived.Deep.RegionHeld3
import Derived.Deep.DrawnRows
import Derived.Deep.DeepCutAuto
import Derived.Deep.CutRange
namespace Go.Proofs.Ytmfkapbllmfegaa.C04
open Go.RowKit Go.Proofs.Ytmfkapbllmfegaa.G
attribute [local go_sem ↓] Go.wp_at_zero Go.wp_at_succ

def nearV (n least many : Int) : Int := least + (IntKind.u64.wrap n).tmod many
theorem nearV_bd (n least many : Int) (h0 : 0 < many) : least ≤ nearV n least many ∧ nearV n least many < least + many := by
  have q0 : 0 ≤ (IntKind.u64.wrap n).tmod many := Int.tmod_nonneg _ (by rw [IntKind.wrap_u64]; omega)
  have q1 : (IntKind.u64.wrap n).tmod many < many := Int.tmod_lt_of_pos _ h0
  unfold nearV; omega
theorem near_any (n least many : Int) (h0 : 0 < many) (h1 : many ≤ 1000000) (h2 : -1000000 ≤ least) (h3 : least ≤ 1000000) (w : World) : Calls Try.prog 49 #[.int .i64 n, .int .i64 least, .int .i64 many] w fun e w' => e = .returned (.int .i64 (nearV n least many)) ∧ w = w' := by
  have q0 : 0 ≤ (IntKind.u64.wrap n).tmod many := Int.tmod_nonneg _ (by rw [IntKind.wrap_u64]; omega)
  have q1 : (IntKind.u64.wrap n).tmod many < many := Int.tmod_lt_of_pos _ h0
  unfold nearV
  obtain ⟨q, hq⟩ : ∃ q, (IntKind.u64.wrap n).tmod many = q := ⟨_, rfl⟩
  rw [hq] at q0 q1 ⊢
  have hm : IntKind.u64.wrap many = many := by rw [IntKind.wrap_u64]; omega
  have hz : (many == 0) = false := by rw [beq_eq_false_iff_ne]; omega
  go_enter Try.func49, Try.ntmps49
  go_wp2
  go_ret
  exact ⟨rfl, rfl⟩

def smallC (x : Chn) : Prop := x.r ≤ 30 ∧ x.d ≤ 4 ∧ x.h ≤ 4 ∧ x.li ≤ 60 ∧ x.ra ≤ 4 ∧ x.c ≤ 6
def ChnPost (P : Int) (w : World) (e : Ending) (w' : World) : Prop := ∃ x : Chn, e = .returned x.val ∧ rgt P x = true ∧ smallC x ∧ Below w.heap.size w w'
theorem turn_bd (f d P : Int) (h0 : 0 ≤ f) (h1 : f < P) (h2 : 1 ≤ d) (h3 : d < P) : 0 ≤ (f + d).tmod P ∧ (f + d).tmod P < P ∧ f ≠ (f + d).tmod P := by
  rw [Int.tmod_eq_emod_of_nonneg (by omega)]
  by_cases h : f + d < P
  · rw [Int.emod_eq_of_lt (by omega) h]; omega
  · have e : (f + d) % P = f + d - P := by
      rw [← Int.sub_emod_right, Int.emod_eq_of_lt (by omega) (by omega)]
    rw [e]; omega
/-- Behind a region of 'channel': its three blocks. -/
def ChCut (w : World) (g : Nat) (ck co : Array Value) (x : Chn) (W : World) : Prop := g ≠ w.heap.size ∧ g ≠ w.heap.size + 1 ∧ w.heap.size ≤ g ∧ Blk W w.heap.size 23 ck ∧ Blk W (w.heap.size + 1) 23 co ∧ Blk W g 23 x.cells.toArray ∧ Below w.heap.size w W
theorem ChCut.set_ {w W : World} {g : Nat} {ck co : Array Value} {x y : Chn} (h : ChCut w g ck co x W) (i : Nat) (z : Int) (hy : x.cells.toArray.setIfInBounds i (.int .i64 z) = y.cells.toArray) : ChCut w g ck co y (W.setCell ⟨g, i, none⟩ (.int .i64 z)) := by
  obtain ⟨n0, n1, hg, h0, h1, h2, hb⟩ := h
  exact ⟨n0, n1, hg, h0.far (p := ⟨g, i, none⟩) (by simpa using n0.symm) _, h1.far (p := ⟨g, i, none⟩) (by simpa using n1.symm) _, by rw [← hy]; exact h2.set_ i _, hb.setCell hg _⟩
theorem ChCut.drew {w W : World} {g : Nat} {ck co : Array Value} {x : Chn} (h : ChCut w g ck co x W) : ChCut w g ck co x W.drew := by
  obtain ⟨n0, n1, hg, h0, h1, h2, hb⟩ := h
  exact ⟨n0, n1, hg, h0, h1, h2, hb.drew⟩
def Cut1 (w : World) (ck co : Array Value) (x : Chn) (s5 : Value) (W : World) : Prop := ∃ g, s5 = .pointer (some ⟨g, 0, none⟩) ∧ ChCut w g ck co x W
def Cut2 (w : World) (g : Nat) (ck co : Array Value) (x : Chn) (W : World) : Prop := ChCut w g ck co x W
set_option maxHeartbeats 2000000 in
set_option maxRecDepth 100000 in
theorem channel_any (k : Chn) (P : Int) (hP : 2 ≤ P) (hP4 : P ≤ 4) (w : World) : Calls Try.prog 50 #[k.val, .int .i64 P] w (ChnPost P w) := by
  obtain ⟨k0, f0, t0, w0, r0, la0, d0, h0, li0, ra0, c0⟩ := k
  unfold Chn.val
  simp only
  have B0 := (Blk.new w 23 #[.int .i64 k0, .int .i64 f0, .int .i64 t0, .int .i64 w0, .int .i64 r0, .int .i64 la0, .int .i64 d0, .int .i64 h0, .int .i64 li0, .int .i64 ra0, .int .i64 c0]).alloc (.cells #[.int .i64 0, .int .i64 0, .int .i64 0, .int .i64 0, .int .i64 0, .int .i64 0, .int .i64 0, .int .i64 0, .int .i64 0, .int .i64 0, .int .i64 0] 23)
  have B1 := Blk.new_at (w := w.alloc (.cells #[.int .i64 k0, .int .i64 f0, .int .i64 t0, .int .i64 w0, .int .i64 r0, .int .i64 la0, .int .i64 d0, .int .i64 h0, .int .i64 li0, .int .i64 ra0, .int .i64 c0] 23)) (n := w.heap.size + 1) (by simp) 23 #[.int .i64 0, .int .i64 0, .int .i64 0, .int .i64 0, .int .i64 0, .int .i64 0, .int .i64 0, .int .i64 0, .int .i64 0, .int .i64 0, .int .i64 0]
  have HB : Below w.heap.size w ((w.alloc (.cells #[.int .i64 k0, .int .i64 f0, .int .i64 t0, .int .i64 w0, .int .i64 r0, .int .i64 la0, .int .i64 d0, .int .i64 h0, .int .i64 li0, .int .i64 ra0, .int .i64 c0] 23)).alloc (.cells #[.int .i64 0, .int .i64 0, .int .i64 0, .int .i64 0, .int .i64 0, .int .i64 0, .int .i64 0, .int .i64 0, .int .i64 0, .int .i64 0, .int .i64 0] 23)) := ba1 (b01 _ _) _
  have b0 := nearV_bd k0 0 2 (by omega)
  have b1 := nearV_bd f0 0 P (by omega)
  have b2 := nearV_bd w0 1 4 (by omega)
  go_enter Try.func50, Try.ntmps50
  go_upto_region 1 with fail
  generalize hW : (w.alloc (.cells #[.int .i64 k0, .int .i64 f0, .int .i64 t0, .int .i64 w0, .int .i64 r0, .int .i64 la0, .int .i64 d0, .int .i64 h0, .int .i64 li0, .int .i64 ra0, .int .i64 c0] 23)).alloc (.cells #[.int .i64 0, .int .i64 0, .int .i64 0, .int .i64 0, .int .i64 0, .int .i64 0, .int .i64 0, .int .i64 0, .int .i64 0, .int .i64 0, .int .i64 0] 23) = W1 at *
  clear hW
  have z0 := B0.lt
  have z1 := B1.lt
  have K0 : ∀ i, W1.drew.cell? ⟨w.heap.size, i, none⟩ = (#[.int .i64 k0, .int .i64 f0, .int .i64 t0, .int .i64 w0, .int .i64 r0, .int .i64 la0, .int .i64 d0, .int .i64 h0, .int .i64 li0, .int .i64 ra0, .int .i64 c0] : Array Value)[i]? := B0.cell
  go_cut [5] (fun s5 W => Cut1 w #[.int .i64 k0, .int .i64 f0, .int .i64 t0, .int .i64 w0, .int .i64 r0, .int .i64 la0, .int .i64 d0, .int .i64 h0, .int .i64 li0, .int .i64 ra0, .int .i64 c0] #[.int .i64 0, .int .i64 0, .int .i64 0, .int .i64 0, .int .i64 0, .int .i64 0, .int .i64 0, .int .i64 0, .int .i64 0, .int .i64 0, .int .i64 0] ⟨nearV k0 0 2, nearV f0 0 P, 0, nearV w0 1 4, 0, 0, 0, 0, 0, 0, 0⟩ s5 W)
  case first =>
    go_region_held3 (fun W => ∀ i, W.cell? ⟨w.heap.size, i, none⟩ = (#[.int .i64 k0, .int .i64 f0, .int .i64 t0, .int .i64 w0, .int .i64 r0, .int .i64 la0, .int .i64 d0, .int .i64 h0, .int .i64 li0, .int .i64 ra0, .int .i64 c0] : Array Value)[i]?)
      (first | exact K0 | exact ((show Blk W1.drew _ _ _ from B0).alloc _).cell)
      (first | (go_at_call 49; (with_reducible refine (near_any _ _ _ (by omega) (by omega) (by omega) (by omega) _).mono ?_); rintro e w' ⟨rfl, rfl⟩))
    all_goals
      go_wp2_with fail
      go_meet
      exact ⟨W1.heap.size, rfl, Nat.ne_of_gt z0, Nat.ne_of_gt z1, HB.size, (show Blk W1.drew _ _ _ from B0).alloc _, (show Blk W1.drew _ _ _ from B1).alloc _, Blk.new_at (by simp) _ _, ba1 HB.drew _⟩
  case rest =>
    obtain ⟨g, rfl, hcc⟩ := hcut
    clear B0 B1 HB z0 z1 K0
    have HC := Lib.hid hcc
    obtain ⟨n0, n1, hg, B0, B1, B2, HB⟩ := hcc
    have k1 : wc.drew.cell? ⟨g, 1, none⟩ = some (.int .i64 (nearV f0 0 P)) := B2.cell 1
    have k2 : wc.drew.cell? ⟨w.heap.size, 2, none⟩ = some (.int .i64 t0) := B0.cell 2
    have k3 : wc.cell? ⟨g, 2, none⟩ = some (.int .i64 0) := B2.cell 2
    have fz := B2.frozen 2
    have b3 := nearV_bd t0 1 (P - 1) (by omega)
    have b4 := turn_bd (nearV f0 0 P) (nearV t0 1 (P - 1)) P b1.1 (by omega) b3.1 (by omega)
    obtain ⟨y, hy⟩ : ∃ y, (nearV f0 0 P + nearV t0 1 (P - 1)).tmod P = y := ⟨_, rfl⟩
    rw [hy] at b4
    have hy2 : (nearV f0 0 P + nearV t0 1 (P - 1)) % P = y := by rw [← hy, Int.tmod_eq_emod_of_nonneg (by omega)]
    have hs0 : 0 ≤ nearV f0 0 P + nearV t0 1 (P - 1) := by omega
    have hP1 : IntKind.i64.wrap (P - 1) = P - 1 := IntWalk.i64_in _ (by omega)
    have hP2 : IntKind.i64.wrap (nearV f0 0 P + nearV t0 1 (P - 1)) = nearV f0 0 P + nearV t0 1 (P - 1) := IntWalk.i64_in _ (by omega)
    have hP3 : (P == 0) = false := by rw [beq_eq_false_iff_ne]; omega
    go_upto_region 2 with fail
    go_cut [] (fun W => Cut2 w g #[.int .i64 k0, .int .i64 f0, .int .i64 t0, .int .i64 w0, .int .i64 r0, .int .i64 la0, .int .i64 d0, .int .i64 h0, .int .i64 li0, .int .i64 ra0, .int .i64 c0] #[.int .i64 0, .int .i64 0, .int .i64 0, .int .i64 0, .int .i64 0, .int .i64 0, .int .i64 0, .int .i64 0, .int .i64 0, .int .i64 0, .int .i64 0] ⟨nearV k0 0 2, nearV f0 0 P, y, nearV w0 1 4, 0, 0, 0, 0, 0, 0, 0⟩ W)
    case first =>
      go_region_with (first | (go_at_call 49; (with_reducible refine (near_any _ _ _ (by omega) (by omega) (by omega) (by omega) _).mono ?_); rintro e w' ⟨rfl, rfl⟩))
      all_goals
        go_wp2_with fail
        go_meet
        exact ChCut.set_ (x := ⟨nearV k0 0 2, nearV f0 0 P, 0, nearV w0 1 4, 0, 0, 0, 0, 0, 0, 0⟩) HC.out.drew 2 y rfl
    case rest =>
      clear k1 k2 k3 fz hy hy2 hP1 hP2 hP3 B0 B1 B2 HB HC hs0
      obtain ⟨_, _, _, B0, B1, B2, HB⟩ := hcut
      have q0 := B0.cell
      have q1 := B1.cell
      have q2 := B2.cell
      have f1 := B1.frozen
      have f2 := B2.frozen
      have e0 : ¬ w.heap.size = g := fun e => n0 e.symm
      have e1 : ¬ w.heap.size + 1 = g := fun e => n1 e.symm
      have c1 := nearV_bd r0 1 30 (by omega)
      have c2 := nearV_bd la0 1 3 (by omega)
      have c3 := nearV_bd d0 1 4 (by omega)
      have c4 := nearV_bd h0 1 4 (by omega)
      have c5 := nearV_bd li0 1 60 (by omega)
      have c6 := nearV_bd ra0 0 5 (by omega)
      have c7 := nearV_bd c0 1 6 (by omega)
      unfold Chn.cells at q2
      clear B0 B1 B2
      by_cases hk : nearV k0 0 2 = 0
      · rw [hk] at q2
        go_wp2_with (go_at_call 49; (with_reducible refine (near_any _ _ _ (by omega) (by omega) (by omega) (by omega) _).mono ?_); rintro e w' ⟨rfl, rfl⟩)
        refine bodyPost_ret (v := (Chn.mk 0 (nearV f0 0 P) y (nearV w0 1 4) (nearV r0 1 30) 0 0 0 0 0 0).val) (by simp [results, Try.results50, go_sem, Chn.val, *]) rfl ⟨_, rfl, ?_, ?_, ?_⟩
        · simp only [rgt, knd, decide_eq_true_eq, true_and, and_true]; omega
        · simp only [smallC]; omega
        · repeat (refine Below.setCell ?_ (by first | exact hg | exact Nat.le_succ _) _)
          exact HB
      · have hk1 : nearV k0 0 2 = 1 := by omega
        rw [hk1] at q2
        go_wp2_with (go_at_call 49; (with_reducible refine (near_any _ _ _ (by omega) (by omega) (by omega) (by omega) _).mono ?_); rintro e w' ⟨rfl, rfl⟩)
        refine bodyPost_ret (v := (Chn.mk 1 (nearV f0 0 P) y (nearV w0 1 4) 0 (nearV la0 1 3) (nearV d0 1 4) (nearV h0 1 4) (nearV li0 1 60) (nearV ra0 0 5) (nearV c0 1 6)).val) (by simp [results, Try.results50, go_sem, Chn.val, *]) rfl ⟨_, rfl, ?_, ?_, ?_⟩
        · simp only [rgt, knd, decide_eq_true_eq, true_and, and_true]; omega
        · simp only [smallC]; omega
        · repeat (refine Below.setCell ?_ (by first | exact hg | exact Nat.le_succ _) _)
          exact HB
end Go.Proofs.Ytmfkapbllmfegaa.C04
