/- Texts laid together: AR2, AR1, AR3, AR4, AR5, AR6, AR0. -/
import Derived.Test.YtmfkapbllmfegaaAAll
import Derived.Test.YtmfkapbllmfegaaARef1
import Derived.Test.YtmfkapbllmfegaaKAll
import Derived.Test.YtmfkapbllmfegaaQLs
import Derived.Test.YtmfkapbllmfegaaMW
/- The document's own gate, by value, in its box. -/
namespace Go.Proofs.Ytmfkapbllmfegaa.A12
open Go.RowKit Go.Proofs.Ytmfkapbllmfegaa.G Go.Proofs.Ytmfkapbllmfegaa.L10 Go.Proofs.Ytmfkapbllmfegaa.C04 Go.Sort
set_option maxRecDepth 100000
/-- The document's gate, as it lies: its channel, its lanes, its bucket, its number. -/
structure Rg where
  k : Chn
  L : Nat
  P : Nat
  A : Option Addr
  c : Nat
  e : List MV
  R : Int
  C : Int
  T : Int
  N : Int
  q : Int
def rgc (x : Rg) : Array Value := #[.int .i64 x.k.k, .int .i64 x.k.f, .int .i64 x.k.t, .int .i64 x.k.w, .int .i64 x.k.r, .int .i64 x.k.la, .int .i64 x.k.d, .int .i64 x.k.h, .int .i64 x.k.li, .int .i64 x.k.ra, .int .i64 x.k.c, .int .i64 x.L, .int .i64 x.P, .slice x.A x.e.length x.c, .int .i64 x.R, .int .i64 x.C, .int .i64 x.T, .int .i64 x.N, .int .i64 x.q]
def rgv (x : Rg) : Value := .agg (rgc x)
def zG : Array Value := #[.int .i64 0, .int .i64 0, .int .i64 0, .int .i64 0, .int .i64 0, .int .i64 0, .int .i64 0, .int .i64 0, .int .i64 0, .int .i64 0, .int .i64 0, .int .i64 0, .int .i64 0, .slice none 0 0, .int .i64 0, .int .i64 0, .int .i64 0, .int .i64 0, .int .i64 0]
end Go.Proofs.Ytmfkapbllmfegaa.A12
/- The document's own Offer, where it refuses: a contract. -/
namespace Go.Proofs.Ytmfkapbllmfegaa.A12
open Go.RowKit Go.Proofs.Ytmfkapbllmfegaa.G Go.Proofs.Ytmfkapbllmfegaa.L10 Go.Proofs.Ytmfkapbllmfegaa.C04 Go.Sort
set_option maxRecDepth 100000
variable {w w' V V' : World}
set_option maxHeartbeats 4000000 in
theorem roffer_no {x : Rg} {A : Option Addr} {c : Nat} {ws : List Int} (mode lane now r : Int) (hr : Row w A (L10.iv ws)) (hl : ws.length ≤ 1000) (hj : jdg x.k mode lane ws ≠ 0) :
    Calls Try.prog 10 #[rgv x, .int .i64 mode, .int .i64 lane, .slice A ws.length c, .int .i64 now, .int .i64 r] w fun e w' => e = .returned (.tuple #[rgv x, z0.val, .int .i64 (jdg x.k mode lane ws)]) ∧ Below w.heap.size w w' := by
  have b1 := b01 w (.cells (rgc x) 35)
  have b2 := b01 (w.alloc (.cells (rgc x) 35)) (.cells zG 35)
  have b3 := b01 ((w.alloc (.cells (rgc x) 35)).alloc (.cells zG 35)) (.cells zC 43)
  have hb := bt (bt b1 b2) b3
  have HB := Lib.hid hb
  have HN0 := Lib.hid (((Blk.new w 35 (rgc x)).bel b2).bel b3)
  have HN1 := Lib.hid ((Blk.new_at (w := w.alloc (.cells (rgc x) 35)) (n := w.heap.size + 1) (by simp) 35 zG).bel b3)
  have HN2 := Lib.hid (Blk.new_at (w := (w.alloc (.cells (rgc x) 35)).alloc (.cells zG 35)) (n := w.heap.size + 1 + 1) (by simp) 43 zC)
  have HJ := Lib.hid (rjudge_any (c := c) x.k mode lane (hr.below hb) hl)
  have HJ0 := Lib.hid hj
  have tJ : (jdg x.k mode lane ws != 0) = true := by rw [bne_iff_ne]; exact hj
  clear b1 b2 b3 hb hr hl hj
  unfold rgv rgc zG zC at *
  unfold Chn.val at HJ
  generalize jdg x.k mode lane ws = J at *
  have q0 := HN0.out.cell
  go_enter Try.func10, Try.ntmps10
  go_wp2_with fail
  obtain ⟨kx, hkx⟩ : ∃ kx, w.heap.size = kx := ⟨_, rfl⟩
  obtain ⟨kg, hkg⟩ : ∃ kg, w.heap.size + 1 = kg := ⟨_, rfl⟩
  obtain ⟨km, hkm⟩ : ∃ km, w.heap.size + 1 + 1 = km := ⟨_, rfl⟩
  have HK : Hid (w.heap.size ≤ kg ∧ w.heap.size ≤ km) := by show w.heap.size ≤ kg ∧ w.heap.size ≤ km; omega
  rw [hkx] at HN0
  rw [hkg] at HN1
  rw [hkm] at HN2
  rw [hkm, hkg, hkx]
  clear hkx hkg hkm q0
  generalize ((w.alloc (.cells #[.int .i64 x.k.k, .int .i64 x.k.f, .int .i64 x.k.t, .int .i64 x.k.w, .int .i64 x.k.r, .int .i64 x.k.la, .int .i64 x.k.d, .int .i64 x.k.h, .int .i64 x.k.li, .int .i64 x.k.ra, .int .i64 x.k.c, .int .i64 x.L, .int .i64 x.P, .slice x.A x.e.length x.c, .int .i64 x.R, .int .i64 x.C, .int .i64 x.T, .int .i64 x.N, .int .i64 x.q] 35)).alloc (.cells #[.int .i64 0, .int .i64 0, .int .i64 0, .int .i64 0, .int .i64 0, .int .i64 0, .int .i64 0, .int .i64 0, .int .i64 0, .int .i64 0, .int .i64 0, .int .i64 0, .int .i64 0, .slice none 0 0, .int .i64 0, .int .i64 0, .int .i64 0, .int .i64 0, .int .i64 0] 35)).alloc (.cells #[.slice none 0 0, .int .i64 0, .int .i64 0, .int .i64 0, .int .i64 0] 43) = W0 at *
  refine HJ.out.mono ?_
  rintro e w1 ⟨rfl, hb1⟩
  have N0 := HN0.out.bel hb1
  have N1 := HN1.out.bel hb1
  have N2 := HN2.out.bel hb1
  have HB1 := Lib.hid (bt HB.out hb1)
  clear hb1 HN0 HN1 HN2 HJ HB
  go_upto_region 3 with fail
  refine wp_region_lit ?_
  refine wpl_load rfl _ _ rfl rfl N0 (d := .struct (Try.prog.fieldsOf 35)) (by kernel_rfl) rfl (by kernel_rfl) ?_
  simp only [Act.put, List.setIfInBounds_toArray, List.set_cons_zero, List.set_cons_succ]
  (refine wpList_plain rfl fun K hK => ?_); go_simp; (refine hK _ _ ?_); clear hK K
  (refine wpList_plain rfl fun K hK => ?_); go_simp; (refine hK _ _ ?_); clear hK K
  refine wpl_store rfl _ _ _ rfl rfl rfl N1 rfl (by kernel_rfl) (by simp [Value.oneCell']) fun W2 D1 O2 => ?_
  simp only [Act.put]
  have D2 := O2.blk N2 (fun e => N2.ne_ N1 (by decide) e)
  refine wpl_store rfl _ _ _ rfl rfl rfl D2 rfl (by kernel_rfl) (by simp [Value.oneCell']) fun W3 E2 O3 => ?_
  simp only [Act.put]
  have E1 := O3.blk D1 (fun e => N1.ne_ N2 (by decide) e)
  (refine wpList_plain rfl fun K hK => ?_); go_simp; (refine hK _ _ ?_); clear hK K
  refine wpList_nil ?_
  have hl1 := run_whole (P := Try.prog) (ty := 35) (d := .struct (Try.prog.fieldsOf 35)) E1 (by kernel_rfl) rfl (by kernel_rfl)
  have hl2 := run_whole (P := Try.prog) (ty := 43) (d := .struct (Try.prog.fieldsOf 43)) E2 (by kernel_rfl) rfl (by kernel_rfl)
  have HL := Lib.hid (And.intro hl1 hl2)
  clear hl1 hl2
  have HBB : Hid (Below w.heap.size w W3) := below_only (((Only.of HB1.out).trans_ (F := fun k => k = kg ∨ k = km) (O2.mono fun k hk => .inl hk)).trans_ (O3.mono fun k hk => .inr hk)) (fun k hk => by have := HK.out; rcases hk with rfl | rfl <;> omega)
  clear N0 N1 N2 D1 D2 E1 E2 O2 O3
  go_wp2_with fail
  obtain ⟨hl1, hl2⟩ := HL.out
  refine bodyPost_ret (v := .tuple #[.agg #[.int .i64 x.k.k, .int .i64 x.k.f, .int .i64 x.k.t, .int .i64 x.k.w, .int .i64 x.k.r, .int .i64 x.k.la, .int .i64 x.k.d, .int .i64 x.k.h, .int .i64 x.k.li, .int .i64 x.k.ra, .int .i64 x.k.c, .int .i64 x.L, .int .i64 x.P, .slice x.A x.e.length x.c, .int .i64 x.R, .int .i64 x.C, .int .i64 x.T, .int .i64 x.N, .int .i64 x.q], .agg #[.slice none 0 0, .int .i64 0, .int .i64 0, .int .i64 0, .int .i64 0], .int .i64 J]) ?_ rfl ⟨rfl, HBB.out⟩
  simp [results, Try.results10, asAddr, Result.andThen, hl1, hl2]
end Go.Proofs.Ytmfkapbllmfegaa.A12
/- The document's own Offer, where its lane is full: a contract. -/
namespace Go.Proofs.Ytmfkapbllmfegaa.A12
open Go.RowKit Go.Proofs.Ytmfkapbllmfegaa.G Go.Proofs.Ytmfkapbllmfegaa.L10 Go.Proofs.Ytmfkapbllmfegaa.C04 Go.Sort
set_option maxRecDepth 100000
variable {w w' V V' : World}
set_option maxHeartbeats 4000000 in
theorem roffer_full {x : Rg} {A : Option Addr} {c : Nat} {ws : List Int} (mode lane now r : Int) (hr : Row w A (L10.iv ws)) (hl : ws.length ≤ 1000) (hj : jdg x.k mode lane ws = 0) (he : Row w x.A (mvs x.e)) (hel : x.e.length ≤ 1000) (hP : x.P ≤ 8) (hro : room x.L x.P x.e lane = 0) :
    Calls Try.prog 10 #[rgv x, .int .i64 mode, .int .i64 lane, .slice A ws.length c, .int .i64 now, .int .i64 r] w fun e w' => e = .returned (.tuple #[rgv x, z0.val, .int .i64 2]) ∧ Below w.heap.size w w' := by
  have b1 := b01 w (.cells (rgc x) 35)
  have b2 := b01 (w.alloc (.cells (rgc x) 35)) (.cells zG 35)
  have b3 := b01 ((w.alloc (.cells (rgc x) 35)).alloc (.cells zG 35)) (.cells zC 43)
  have hb := bt (bt b1 b2) b3
  have HB := Lib.hid hb
  have HN0 := Lib.hid (((Blk.new w 35 (rgc x)).bel b2).bel b3)
  have HN1 := Lib.hid ((Blk.new_at (w := w.alloc (.cells (rgc x) 35)) (n := w.heap.size + 1) (by simp) 35 zG).bel b3)
  have HN2 := Lib.hid (Blk.new_at (w := (w.alloc (.cells (rgc x) 35)).alloc (.cells zG 35)) (n := w.heap.size + 1 + 1) (by simp) 43 zC)
  have HJ := Lib.hid (rjudge_any (c := c) x.k mode lane (hr.below hb) hl)
  have HRo := Lib.hid (fun V (hV : Below w.heap.size w V) => rroom_any (c := x.c) (L := x.L) (he.below hV) hel hP lane)
  rw [hro] at HRo
  rw [hj] at HJ
  clear b1 b2 b3 hb hr hl hj he hel hP hro
  unfold rgv rgc zG zC at *
  unfold Chn.val at HJ
  have q0 := HN0.out.cell
  go_enter Try.func10, Try.ntmps10
  go_wp2_with fail
  obtain ⟨kx, hkx⟩ : ∃ kx, w.heap.size = kx := ⟨_, rfl⟩
  obtain ⟨kg, hkg⟩ : ∃ kg, w.heap.size + 1 = kg := ⟨_, rfl⟩
  obtain ⟨km, hkm⟩ : ∃ km, w.heap.size + 1 + 1 = km := ⟨_, rfl⟩
  have HK : Hid (w.heap.size ≤ kg ∧ w.heap.size ≤ km) := by show w.heap.size ≤ kg ∧ w.heap.size ≤ km; omega
  rw [hkx] at HN0
  rw [hkg] at HN1
  rw [hkm] at HN2
  rw [hkm, hkg, hkx]
  clear hkx hkg hkm q0
  generalize ((w.alloc (.cells #[.int .i64 x.k.k, .int .i64 x.k.f, .int .i64 x.k.t, .int .i64 x.k.w, .int .i64 x.k.r, .int .i64 x.k.la, .int .i64 x.k.d, .int .i64 x.k.h, .int .i64 x.k.li, .int .i64 x.k.ra, .int .i64 x.k.c, .int .i64 x.L, .int .i64 x.P, .slice x.A x.e.length x.c, .int .i64 x.R, .int .i64 x.C, .int .i64 x.T, .int .i64 x.N, .int .i64 x.q] 35)).alloc (.cells #[.int .i64 0, .int .i64 0, .int .i64 0, .int .i64 0, .int .i64 0, .int .i64 0, .int .i64 0, .int .i64 0, .int .i64 0, .int .i64 0, .int .i64 0, .int .i64 0, .int .i64 0, .slice none 0 0, .int .i64 0, .int .i64 0, .int .i64 0, .int .i64 0, .int .i64 0] 35)).alloc (.cells #[.slice none 0 0, .int .i64 0, .int .i64 0, .int .i64 0, .int .i64 0] 43) = W0 at *
  refine HJ.out.mono ?_
  rintro e w1 ⟨rfl, hb1⟩
  have N0 := HN0.out.bel hb1
  have N1 := HN1.out.bel hb1
  have N2 := HN2.out.bel hb1
  have HB1 := Lib.hid (bt HB.out hb1)
  have q0 := N0.cell
  have HM := Lib.hid (And.intro N0 (And.intro N1 N2))
  clear hb1 HN0 HN1 HN2 HJ HB N0 N1 N2
  go_wp2_with fail
  refine (HRo.out _ HB1.out).mono ?_
  rintro e w2 ⟨rfl, hb2⟩
  have N0 := HM.out.1.bel hb2
  have N1 := HM.out.2.1.bel hb2
  have N2 := HM.out.2.2.bel hb2
  have HB2 := Lib.hid (bt HB1.out hb2)
  clear hb2 HM HRo HB1 q0
  go_upto_region 5 with fail
  refine wp_region_lit ?_
  refine wpl_load rfl _ _ rfl rfl N0 (d := .struct (Try.prog.fieldsOf 35)) (by kernel_rfl) rfl (by kernel_rfl) ?_
  simp only [Act.put, List.setIfInBounds_toArray, List.set_cons_zero, List.set_cons_succ]
  (refine wpList_plain rfl fun K hK => ?_); go_simp; (refine hK _ _ ?_); clear hK K
  refine wpl_store rfl _ _ _ rfl rfl rfl N1 rfl (by kernel_rfl) (by simp [Value.oneCell']) fun W2 D1 O2 => ?_
  simp only [Act.put]
  have D2 := O2.blk N2 (fun e => N2.ne_ N1 (by decide) e)
  refine wpl_store rfl _ _ _ rfl rfl rfl D2 rfl (by kernel_rfl) (by simp [Value.oneCell']) fun W3 E2 O3 => ?_
  simp only [Act.put]
  have E1 := O3.blk D1 (fun e => N1.ne_ N2 (by decide) e)
  (refine wpList_plain rfl fun K hK => ?_); go_simp; (refine hK _ _ ?_); clear hK K
  refine wpList_nil ?_
  have hl1 := run_whole (P := Try.prog) (ty := 35) (d := .struct (Try.prog.fieldsOf 35)) E1 (by kernel_rfl) rfl (by kernel_rfl)
  have hl2 := run_whole (P := Try.prog) (ty := 43) (d := .struct (Try.prog.fieldsOf 43)) E2 (by kernel_rfl) rfl (by kernel_rfl)
  have HL := Lib.hid (And.intro hl1 hl2)
  clear hl1 hl2
  have HBB : Hid (Below w.heap.size w W3) := below_only (((Only.of HB2.out).trans_ (F := fun k => k = kg ∨ k = km) (O2.mono fun k hk => .inl hk)).trans_ (O3.mono fun k hk => .inr hk)) (fun k hk => by have := HK.out; rcases hk with rfl | rfl <;> omega)
  clear N0 N1 N2 D1 D2 E1 E2 O2 O3
  go_wp2_with fail
  obtain ⟨hl1, hl2⟩ := HL.out
  refine bodyPost_ret (v := .tuple #[.agg #[.int .i64 x.k.k, .int .i64 x.k.f, .int .i64 x.k.t, .int .i64 x.k.w, .int .i64 x.k.r, .int .i64 x.k.la, .int .i64 x.k.d, .int .i64 x.k.h, .int .i64 x.k.li, .int .i64 x.k.ra, .int .i64 x.k.c, .int .i64 x.L, .int .i64 x.P, .slice x.A x.e.length x.c, .int .i64 x.R, .int .i64 x.C, .int .i64 x.T, .int .i64 x.N, .int .i64 x.q], .agg #[.slice none 0 0, .int .i64 0, .int .i64 0, .int .i64 0, .int .i64 0], .int .i64 2]) ?_ rfl ⟨rfl, HBB.out⟩
  simp [results, Try.results10, asAddr, Result.andThen, hl1, hl2]
end Go.Proofs.Ytmfkapbllmfegaa.A12
/- The document's own Offer, where its bucket is empty: a contract. -/
namespace Go.Proofs.Ytmfkapbllmfegaa.A12
open Go.RowKit Go.Proofs.Ytmfkapbllmfegaa.G Go.Proofs.Ytmfkapbllmfegaa.L10 Go.Proofs.Ytmfkapbllmfegaa.C04 Go.Sort
set_option maxRecDepth 100000
variable {w w' V V' : World}
set_option maxHeartbeats 4000000 in
theorem roffer_dry {x : Rg} {A : Option Addr} {c : Nat} {ws : List Int} (mode lane now r : Int) (hr : Row w A (L10.iv ws)) (hl : ws.length ≤ 1000) (hj : jdg x.k mode lane ws = 0) (he : Row w x.A (mvs x.e)) (hel : x.e.length ≤ 1000) (hP : x.P ≤ 8) (hro : room x.L x.P x.e lane ≠ 0) (hok : K11.Ok x.R x.C x.T x.N) (ht : K11.ctok x.R x.C x.T x.N r = 0) :
    Calls Try.prog 10 #[rgv x, .int .i64 mode, .int .i64 lane, .slice A ws.length c, .int .i64 now, .int .i64 r] w fun e w' => e = .returned (.tuple #[rgv { x with T := K11.less 0, N := K11.crnd x.N r }, z0.val, .int .i64 2]) ∧ Below w.heap.size w w' := by
  have b1 := b01 w (.cells (rgc x) 35)
  have b2 := b01 (w.alloc (.cells (rgc x) 35)) (.cells zG 35)
  have b3 := b01 ((w.alloc (.cells (rgc x) 35)).alloc (.cells zG 35)) (.cells zC 43)
  have hb := bt (bt b1 b2) b3
  have HB := Lib.hid hb
  have HN0 := Lib.hid (((Blk.new w 35 (rgc x)).bel b2).bel b3)
  have HN1 := Lib.hid ((Blk.new_at (w := w.alloc (.cells (rgc x) 35)) (n := w.heap.size + 1) (by simp) 35 zG).bel b3)
  have HN2 := Lib.hid (Blk.new_at (w := (w.alloc (.cells (rgc x) 35)).alloc (.cells zG 35)) (n := w.heap.size + 1 + 1) (by simp) 43 zC)
  have HJ := Lib.hid (rjudge_any (c := c) x.k mode lane (hr.below hb) hl)
  have HRo := Lib.hid (fun V (hV : Below w.heap.size w V) => rroom_any (c := x.c) (L := x.L) (he.below hV) hel hP lane)
  have HT := Lib.hid (fun V => K11.rtake_any hok r V)
  rw [ht, show ((0 : Int) != 0) = false from rfl] at HT
  generalize K11.crnd x.N r = N9 at *
  generalize K11.less 0 = T9 at *
  have tR : (room x.L x.P x.e lane == 0) = false := by rw [beq_eq_false_iff_ne]; exact hro
  generalize room x.L x.P x.e lane = R9 at *
  rw [hj] at HJ
  clear b1 b2 b3 hb hr hl hj he hel hP hro hok ht
  unfold rgv rgc zG zC at *
  unfold Chn.val at HJ
  have q0 := HN0.out.cell
  go_enter Try.func10, Try.ntmps10
  go_wp2_with fail
  obtain ⟨kx, hkx⟩ : ∃ kx, w.heap.size = kx := ⟨_, rfl⟩
  obtain ⟨kg, hkg⟩ : ∃ kg, w.heap.size + 1 = kg := ⟨_, rfl⟩
  obtain ⟨km, hkm⟩ : ∃ km, w.heap.size + 1 + 1 = km := ⟨_, rfl⟩
  have HK : Hid (w.heap.size ≤ kg ∧ w.heap.size ≤ km ∧ w.heap.size ≤ kx ∧ kx ≠ kg) := by show w.heap.size ≤ kg ∧ w.heap.size ≤ km ∧ w.heap.size ≤ kx ∧ kx ≠ kg; omega
  rw [hkx] at HN0
  rw [hkg] at HN1
  rw [hkm] at HN2
  rw [hkm, hkg, hkx]
  clear hkx hkg hkm q0
  generalize ((w.alloc (.cells #[.int .i64 x.k.k, .int .i64 x.k.f, .int .i64 x.k.t, .int .i64 x.k.w, .int .i64 x.k.r, .int .i64 x.k.la, .int .i64 x.k.d, .int .i64 x.k.h, .int .i64 x.k.li, .int .i64 x.k.ra, .int .i64 x.k.c, .int .i64 x.L, .int .i64 x.P, .slice x.A x.e.length x.c, .int .i64 x.R, .int .i64 x.C, .int .i64 x.T, .int .i64 x.N, .int .i64 x.q] 35)).alloc (.cells #[.int .i64 0, .int .i64 0, .int .i64 0, .int .i64 0, .int .i64 0, .int .i64 0, .int .i64 0, .int .i64 0, .int .i64 0, .int .i64 0, .int .i64 0, .int .i64 0, .int .i64 0, .slice none 0 0, .int .i64 0, .int .i64 0, .int .i64 0, .int .i64 0, .int .i64 0] 35)).alloc (.cells #[.slice none 0 0, .int .i64 0, .int .i64 0, .int .i64 0, .int .i64 0] 43) = W0 at *
  refine HJ.out.mono ?_
  rintro e w1 ⟨rfl, hb1⟩
  have N0 := HN0.out.bel hb1
  have N1 := HN1.out.bel hb1
  have N2 := HN2.out.bel hb1
  have HB1 := Lib.hid (bt HB.out hb1)
  have q0 := N0.cell
  have HM := Lib.hid (And.intro N0 (And.intro N1 N2))
  clear hb1 HN0 HN1 HN2 HJ HB N0 N1 N2
  go_wp2_with fail
  refine (HRo.out _ HB1.out).mono ?_
  rintro e w2 ⟨rfl, hb2⟩
  have HM2 := Lib.hid (And.intro (HM.out.1.bel hb2) (And.intro (HM.out.2.1.bel hb2) (HM.out.2.2.bel hb2)))
  have HB2 := Lib.hid (bt HB1.out hb2)
  have q0 := HM2.out.1.cell
  clear hb2 HM HRo HB1
  go_wp2_with fail
  refine (HT.out _).mono ?_
  rintro e w3 ⟨rfl, hb3⟩
  have HM3 := Lib.hid (And.intro (HM2.out.1.bel hb3) (And.intro (HM2.out.2.1.bel hb3) (HM2.out.2.2.bel hb3)))
  have HB3 := Lib.hid (bt HB2.out hb3)
  unfold K11.rB
  clear hb3 HM2 HB2 HT q0 tR
  go_upto_region 7 with fail
  have N4 := Blk.new w3 33 #[.int .i64 x.R, .int .i64 x.C, .int .i64 T9, .int .i64 N9]
  have N0 := HM3.out.1.alloc (.cells #[.int .i64 x.R, .int .i64 x.C, .int .i64 T9, .int .i64 N9] 33)
  have N1 := HM3.out.2.1.alloc (.cells #[.int .i64 x.R, .int .i64 x.C, .int .i64 T9, .int .i64 N9] 33)
  have N2 := HM3.out.2.2.alloc (.cells #[.int .i64 x.R, .int .i64 x.C, .int .i64 T9, .int .i64 N9] 33)
  have HB4 := Lib.hid (ba1 HB3.out (.cells #[.int .i64 x.R, .int .i64 x.C, .int .i64 T9, .int .i64 N9] 33))
  generalize w3.alloc (.cells #[.int .i64 x.R, .int .i64 x.C, .int .i64 T9, .int .i64 N9] 33) = W4 at *
  generalize w3.heap.size = kb at *
  clear HM3 HB3
  refine wp_region_lit ?_
  refine wpl_load rfl _ _ rfl rfl N4 (d := .struct (Try.prog.fieldsOf 33)) (by kernel_rfl) rfl (by kernel_rfl) ?_
  simp only [Act.put, List.setIfInBounds_toArray, List.set_cons_zero, List.set_cons_succ]
  (refine wpList_plain rfl fun K hK => ?_); go_simp; (refine hK _ _ ?_); clear hK K
  refine wpl_part rfl _ _ _ rfl rfl rfl N0 (by simp) (by kernel_rfl) (by simp [Value.oneCell']) fun W5 E0 O1 => ?_
  simp only [Act.put]
  have M0 : Blk W5 kx 35 #[.int .i64 x.k.k, .int .i64 x.k.f, .int .i64 x.k.t, .int .i64 x.k.w, .int .i64 x.k.r, .int .i64 x.k.la, .int .i64 x.k.d, .int .i64 x.k.h, .int .i64 x.k.li, .int .i64 x.k.ra, .int .i64 x.k.c, .int .i64 x.L, .int .i64 x.P, .slice x.A x.e.length x.c, .int .i64 x.R, .int .i64 x.C, .int .i64 T9, .int .i64 N9, .int .i64 x.q] := E0
  have M1 := O1.blk N1 (fun e => HK.out.2.2.2 e.symm)
  have M2 := O1.blk N2 (fun e => N0.ne_ N2 (by decide) e.symm)
  have HM5 := Lib.hid (And.intro M0 (And.intro M1 M2))
  have HO5 := Lib.hid O1
  refine wpList_nil ?_
  clear N0 N1 N2 N4 M0 M1 M2 E0 O1
  go_upto_region 9 with fail
  have N0 := HM5.out.1
  have N1 := HM5.out.2.1
  have N2 := HM5.out.2.2
  refine wp_region_lit ?_
  refine wpl_load rfl _ _ rfl rfl N0 (d := .struct (Try.prog.fieldsOf 35)) (by kernel_rfl) rfl (by kernel_rfl) ?_
  simp only [Act.put, List.setIfInBounds_toArray, List.set_cons_zero, List.set_cons_succ]
  (refine wpList_plain rfl fun K hK => ?_); go_simp; (refine hK _ _ ?_); clear hK K
  refine wpl_store rfl _ _ _ rfl rfl rfl N1 rfl (by kernel_rfl) (by simp [Value.oneCell']) fun W2 D1 O2 => ?_
  simp only [Act.put]
  have D2 := O2.blk N2 (fun e => N2.ne_ N1 (by decide) e)
  refine wpl_store rfl _ _ _ rfl rfl rfl D2 rfl (by kernel_rfl) (by simp [Value.oneCell']) fun W3 E2 O3 => ?_
  simp only [Act.put]
  have E1 := O3.blk D1 (fun e => N1.ne_ N2 (by decide) e)
  (refine wpList_plain rfl fun K hK => ?_); go_simp; (refine hK _ _ ?_); clear hK K
  refine wpList_nil ?_
  have hl1 := run_whole (P := Try.prog) (ty := 35) (d := .struct (Try.prog.fieldsOf 35)) E1 (by kernel_rfl) rfl (by kernel_rfl)
  have hl2 := run_whole (P := Try.prog) (ty := 43) (d := .struct (Try.prog.fieldsOf 43)) E2 (by kernel_rfl) rfl (by kernel_rfl)
  have HL := Lib.hid (And.intro hl1 hl2)
  clear hl1 hl2
  have HBB : Hid (Below w.heap.size w W3) := below_only ((((Only.of HB4.out).trans_ (F := fun k => k = kx ∨ k = kg ∨ k = km) (HO5.out.mono fun k hk => .inl hk)).trans_ (O2.mono fun k hk => .inr (.inl hk))).trans_ (O3.mono fun k hk => .inr (.inr hk))) (fun k hk => by have := HK.out; rcases hk with rfl | rfl | rfl <;> omega)
  clear N0 N1 N2 D1 D2 E1 E2 O2 O3
  go_wp2_with fail
  obtain ⟨hl1, hl2⟩ := HL.out
  refine bodyPost_ret (v := .tuple #[.agg #[.int .i64 x.k.k, .int .i64 x.k.f, .int .i64 x.k.t, .int .i64 x.k.w, .int .i64 x.k.r, .int .i64 x.k.la, .int .i64 x.k.d, .int .i64 x.k.h, .int .i64 x.k.li, .int .i64 x.k.ra, .int .i64 x.k.c, .int .i64 x.L, .int .i64 x.P, .slice x.A x.e.length x.c, .int .i64 x.R, .int .i64 x.C, .int .i64 T9, .int .i64 N9, .int .i64 x.q], .agg #[.slice none 0 0, .int .i64 0, .int .i64 0, .int .i64 0, .int .i64 0], .int .i64 2]) ?_ rfl ⟨rfl, HBB.out⟩
  simp [results, Try.results10, asAddr, Result.andThen, hl1, hl2]
end Go.Proofs.Ytmfkapbllmfegaa.A12
/- The document's own Offer, where the message goes on: a contract. -/
namespace Go.Proofs.Ytmfkapbllmfegaa.A12
open Go.RowKit Go.Proofs.Ytmfkapbllmfegaa.G Go.Proofs.Ytmfkapbllmfegaa.L10 Go.Proofs.Ytmfkapbllmfegaa.C04 Go.Sort
set_option maxRecDepth 100000
variable {w w' V V' : World}
/-- The words, appended to nothing: a step of a drawn region. -/
theorem step_appi {ops : Array Oper} {o : Oper} {a : Act} {K : Act → World → Prop} {Q : Exit → Act → World → Prop} {E : Prop} {w : World} (hgd : o.guard = none) (s x : Operand)
    (ho : o.op = .call { callee := .builtin .append, args := #[s, x], argTypes := #[38, 38] })
    {A : Option Addr} {c : Nat} {ws : List Int} (hs : a.eval s = .slice none 0 0) (hx : a.eval x = .slice A ws.length c) (hr : Row w A (L10.iv ws)) (hl : ws.length ≤ 1000)
    (h : ∀ A9 c9 w', Own w' w.heap.size 3 1 (.slice A9 ws.length c9) ws.length (L10.iv ws) → Below w.heap.size w w' → K (a.put o.dst (.slice A9 ws.length c9)) w') :
    if Region.wanted o (yielded ops a.tmps) = true then Oper.wp Try.prog o a w K Q else E := by
  obtain ⟨i0, hi, hz0, hz1, hz2⟩ := info_parts infoI
  obtain ⟨v', w', hrun, h2, h3, h5⟩ := run_app Try.underlying38 hi hz0 hz1 hz2 rfl (by decide) w o.type w.heap.size (.slice none 0 0) 0 [] (Own.nil_ _ _ _ _) A ws.length c (L10.iv ws) hr (by rw [L10.iv_len, Nat.mul_one]) (L10.iv_one ws) (by omega) (by decide) (Nat.le_refl _)
  rw [Nat.zero_add, List.nil_append] at h2
  obtain ⟨A9, c9, rfl, -⟩ := Own.row h2
  rw [if_pos (by simp [Region.wanted, hgd])]
  unfold Oper.wp execOp
  simp only [ho, resolve, invoke, builtin, Sem.run_bind, Sem.run_pure, Result.andThen_ok, List.map_toArray, List.map_cons, List.map_nil, hs, hx, hrun]
  exact h A9 c9 w' h2 ((Below.refl _ w).grown h3 (Nat.le_refl _) (fun k hk => by simp [Value.ownBlock] at hk))
/-- What the document's Offer answers where the message goes on. -/
def RoPost (w : World) (x : Rg) (M : Pm) (T1 N1 : Int) (e : Ending) (w' : World) : Prop := ∃ (m' : MV) (A' : Option Addr) (c' : Nat), e = .returned (.tuple #[rgv { x with A := A', c := c', e := insL x.e m', T := T1, N := N1, q := x.q + 1 }, m'.val, .int .i64 0]) ∧ m'.pl = M ∧ Wo w' w.heap.size m' ∧ Row w' A' (mvs (insL x.e m')) ∧ AOk A' c' ∧ (insL x.e m').length ≤ c' ∧ (∀ b o, A' = some ⟨b, o, none⟩ → w.heap.size ≤ b ∧ ∃ cur, Blk w' b 43 cur) ∧ Below w.heap.size w w'
set_option maxHeartbeats 4000000 in
theorem roffer_ok {x : Rg} {A : Option Addr} {c : Nat} {ws : List Int} (mode lane now r : Int) (hr : Row w A (L10.iv ws)) (hl : ws.length ≤ 1000) (hj : jdg x.k mode lane ws = 0) (he : Row w x.A (mvs x.e)) (hel : x.e.length ≤ 100) (hP : x.P ≤ 8) (hro : room x.L x.P x.e lane ≠ 0) (hok : K11.Ok x.R x.C x.T x.N) (ht : K11.ctok x.R x.C x.T x.N r ≠ 0) (hA : AOk x.A x.c) (hxc : x.e.length ≤ x.c) (hst : SrtL x.e) (hlv : isL x.L lane = true) (hcn : cnt x.e lane < x.P) (hq0 : 0 ≤ x.q) (hq1 : x.q ≤ 1000000) :
    Calls Try.prog 10 #[rgv x, .int .i64 mode, .int .i64 lane, .slice A ws.length c, .int .i64 now, .int .i64 r] w (RoPost w x ⟨ws, lane, Sat.cut now, Sat.add now x.k.li, x.q + 1⟩ (K11.less (K11.ctok x.R x.C x.T x.N r)) (K11.crnd x.N r)) := by
  have b1 := b01 w (.cells (rgc x) 35)
  have b2 := b01 (w.alloc (.cells (rgc x) 35)) (.cells zG 35)
  have b3 := b01 ((w.alloc (.cells (rgc x) 35)).alloc (.cells zG 35)) (.cells zC 43)
  have hb := bt (bt b1 b2) b3
  have HB := Lib.hid hb
  have HN0 := Lib.hid (((Blk.new w 35 (rgc x)).bel b2).bel b3)
  have HN1 := Lib.hid ((Blk.new_at (w := w.alloc (.cells (rgc x) 35)) (n := w.heap.size + 1) (by simp) 35 zG).bel b3)
  have HN2 := Lib.hid (Blk.new_at (w := (w.alloc (.cells (rgc x) 35)).alloc (.cells zG 35)) (n := w.heap.size + 1 + 1) (by simp) 43 zC)
  have HJ := Lib.hid (rjudge_any (c := c) x.k mode lane (hr.below hb) hl)
  have HRo := Lib.hid (fun V (hV : Below w.heap.size w V) => rroom_any (c := x.c) (L := x.L) (he.below hV) (by omega) hP lane)
  have HT := Lib.hid (fun V => K11.rtake_any hok r V)
  rw [show (K11.ctok x.R x.C x.T x.N r != 0) = true by rw [bne_iff_ne]; exact ht] at HT
  generalize K11.crnd x.N r = N9 at *
  generalize K11.less (K11.ctok x.R x.C x.T x.N r) = T9 at *
  have HPc : Hid (pcode x.L x.P x.e lane = 0) := pcode_of hro (by omega)
  have tR : (room x.L x.P x.e lane == 0) = false := by rw [beq_eq_false_iff_ne]; exact hro
  generalize room x.L x.P x.e lane = R9 at *
  rw [hj] at HJ
  have HR := Lib.hid hr
  have HST := Lib.hid hst
  have HL := Lib.hid hl
  have HP := Lib.hid (fun V (m : MV) (hV : Below w.heap.size w V) (hm : m.ln = lane) => rput_ok (L := x.L) (P := x.P) (m := m) (he.below hV) hA hxc hel hP hst (by rw [hm]; exact hlv) (by rw [hm]; exact hcn))
  have q1 : IntKind.i64.wrap (x.q + 1) = x.q + 1 := IntWalk.i64_in _ (by omega)
  unfold RoPost
  clear b1 b2 b3 hb hr hl hj he hel hP hro hok ht hA hxc hst hlv hcn hq0 hq1
  unfold rgv rgc zG zC at *
  unfold Chn.val at HJ
  have q0 := HN0.out.cell
  go_enter Try.func10, Try.ntmps10
  go_wp2_with fail
  obtain ⟨kx, hkx⟩ : ∃ kx, w.heap.size = kx := ⟨_, rfl⟩
  obtain ⟨kg, hkg⟩ : ∃ kg, w.heap.size + 1 = kg := ⟨_, rfl⟩
  obtain ⟨km, hkm⟩ : ∃ km, w.heap.size + 1 + 1 = km := ⟨_, rfl⟩
  have HK : Hid (w.heap.size ≤ kg ∧ w.heap.size ≤ km ∧ w.heap.size ≤ kx ∧ kx ≠ kg) := by show w.heap.size ≤ kg ∧ w.heap.size ≤ km ∧ w.heap.size ≤ kx ∧ kx ≠ kg; omega
  rw [hkx] at HN0
  rw [hkg] at HN1
  rw [hkm] at HN2
  rw [hkm, hkg, hkx]
  clear hkx hkg hkm q0
  generalize ((w.alloc (.cells #[.int .i64 x.k.k, .int .i64 x.k.f, .int .i64 x.k.t, .int .i64 x.k.w, .int .i64 x.k.r, .int .i64 x.k.la, .int .i64 x.k.d, .int .i64 x.k.h, .int .i64 x.k.li, .int .i64 x.k.ra, .int .i64 x.k.c, .int .i64 x.L, .int .i64 x.P, .slice x.A x.e.length x.c, .int .i64 x.R, .int .i64 x.C, .int .i64 x.T, .int .i64 x.N, .int .i64 x.q] 35)).alloc (.cells #[.int .i64 0, .int .i64 0, .int .i64 0, .int .i64 0, .int .i64 0, .int .i64 0, .int .i64 0, .int .i64 0, .int .i64 0, .int .i64 0, .int .i64 0, .int .i64 0, .int .i64 0, .slice none 0 0, .int .i64 0, .int .i64 0, .int .i64 0, .int .i64 0, .int .i64 0] 35)).alloc (.cells #[.slice none 0 0, .int .i64 0, .int .i64 0, .int .i64 0, .int .i64 0] 43) = W0 at *
  refine HJ.out.mono ?_
  rintro e w1 ⟨rfl, hb1⟩
  have N0 := HN0.out.bel hb1
  have N1 := HN1.out.bel hb1
  have N2 := HN2.out.bel hb1
  have HB1 := Lib.hid (bt HB.out hb1)
  have q0 := N0.cell
  have HM := Lib.hid (And.intro N0 (And.intro N1 N2))
  clear hb1 HN0 HN1 HN2 HJ HB N0 N1 N2
  go_wp2_with fail
  refine (HRo.out _ HB1.out).mono ?_
  rintro e w2 ⟨rfl, hb2⟩
  have HM2 := Lib.hid (And.intro (HM.out.1.bel hb2) (And.intro (HM.out.2.1.bel hb2) (HM.out.2.2.bel hb2)))
  have HB2 := Lib.hid (bt HB1.out hb2)
  have q0 := HM2.out.1.cell
  clear hb2 HM HRo HB1
  go_wp2_with fail
  refine (HT.out _).mono ?_
  rintro e w3 ⟨rfl, hb3⟩
  have HM3 := Lib.hid (And.intro (HM2.out.1.bel hb3) (And.intro (HM2.out.2.1.bel hb3) (HM2.out.2.2.bel hb3)))
  have HB3 := Lib.hid (bt HB2.out hb3)
  unfold K11.rB
  clear hb3 HM2 HB2 HT q0 tR
  go_upto_region 7 with fail
  have N4 := Blk.new w3 33 #[.int .i64 x.R, .int .i64 x.C, .int .i64 T9, .int .i64 N9]
  have N0 := HM3.out.1.alloc (.cells #[.int .i64 x.R, .int .i64 x.C, .int .i64 T9, .int .i64 N9] 33)
  have N1 := HM3.out.2.1.alloc (.cells #[.int .i64 x.R, .int .i64 x.C, .int .i64 T9, .int .i64 N9] 33)
  have N2 := HM3.out.2.2.alloc (.cells #[.int .i64 x.R, .int .i64 x.C, .int .i64 T9, .int .i64 N9] 33)
  have HB4 := Lib.hid (ba1 HB3.out (.cells #[.int .i64 x.R, .int .i64 x.C, .int .i64 T9, .int .i64 N9] 33))
  generalize w3.alloc (.cells #[.int .i64 x.R, .int .i64 x.C, .int .i64 T9, .int .i64 N9] 33) = W4 at *
  generalize w3.heap.size = kb at *
  clear HM3 HB3
  refine wp_region_lit ?_
  refine wpl_load rfl _ _ rfl rfl N4 (d := .struct (Try.prog.fieldsOf 33)) (by kernel_rfl) rfl (by kernel_rfl) ?_
  simp only [Act.put, List.setIfInBounds_toArray, List.set_cons_zero, List.set_cons_succ]
  (refine wpList_plain rfl fun K hK => ?_); go_simp; (refine hK _ _ ?_); clear hK K
  refine wpl_part rfl _ _ _ rfl rfl rfl N0 (by simp) (by kernel_rfl) (by simp [Value.oneCell']) fun W5 E0 O1 => ?_
  simp only [Act.put]
  have M0 : Blk W5 kx 35 #[.int .i64 x.k.k, .int .i64 x.k.f, .int .i64 x.k.t, .int .i64 x.k.w, .int .i64 x.k.r, .int .i64 x.k.la, .int .i64 x.k.d, .int .i64 x.k.h, .int .i64 x.k.li, .int .i64 x.k.ra, .int .i64 x.k.c, .int .i64 x.L, .int .i64 x.P, .slice x.A x.e.length x.c, .int .i64 x.R, .int .i64 x.C, .int .i64 T9, .int .i64 N9, .int .i64 x.q] := E0
  have M1 := O1.blk N1 (fun e => HK.out.2.2.2 e.symm)
  have M2 := O1.blk N2 (fun e => N0.ne_ N2 (by decide) e.symm)
  have HM5 := Lib.hid (And.intro M0 (And.intro M1 M2))
  have HO5 := Lib.hid O1
  refine wpList_nil ?_
  clear N0 N1 N2 N4 M0 M1 M2 E0 O1
  have q0 := HM5.out.1.cell
  have f0 := HM5.out.1.frozen
  have HB5 := Lib.hid (below_only ((Only.of HB4.out).trans_ (F := fun k => k = kx) HO5.out) (fun k hk => by have := HK.out; omega))
  clear HO5 HB4
  go_upto_region 12 with fail
  have N0 : Blk (W5.setCell ⟨kx, 18, none⟩ (.int .i64 (x.q + 1))) kx 35 #[.int .i64 x.k.k, .int .i64 x.k.f, .int .i64 x.k.t, .int .i64 x.k.w, .int .i64 x.k.r, .int .i64 x.k.la, .int .i64 x.k.d, .int .i64 x.k.h, .int .i64 x.k.li, .int .i64 x.k.ra, .int .i64 x.k.c, .int .i64 x.L, .int .i64 x.P, .slice x.A x.e.length x.c, .int .i64 x.R, .int .i64 x.C, .int .i64 T9, .int .i64 N9, .int .i64 (x.q + 1)] := HM5.out.1.set_ 18 (.int .i64 (x.q + 1))
  have N1 := HM5.out.2.1.far (p := ⟨kx, 18, none⟩) (fun e => HK.out.2.2.2 e.symm) (.int .i64 (x.q + 1))
  have N2 := HM5.out.2.2.far (p := ⟨kx, 18, none⟩) (fun e => HM5.out.1.ne_ HM5.out.2.2 (by decide) e.symm) (.int .i64 (x.q + 1))
  have HB6 := Lib.hid (HB5.out.setCell (p := ⟨kx, 18, none⟩) HK.out.2.2.1 (.int .i64 (x.q + 1)))
  have HM6 := Lib.hid (And.intro N0 (And.intro N1 N2))
  clear N0 N1 N2 HM5 HB5 q0 f0 q1
  generalize W5.setCell ⟨kx, 18, none⟩ (.int .i64 (x.q + 1)) = W6 at *
  have S1 : Below W6.heap.size W6 W6.drew := (Below.refl _ _).drew
  have hHeld := (HM6.out.1.bel S1).cell
  go_cut [19] (fun v V => ∃ (kn : Nat) (A9 : Option Addr) (c9 : Nat), v = .pointer (some ⟨kn, 0, none⟩) ∧ W6.heap.size ≤ kn ∧ Own V W6.heap.size 3 1 (.slice A9 ws.length c9) ws.length (L10.iv ws) ∧ Blk V kn 43 #[.slice A9 ws.length c9, .int .i64 lane, .int .i64 (Sat.cut now), .int .i64 (Sat.add now x.k.li), .int .i64 (x.q + 1)] ∧ Below W6.heap.size W6 V)
  case first =>
    refine wp_region_held_drew (S := fun V => ∀ i, V.cell? ⟨kx, i, none⟩ = (#[.int .i64 x.k.k, .int .i64 x.k.f, .int .i64 x.k.t, .int .i64 x.k.w, .int .i64 x.k.r, .int .i64 x.k.la, .int .i64 x.k.d, .int .i64 x.k.h, .int .i64 x.k.li, .int .i64 x.k.ra, .int .i64 x.k.c, .int .i64 x.L, .int .i64 x.P, .slice x.A x.e.length x.c, .int .i64 x.R, .int .i64 x.C, .int .i64 T9, .int .i64 N9, .int .i64 (x.q + 1)] : Array Value)[i]?) (by kernel_rfl) hHeld (fun _ => ?_)
    generalize W6.drew = W7 at *
    refine' wpAnyH_take (i := 0) (oi := _) (v := _) ?hi1 (by kernel_rfl) (by kernel_rfl) (by kernel_rfl) ?hQ1 (Or.inl ⟨?hw1, ?hy1⟩) ?hT1 ?h1
    case hi1 => (simp only [List.getElem?_toArray, List.getElem?_cons_succ, List.getElem?_cons_zero]; rfl)
    case hQ1 => exact fun _ _ _ h => h
    case hw1 => rfl
    case hy1 => (intro V hSw; go_simp; (try with_reducible rfl))
    case hT1 => assumption
    case' h1 => skip
    try simp only [Act.put, List.setIfInBounds_toArray, List.set_cons_zero, List.set_cons_succ]
    refine' wpAnyH_take (i := 1) (oi := _) (v := _) ?hi2 (by kernel_rfl) (by kernel_rfl) (by kernel_rfl) ?hQ2 (Or.inl ⟨?hw2, ?hy2⟩) ?hT2 ?h2
    case hi2 => (simp only [List.getElem?_toArray, List.getElem?_cons_succ, List.getElem?_cons_zero]; rfl)
    case hQ2 => exact fun _ _ _ h => h
    case hw2 => rfl
    case hy2 => (intro V hSw; go_simp; (try with_reducible rfl))
    case hT2 => assumption
    case' h2 => skip
    try simp only [Act.put, List.setIfInBounds_toArray, List.set_cons_zero, List.set_cons_succ]
    refine' wpAnyH_take (i := 3) (oi := _) (v := _) ?hi3 (by kernel_rfl) (by kernel_rfl) (by kernel_rfl) ?hQ3 (Or.inl ⟨?hw3, ?hy3⟩) ?hT3 ?h3
    case hi3 => (simp only [List.getElem?_toArray, List.getElem?_cons_succ, List.getElem?_cons_zero]; rfl)
    case hQ3 => exact fun _ _ _ h => h
    case hw3 => rfl
    case hy3 => (intro V hSw; go_simp; (try with_reducible rfl))
    case hT3 => assumption
    case' h3 => skip
    try simp only [Act.put, List.setIfInBounds_toArray, List.set_cons_zero, List.set_cons_succ]
    refine' wpAnyH_take (i := 4) (oi := _) (v := _) ?hi4 (by kernel_rfl) (by kernel_rfl) (by kernel_rfl) ?hQ4 (Or.inl ⟨?hw4, ?hy4⟩) ?hT4 ?h4
    case hi4 => (simp only [List.getElem?_toArray, List.getElem?_cons_succ, List.getElem?_cons_zero]; rfl)
    case hQ4 => exact fun _ _ _ h => h
    case hw4 => rfl
    case hy4 => (intro V hSw; go_simp; (try with_reducible rfl))
    case hT4 => assumption
    case' h4 => skip
    try simp only [Act.put, List.setIfInBounds_toArray, List.set_cons_zero, List.set_cons_succ]
    refine' wpAnyH_take (i := 6) (oi := _) (v := _) ?hi5 (by kernel_rfl) (by kernel_rfl) (by kernel_rfl) ?hQ5 (Or.inl ⟨?hw5, ?hy5⟩) ?hT5 ?h5
    case hi5 => (simp only [List.getElem?_toArray, List.getElem?_cons_succ, List.getElem?_cons_zero]; rfl)
    case hQ5 => exact fun _ _ _ h => h
    case hw5 => rfl
    case hy5 => (intro V hSw; go_simp; (try with_reducible rfl))
    case hT5 => assumption
    case' h5 => skip
    try simp only [Act.put, List.setIfInBounds_toArray, List.set_cons_zero, List.set_cons_succ]
    refine' wpAnyH_take (i := 7) (oi := _) (v := _) ?hi6 (by kernel_rfl) (by kernel_rfl) (by kernel_rfl) ?hQ6 (Or.inl ⟨?hw6, ?hy6⟩) ?hT6 ?h6
    case hi6 => (simp only [List.getElem?_toArray, List.getElem?_cons_succ, List.getElem?_cons_zero]; rfl)
    case hQ6 => exact fun _ _ _ h => h
    case hw6 => rfl
    case hy6 => (intro V hSw; go_simp; (try with_reducible rfl))
    case hT6 => assumption
    case' h6 => skip
    try simp only [Act.put, List.setIfInBounds_toArray, List.set_cons_zero, List.set_cons_succ]
    refine' wpAnyH_take (i := 8) (oi := _) (v := _) ?hi7 (by kernel_rfl) (by kernel_rfl) (by kernel_rfl) ?hQ7 (Or.inl ⟨?hw7, ?hy7⟩) ?hT7 ?h7
    case hi7 => (simp only [List.getElem?_toArray, List.getElem?_cons_succ, List.getElem?_cons_zero]; rfl)
    case hQ7 => exact fun _ _ _ h => h
    case hw7 => rfl
    case hy7 => (intro V hSw; go_simp; (try with_reducible rfl))
    case hT7 => assumption
    case' h7 => skip
    try simp only [Act.put, List.setIfInBounds_toArray, List.set_cons_zero, List.set_cons_succ]
    refine' wpAnyH_take (i := 9) (oi := _) (v := _) ?hi8 (by kernel_rfl) (by kernel_rfl) (by kernel_rfl) ?hQ8 (Or.inl ⟨?hw8, ?hy8⟩) ?hT8 ?h8
    case hi8 => (simp only [List.getElem?_toArray, List.getElem?_cons_succ, List.getElem?_cons_zero]; rfl)
    case hQ8 => exact fun _ _ _ h => h
    case hw8 => rfl
    case hy8 => (intro V hSw; go_simp; (try with_reducible rfl))
    case hT8 => assumption
    case' h8 => skip
    try simp only [Act.put, List.setIfInBounds_toArray, List.set_cons_zero, List.set_cons_succ]
    refine' wpAnyH_take (i := 11) (oi := _) (v := _) ?hi9 (by kernel_rfl) (by kernel_rfl) (by kernel_rfl) ?hQ9 (Or.inl ⟨?hw9, ?hy9⟩) ?hT9 ?h9
    case hi9 => (simp only [List.getElem?_toArray, List.getElem?_cons_succ, List.getElem?_cons_zero]; rfl)
    case hQ9 => exact fun _ _ _ h => h
    case hw9 => rfl
    case hy9 => (intro V hSw; go_simp; (try with_reducible rfl))
    case hT9 => assumption
    case' h9 => skip
    try simp only [Act.put, List.setIfInBounds_toArray, List.set_cons_zero, List.set_cons_succ]
    refine' wpAnyH_take (i := 12) (oi := _) (v := _) ?hi10 (by kernel_rfl) (by kernel_rfl) (by kernel_rfl) ?hQ10 (Or.inl ⟨?hw10, ?hy10⟩) ?hT10 ?h10
    case hi10 => (simp only [List.getElem?_toArray, List.getElem?_cons_succ, List.getElem?_cons_zero]; rfl)
    case hQ10 => exact fun _ _ _ h => h
    case hw10 => rfl
    case hy10 => (intro V hSw; go_simp; (try with_reducible rfl))
    case hT10 => assumption
    case' h10 => skip
    try simp only [Act.put, List.setIfInBounds_toArray, List.set_cons_zero, List.set_cons_succ]
    refine wpAnyH_ready (rs := [2, 14]) (by kernel_rfl) (by simp) ?_
    refine' AllReadyH.cons (o := _) ?ho11 (fun K hK => ?g11) ?s11
    case ho11 => (simp only [List.getElem?_toArray, List.getElem?_cons_succ, List.getElem?_cons_zero]; rfl)
    case g11 =>
      refine step_appi rfl _ _ rfl rfl rfl (HR.out.below (bt HB6.out S1)) HL.out ?_
      intro A9 c9 w9 ho hb
      have AP := ho.less S1.size
      have S1 := bt S1 hb
      clear ho hb
      refine hK.out _ _ (HM6.out.1.bel S1).cell (fun hHeld => ?_)
      clear hK K
      try simp only [Act.put, List.setIfInBounds_toArray, List.set_cons_zero, List.set_cons_succ]
      refine wpAnyH_ready (rs := [5, 14]) (by kernel_rfl) (by simp) ?_
      refine' AllReadyH.cons (o := _) ?ho12 (fun K hK => ?g12) ?s12
      case ho12 => (simp only [List.getElem?_toArray, List.getElem?_cons_succ, List.getElem?_cons_zero]; rfl)
      case g12 =>
        go_simp
        go_at_call 33
        refine (Sat.rcut_any _ _).mono ?_
        rintro e w' ⟨rfl, rfl⟩
        refine hK.out _ _ (HM6.out.1.bel S1).cell (fun hHeld => ?_)
        clear hK K
        try simp only [Act.put, List.setIfInBounds_toArray, List.set_cons_zero, List.set_cons_succ]
        refine wpAnyH_ready (rs := [10, 14]) (by kernel_rfl) (by simp) ?_
        refine' AllReadyH.cons (o := _) ?ho13 (fun K hK => ?g13) ?s13
        case ho13 => (simp only [List.getElem?_toArray, List.getElem?_cons_succ, List.getElem?_cons_zero]; rfl)
        case g13 =>
          go_simp
          go_at_call 34
          refine (Sat.radd_any _ _ _).mono ?_
          rintro e w' ⟨rfl, rfl⟩
          refine hK.out _ _ (HM6.out.1.bel S1).cell (fun hHeld => ?_)
          clear hK K
          try simp only [Act.put, List.setIfInBounds_toArray, List.set_cons_zero, List.set_cons_succ]
          refine' wpAnyH_take (i := 13) (oi := _) (v := _) ?hi14 (by kernel_rfl) (by kernel_rfl) (by kernel_rfl) ?hQ14 (Or.inl ⟨?hw14, ?hy14⟩) ?hT14 ?h14
          case hi14 => (simp only [List.getElem?_toArray, List.getElem?_cons_succ, List.getElem?_cons_zero]; rfl)
          case hQ14 => exact fun _ _ _ h => h
          case hw14 => rfl
          case hy14 => (intro V hSw; go_simp; (try with_reducible rfl))
          case hT14 => assumption
          case' h14 => skip
          try simp only [Act.put, List.setIfInBounds_toArray, List.set_cons_zero, List.set_cons_succ]
          refine wpAnyH_ready (rs := [14]) (by kernel_rfl) (by simp) ?_
          refine' AllReadyH.cons (o := _) ?ho15 (fun K hK => ?g15) ?s15
          case ho15 => (simp only [List.getElem?_toArray, List.getElem?_cons_succ, List.getElem?_cons_zero]; rfl)
          case g15 =>
            go_simp
            have NB := Blk.new w9 43 #[.slice none 0 0, .int .i64 0, .int .i64 0, .int .i64 0, .int .i64 0]
            have KN := S1.size
            have AP := AP.below (b01 w9 (.cells #[.slice none 0 0, .int .i64 0, .int .i64 0, .int .i64 0, .int .i64 0] 43))
            have S1 := ba1 S1 (.cells #[.slice none 0 0, .int .i64 0, .int .i64 0, .int .i64 0, .int .i64 0] 43)
            refine hK.out _ _ (HM6.out.1.bel S1).cell (fun hHeld => ?_)
            clear hK K
            try simp only [Act.put, List.setIfInBounds_toArray, List.set_cons_zero, List.set_cons_succ]
            refine wpAnyH_ready (rs := [15]) (by kernel_rfl) (by simp) ?_
            refine' AllReadyH.cons (o := _) ?ho16 (fun K hK => ?g16) ?s16
            case ho16 => (simp only [List.getElem?_toArray, List.getElem?_cons_succ, List.getElem?_cons_zero]; rfl)
            case s16 => exact AllReadyH.nil
            rw [if_pos (by rfl)]
            refine wps_store _ _ _ rfl (cs' := #[.slice A9 ws.length c9, .int .i64 lane, .int .i64 (Sat.cut now), .int .i64 (Sat.add now x.k.li), .int .i64 (x.q + 1)]) rfl rfl NB rfl (by kernel_rfl) (by simp [Value.oneCell']) fun W2 D O => ?_
            refine hK.out _ _ (O.blk (HM6.out.1.bel S1) (fun e => (HM6.out.1.bel S1).ne_ NB (by decide) e)).cell (fun hHeld => ?_)
            clear hK K
            try simp only [Act.put, List.setIfInBounds_toArray, List.set_cons_zero, List.set_cons_succ]
            refine wpAnyH_done (by kernel_rfl) ?_ _
            have AP2 := O.own AP fun g hg => by obtain ⟨_, cur, hc⟩ := Own.block_lt AP hg; exact fun e => hc.ne_ NB (by decide) e
            have hB := below_only ((Only.of S1).trans_ O) (fun k hk => by have e : k = _ := hk; omega)
            go_wp2_with fail
            go_meet
            exact ⟨_, A9, c9, rfl, KN, AP2, D, hB⟩
          case' s15 => skip
          exact AllReadyH.nil
        case' s13 => skip
        refine' AllReadyH.cons (o := _) ?ho17 (fun K hK => ?g17) ?s17
        case ho17 => (simp only [List.getElem?_toArray, List.getElem?_cons_succ, List.getElem?_cons_zero]; rfl)
        case g17 =>
          go_simp
          have NB := Blk.new w9 43 #[.slice none 0 0, .int .i64 0, .int .i64 0, .int .i64 0, .int .i64 0]
          have KN := S1.size
          have AP := AP.below (b01 w9 (.cells #[.slice none 0 0, .int .i64 0, .int .i64 0, .int .i64 0, .int .i64 0] 43))
          have S1 := ba1 S1 (.cells #[.slice none 0 0, .int .i64 0, .int .i64 0, .int .i64 0, .int .i64 0] 43)
          refine hK.out _ _ (HM6.out.1.bel S1).cell (fun hHeld => ?_)
          clear hK K
          try simp only [Act.put, List.setIfInBounds_toArray, List.set_cons_zero, List.set_cons_succ]
          refine wpAnyH_ready (rs := [10]) (by kernel_rfl) (by simp) ?_
          refine' AllReadyH.cons (o := _) ?ho18 (fun K hK => ?g18) ?s18
          case ho18 => (simp only [List.getElem?_toArray, List.getElem?_cons_succ, List.getElem?_cons_zero]; rfl)
          case g18 =>
            go_simp
            go_at_call 34
            refine (Sat.radd_any _ _ _).mono ?_
            rintro e w' ⟨rfl, rfl⟩
            refine hK.out _ _ (HM6.out.1.bel S1).cell (fun hHeld => ?_)
            clear hK K
            try simp only [Act.put, List.setIfInBounds_toArray, List.set_cons_zero, List.set_cons_succ]
            refine' wpAnyH_take (i := 13) (oi := _) (v := _) ?hi19 (by kernel_rfl) (by kernel_rfl) (by kernel_rfl) ?hQ19 (Or.inl ⟨?hw19, ?hy19⟩) ?hT19 ?h19
            case hi19 => (simp only [List.getElem?_toArray, List.getElem?_cons_succ, List.getElem?_cons_zero]; rfl)
            case hQ19 => exact fun _ _ _ h => h
            case hw19 => rfl
            case hy19 => (intro V hSw; go_simp; (try with_reducible rfl))
            case hT19 => assumption
            case' h19 => skip
            try simp only [Act.put, List.setIfInBounds_toArray, List.set_cons_zero, List.set_cons_succ]
            refine wpAnyH_ready (rs := [15]) (by kernel_rfl) (by simp) ?_
            refine' AllReadyH.cons (o := _) ?ho20 (fun K hK => ?g20) ?s20
            case ho20 => (simp only [List.getElem?_toArray, List.getElem?_cons_succ, List.getElem?_cons_zero]; rfl)
            case s20 => exact AllReadyH.nil
            rw [if_pos (by rfl)]
            refine wps_store _ _ _ rfl (cs' := #[.slice A9 ws.length c9, .int .i64 lane, .int .i64 (Sat.cut now), .int .i64 (Sat.add now x.k.li), .int .i64 (x.q + 1)]) rfl rfl NB rfl (by kernel_rfl) (by simp [Value.oneCell']) fun W2 D O => ?_
            refine hK.out _ _ (O.blk (HM6.out.1.bel S1) (fun e => (HM6.out.1.bel S1).ne_ NB (by decide) e)).cell (fun hHeld => ?_)
            clear hK K
            try simp only [Act.put, List.setIfInBounds_toArray, List.set_cons_zero, List.set_cons_succ]
            refine wpAnyH_done (by kernel_rfl) ?_ _
            have AP2 := O.own AP fun g hg => by obtain ⟨_, cur, hc⟩ := Own.block_lt AP hg; exact fun e => hc.ne_ NB (by decide) e
            have hB := below_only ((Only.of S1).trans_ O) (fun k hk => by have e : k = _ := hk; omega)
            go_wp2_with fail
            go_meet
            exact ⟨_, A9, c9, rfl, KN, AP2, D, hB⟩
          case' s18 => skip
          exact AllReadyH.nil
        case' s17 => skip
        exact AllReadyH.nil
      case' s12 => skip
      refine' AllReadyH.cons (o := _) ?ho21 (fun K hK => ?g21) ?s21
      case ho21 => (simp only [List.getElem?_toArray, List.getElem?_cons_succ, List.getElem?_cons_zero]; rfl)
      case g21 =>
        go_simp
        have NB := Blk.new w9 43 #[.slice none 0 0, .int .i64 0, .int .i64 0, .int .i64 0, .int .i64 0]
        have KN := S1.size
        have AP := AP.below (b01 w9 (.cells #[.slice none 0 0, .int .i64 0, .int .i64 0, .int .i64 0, .int .i64 0] 43))
        have S1 := ba1 S1 (.cells #[.slice none 0 0, .int .i64 0, .int .i64 0, .int .i64 0, .int .i64 0] 43)
        refine hK.out _ _ (HM6.out.1.bel S1).cell (fun hHeld => ?_)
        clear hK K
        try simp only [Act.put, List.setIfInBounds_toArray, List.set_cons_zero, List.set_cons_succ]
        refine wpAnyH_ready (rs := [5]) (by kernel_rfl) (by simp) ?_
        refine' AllReadyH.cons (o := _) ?ho22 (fun K hK => ?g22) ?s22
        case ho22 => (simp only [List.getElem?_toArray, List.getElem?_cons_succ, List.getElem?_cons_zero]; rfl)
        case g22 =>
          go_simp
          go_at_call 33
          refine (Sat.rcut_any _ _).mono ?_
          rintro e w' ⟨rfl, rfl⟩
          refine hK.out _ _ (HM6.out.1.bel S1).cell (fun hHeld => ?_)
          clear hK K
          try simp only [Act.put, List.setIfInBounds_toArray, List.set_cons_zero, List.set_cons_succ]
          refine wpAnyH_ready (rs := [10]) (by kernel_rfl) (by simp) ?_
          refine' AllReadyH.cons (o := _) ?ho23 (fun K hK => ?g23) ?s23
          case ho23 => (simp only [List.getElem?_toArray, List.getElem?_cons_succ, List.getElem?_cons_zero]; rfl)
          case g23 =>
            go_simp
            go_at_call 34
            refine (Sat.radd_any _ _ _).mono ?_
            rintro e w' ⟨rfl, rfl⟩
            refine hK.out _ _ (HM6.out.1.bel S1).cell (fun hHeld => ?_)
            clear hK K
            try simp only [Act.put, List.setIfInBounds_toArray, List.set_cons_zero, List.set_cons_succ]
            refine' wpAnyH_take (i := 13) (oi := _) (v := _) ?hi24 (by kernel_rfl) (by kernel_rfl) (by kernel_rfl) ?hQ24 (Or.inl ⟨?hw24, ?hy24⟩) ?hT24 ?h24
            case hi24 => (simp only [List.getElem?_toArray, List.getElem?_cons_succ, List.getElem?_cons_zero]; rfl)
            case hQ24 => exact fun _ _ _ h => h
            case hw24 => rfl
            case hy24 => (intro V hSw; go_simp; (try with_reducible rfl))
            case hT24 => assumption
            case' h24 => skip
            try simp only [Act.put, List.setIfInBounds_toArray, List.set_cons_zero, List.set_cons_succ]
            refine wpAnyH_ready (rs := [15]) (by kernel_rfl) (by simp) ?_
            refine' AllReadyH.cons (o := _) ?ho25 (fun K hK => ?g25) ?s25
            case ho25 => (simp only [List.getElem?_toArray, List.getElem?_cons_succ, List.getElem?_cons_zero]; rfl)
            case s25 => exact AllReadyH.nil
            rw [if_pos (by rfl)]
            refine wps_store _ _ _ rfl (cs' := #[.slice A9 ws.length c9, .int .i64 lane, .int .i64 (Sat.cut now), .int .i64 (Sat.add now x.k.li), .int .i64 (x.q + 1)]) rfl rfl NB rfl (by kernel_rfl) (by simp [Value.oneCell']) fun W2 D O => ?_
            refine hK.out _ _ (O.blk (HM6.out.1.bel S1) (fun e => (HM6.out.1.bel S1).ne_ NB (by decide) e)).cell (fun hHeld => ?_)
            clear hK K
            try simp only [Act.put, List.setIfInBounds_toArray, List.set_cons_zero, List.set_cons_succ]
            refine wpAnyH_done (by kernel_rfl) ?_ _
            have AP2 := O.own AP fun g hg => by obtain ⟨_, cur, hc⟩ := Own.block_lt AP hg; exact fun e => hc.ne_ NB (by decide) e
            have hB := below_only ((Only.of S1).trans_ O) (fun k hk => by have e : k = _ := hk; omega)
            go_wp2_with fail
            go_meet
            exact ⟨_, A9, c9, rfl, KN, AP2, D, hB⟩
          case' s23 => skip
          exact AllReadyH.nil
        case' s22 => skip
        exact AllReadyH.nil
      case' s21 => skip
      exact AllReadyH.nil
    case' s11 => skip
    refine' AllReadyH.cons (o := _) ?ho26 (fun K hK => ?g26) ?s26
    case ho26 => (simp only [List.getElem?_toArray, List.getElem?_cons_succ, List.getElem?_cons_zero]; rfl)
    case g26 =>
      go_simp
      have NB := Blk.new W7 43 #[.slice none 0 0, .int .i64 0, .int .i64 0, .int .i64 0, .int .i64 0]
      have KN := S1.size
      have S1 := ba1 S1 (.cells #[.slice none 0 0, .int .i64 0, .int .i64 0, .int .i64 0, .int .i64 0] 43)
      refine hK.out _ _ (HM6.out.1.bel S1).cell (fun hHeld => ?_)
      clear hK K
      try simp only [Act.put, List.setIfInBounds_toArray, List.set_cons_zero, List.set_cons_succ]
      refine wpAnyH_ready (rs := [2]) (by kernel_rfl) (by simp) ?_
      refine' AllReadyH.cons (o := _) ?ho27 (fun K hK => ?g27) ?s27
      case ho27 => (simp only [List.getElem?_toArray, List.getElem?_cons_succ, List.getElem?_cons_zero]; rfl)
      case g27 =>
        refine step_appi rfl _ _ rfl rfl rfl (HR.out.below (bt HB6.out S1)) HL.out ?_
        intro A9 c9 w9 ho hb
        have AP := ho.less S1.size
        have NB := NB.bel hb
        have S1 := bt S1 hb
        clear ho hb
        refine hK.out _ _ (HM6.out.1.bel S1).cell (fun hHeld => ?_)
        clear hK K
        try simp only [Act.put, List.setIfInBounds_toArray, List.set_cons_zero, List.set_cons_succ]
        refine wpAnyH_ready (rs := [5]) (by kernel_rfl) (by simp) ?_
        refine' AllReadyH.cons (o := _) ?ho28 (fun K hK => ?g28) ?s28
        case ho28 => (simp only [List.getElem?_toArray, List.getElem?_cons_succ, List.getElem?_cons_zero]; rfl)
        case g28 =>
          go_simp
          go_at_call 33
          refine (Sat.rcut_any _ _).mono ?_
          rintro e w' ⟨rfl, rfl⟩
          refine hK.out _ _ (HM6.out.1.bel S1).cell (fun hHeld => ?_)
          clear hK K
          try simp only [Act.put, List.setIfInBounds_toArray, List.set_cons_zero, List.set_cons_succ]
          refine wpAnyH_ready (rs := [10]) (by kernel_rfl) (by simp) ?_
          refine' AllReadyH.cons (o := _) ?ho29 (fun K hK => ?g29) ?s29
          case ho29 => (simp only [List.getElem?_toArray, List.getElem?_cons_succ, List.getElem?_cons_zero]; rfl)
          case g29 =>
            go_simp
            go_at_call 34
            refine (Sat.radd_any _ _ _).mono ?_
            rintro e w' ⟨rfl, rfl⟩
            refine hK.out _ _ (HM6.out.1.bel S1).cell (fun hHeld => ?_)
            clear hK K
            try simp only [Act.put, List.setIfInBounds_toArray, List.set_cons_zero, List.set_cons_succ]
            refine' wpAnyH_take (i := 13) (oi := _) (v := _) ?hi30 (by kernel_rfl) (by kernel_rfl) (by kernel_rfl) ?hQ30 (Or.inl ⟨?hw30, ?hy30⟩) ?hT30 ?h30
            case hi30 => (simp only [List.getElem?_toArray, List.getElem?_cons_succ, List.getElem?_cons_zero]; rfl)
            case hQ30 => exact fun _ _ _ h => h
            case hw30 => rfl
            case hy30 => (intro V hSw; go_simp; (try with_reducible rfl))
            case hT30 => assumption
            case' h30 => skip
            try simp only [Act.put, List.setIfInBounds_toArray, List.set_cons_zero, List.set_cons_succ]
            refine wpAnyH_ready (rs := [15]) (by kernel_rfl) (by simp) ?_
            refine' AllReadyH.cons (o := _) ?ho31 (fun K hK => ?g31) ?s31
            case ho31 => (simp only [List.getElem?_toArray, List.getElem?_cons_succ, List.getElem?_cons_zero]; rfl)
            case s31 => exact AllReadyH.nil
            rw [if_pos (by rfl)]
            refine wps_store _ _ _ rfl (cs' := #[.slice A9 ws.length c9, .int .i64 lane, .int .i64 (Sat.cut now), .int .i64 (Sat.add now x.k.li), .int .i64 (x.q + 1)]) rfl rfl NB rfl (by kernel_rfl) (by simp [Value.oneCell']) fun W2 D O => ?_
            refine hK.out _ _ (O.blk (HM6.out.1.bel S1) (fun e => (HM6.out.1.bel S1).ne_ NB (by decide) e)).cell (fun hHeld => ?_)
            clear hK K
            try simp only [Act.put, List.setIfInBounds_toArray, List.set_cons_zero, List.set_cons_succ]
            refine wpAnyH_done (by kernel_rfl) ?_ _
            have AP2 := O.own AP fun g hg => by obtain ⟨_, cur, hc⟩ := Own.block_lt AP hg; exact fun e => hc.ne_ NB (by decide) e
            have hB := below_only ((Only.of S1).trans_ O) (fun k hk => by have e : k = _ := hk; omega)
            go_wp2_with fail
            go_meet
            exact ⟨_, A9, c9, rfl, KN, AP2, D, hB⟩
          case' s29 => skip
          exact AllReadyH.nil
        case' s28 => skip
        exact AllReadyH.nil
      case' s27 => skip
      exact AllReadyH.nil
    case' s26 => skip
    exact AllReadyH.nil
  case rest =>
    obtain ⟨kn, A9, c9, rfl, hkn, hAP, hNB, hB⟩ := hcut
    have HM7 := Lib.hid (And.intro (HM6.out.1.bel hB) (And.intro (HM6.out.2.1.bel hB) (HM6.out.2.2.bel hB)))
    have HNB := Lib.hid hNB
    have HAP := Lib.hid hAP
    have HB7 := Lib.hid (bt HB6.out hB)
    have HKn : Hid (W6.heap.size ≤ kn ∧ kx < W6.heap.size ∧ kg < W6.heap.size ∧ km < W6.heap.size ∧ w.heap.size ≤ W6.heap.size) := ⟨hkn, HM6.out.1.lt, HM6.out.2.1.lt, HM6.out.2.2.lt, HB6.out.size⟩
    have q0 := HM7.out.1.cell
    have qn := hNB.cell
    clear hAP hNB hB HM6 HB6 hkn S1 hHeld
    go_wp2_with fail
    refine (HP.out _ ⟨A9, ws, c9, lane, Sat.cut now, Sat.add now x.k.li, x.q + 1⟩ HB7.out rfl).mono ?_
    rintro e w8 ⟨A8, c8, d8, rfl, hrow, hblk, hle, haok, hd8, hb8⟩
    rw [show pcode x.L x.P x.e (MV.ln ⟨A9, ws, c9, lane, Sat.cut now, Sat.add now x.k.li, x.q + 1⟩) = 0 from HPc.out] at hd8 ⊢
    rw [if_pos rfl] at hd8
    subst hd8
    obtain ⟨m8, hm8⟩ : ∃ m8 : MV, m8 = ⟨A9, ws, c9, lane, Sat.cut now, Sat.add now x.k.li, x.q + 1⟩ := ⟨_, rfl⟩
    rw [← hm8] at hrow hblk hle ⊢
    have HRES := Lib.hid (And.intro hrow (And.intro hle haok))
    have hI := insL_len x.e m8 HST.out
    have HBL : Hid (∀ b o, A8 = some ⟨b, o, none⟩ → (b ≠ kx ∧ b ≠ kg ∧ b ≠ km) ∧ w.heap.size ≤ b ∧ ∃ cur, Blk w8 b 43 cur) := fun b o e => by
      have h1 := HM7.out.1.lt
      have h2 := HM7.out.2.1.lt
      have h3 := HM7.out.2.2.lt
      have h4 := HB7.out.size
      rcases hblk b o e with ⟨h, hc⟩ | ⟨h, _⟩
      · exact ⟨⟨by omega, by omega, by omega⟩, by omega, hc⟩
      · rw [h] at hI; omega
    clear hI HST
    have HM8 := Lib.hid (And.intro (HM7.out.1.bel hb8) (And.intro (HM7.out.2.1.bel hb8) (And.intro (HM7.out.2.2.bel hb8) (HNB.out.bel hb8))))
    have HAP8 := Lib.hid (HAP.out.below hb8)
    have HB8 := Lib.hid (bt HB7.out hb8)
    have HM8r := Lib.hid hm8
    unfold rLv
    clear hrow hblk hle haok hb8 HM7 HNB HB7 HAP HP q0 qn hm8
    go_upto_region 14 with fail
    have N4 := Blk.new w8 31 #[.int .i64 x.L, .int .i64 x.P, .slice A8 (insL x.e m8).length c8]
    have N0 := HM8.out.1.alloc (.cells #[.int .i64 x.L, .int .i64 x.P, .slice A8 (insL x.e m8).length c8] 31)
    have N1 := HM8.out.2.1.alloc (.cells #[.int .i64 x.L, .int .i64 x.P, .slice A8 (insL x.e m8).length c8] 31)
    have N2 := HM8.out.2.2.1.alloc (.cells #[.int .i64 x.L, .int .i64 x.P, .slice A8 (insL x.e m8).length c8] 31)
    have N3 := HM8.out.2.2.2.alloc (.cells #[.int .i64 x.L, .int .i64 x.P, .slice A8 (insL x.e m8).length c8] 31)
    have HAP9 := Lib.hid (HAP8.out.below (b01 w8 (.cells #[.int .i64 x.L, .int .i64 x.P, .slice A8 (insL x.e m8).length c8] 31)))
    have HRE9 := Lib.hid (HRES.out.1.below (b01 w8 (.cells #[.int .i64 x.L, .int .i64 x.P, .slice A8 (insL x.e m8).length c8] 31)))
    have HB9 := Lib.hid (ba1 HB8.out (.cells #[.int .i64 x.L, .int .i64 x.P, .slice A8 (insL x.e m8).length c8] 31))
    have HRL := Lib.hid HRES.out.2
    have HBT := Lib.hid (fun b o e => (HBL.out b o e).2.2.imp fun _ h => h.alloc (.cells #[.int .i64 x.L, .int .i64 x.P, .slice A8 (insL x.e m8).length c8] 31))
    have HN9 := Lib.hid (And.intro N0 (And.intro N1 N2))
    generalize w8.alloc (.cells #[.int .i64 x.L, .int .i64 x.P, .slice A8 (insL x.e m8).length c8] 31) = W9 at *
    generalize w8.heap.size = kp at *
    clear HM8 HB8 HAP8 HRES
    refine wp_region_lit ?_
    refine wpl_load rfl _ _ rfl rfl N4 (d := .struct (Try.prog.fieldsOf 31)) (by kernel_rfl) rfl (by kernel_rfl) ?_
    simp only [Act.put, List.setIfInBounds_toArray, List.set_cons_zero, List.set_cons_succ]
    (refine wpList_plain rfl fun K hK => ?_); go_simp; (refine hK _ _ ?_); clear hK K
    refine wpl_part rfl _ _ _ rfl rfl rfl N0 (by simp) (by kernel_rfl) (by simp [Value.oneCell']) fun W10 E0 O1 => ?_
    simp only [Act.put]
    refine wpList_nil ?_
    have M0 : Blk W10 kx 35 #[.int .i64 x.k.k, .int .i64 x.k.f, .int .i64 x.k.t, .int .i64 x.k.w, .int .i64 x.k.r, .int .i64 x.k.la, .int .i64 x.k.d, .int .i64 x.k.h, .int .i64 x.k.li, .int .i64 x.k.ra, .int .i64 x.k.c, .int .i64 x.L, .int .i64 x.P, .slice A8 (insL x.e m8).length c8, .int .i64 x.R, .int .i64 x.C, .int .i64 T9, .int .i64 N9, .int .i64 (x.q + 1)] := E0
    have M1 := O1.blk N1 (fun e => HK.out.2.2.2 e.symm)
    have M2 := O1.blk N2 (fun e => N0.ne_ N2 (by decide) e.symm)
    have M3 := O1.blk N3 (fun e => N0.ne_ N3 (by decide) e.symm)
    have HM10 := Lib.hid (And.intro M0 (And.intro M1 (And.intro M2 M3)))
    have HO10 := Lib.hid O1
    clear N0 N1 N2 N3 N4 M0 M1 M2 M3 E0 O1
    go_upto_region 15 with fail
    have S1 : Below W10.heap.size W10 W10.drew := (Below.refl _ _).drew
    have M0 := HM10.out.1.bel S1
    have M1 := HM10.out.2.1.bel S1
    have M2 := HM10.out.2.2.1.bel S1
    have M3 := HM10.out.2.2.2.bel S1
    have OS := (HO10.out.mono (G := fun k => k = kx ∨ k = kg ∨ k = km) fun k hk => .inl hk).trans_ (Only.of S1)
    have hHeld := And.intro M0.cell M3.cell
    clear S1 HO10 HM10
    refine wp_region_held_drew (S := fun V => (∀ i, V.cell? ⟨kx, i, none⟩ = (#[.int .i64 x.k.k, .int .i64 x.k.f, .int .i64 x.k.t, .int .i64 x.k.w, .int .i64 x.k.r, .int .i64 x.k.la, .int .i64 x.k.d, .int .i64 x.k.h, .int .i64 x.k.li, .int .i64 x.k.ra, .int .i64 x.k.c, .int .i64 x.L, .int .i64 x.P, .slice A8 (insL x.e m8).length c8, .int .i64 x.R, .int .i64 x.C, .int .i64 T9, .int .i64 N9, .int .i64 (x.q + 1)] : Array Value)[i]?) ∧ (∀ i, V.cell? ⟨kn, i, none⟩ = (#[.slice A9 ws.length c9, .int .i64 lane, .int .i64 (Sat.cut now), .int .i64 (Sat.add now x.k.li), .int .i64 (x.q + 1)] : Array Value)[i]?)) (by kernel_rfl) hHeld (fun _ => ?_)
    generalize W10.drew = W11 at *
    refine' wpAnyH_take (i := 0) (oi := _) (v := _) ?hi32 (by kernel_rfl) (by kernel_rfl) (by kernel_rfl) ?hQ32 (yieldsIf_load_mid ?hw32 _ _ ?ho32 kx 0 ?hx32 [.int .i64 x.k.k, .int .i64 x.k.f, .int .i64 x.k.t, .int .i64 x.k.w, .int .i64 x.k.r, .int .i64 x.k.la, .int .i64 x.k.d, .int .i64 x.k.h, .int .i64 x.k.li, .int .i64 x.k.ra, .int .i64 x.k.c, .int .i64 x.L, .int .i64 x.P, .slice A8 (insL x.e m8).length c8, .int .i64 x.R, .int .i64 x.C, .int .i64 T9, .int .i64 N9, .int .i64 (x.q + 1)] (.struct (Try.prog.fieldsOf 35)) ?hS32 (by kernel_rfl) rfl (by kernel_rfl)) ?hT32 ?h32
    case hi32 => (simp only [List.getElem?_toArray, List.getElem?_cons_succ, List.getElem?_cons_zero]; rfl)
    case hQ32 => exact fun _ _ _ h => h
    case hw32 => rfl
    case ho32 => rfl
    case hx32 => rfl
    case hS32 => exact fun V hV j v hj => by rw [Nat.zero_add, hV.1 j]; simpa using hj
    case hT32 => assumption
    case' h32 => skip
    try simp only [Act.put, List.setIfInBounds_toArray, List.set_cons_zero, List.set_cons_succ]
    refine' wpAnyH_take (i := 1) (oi := _) (v := _) ?hi33 (by kernel_rfl) (by kernel_rfl) (by kernel_rfl) ?hQ33 (yieldsIf_load_mid ?hw33 _ _ ?ho33 kn 0 ?hx33 [.slice A9 ws.length c9, .int .i64 lane, .int .i64 (Sat.cut now), .int .i64 (Sat.add now x.k.li), .int .i64 (x.q + 1)] (.struct (Try.prog.fieldsOf 43)) ?hS33 (by kernel_rfl) rfl (by kernel_rfl)) ?hT33 ?h33
    case hi33 => (simp only [List.getElem?_toArray, List.getElem?_cons_succ, List.getElem?_cons_zero]; rfl)
    case hQ33 => exact fun _ _ _ h => h
    case hw33 => rfl
    case ho33 => rfl
    case hx33 => rfl
    case hS33 => exact fun V hV j v hj => by rw [Nat.zero_add, hV.2 j]; simpa using hj
    case hT33 => assumption
    case' h33 => skip
    try simp only [Act.put, List.setIfInBounds_toArray, List.set_cons_zero, List.set_cons_succ]
    refine wpAnyH_ready (rs := [2]) (by kernel_rfl) (by simp) ?_
    refine' AllReadyH.cons (o := _) ?ho34 (fun K hK => ?g34) ?s34
    case ho34 => (simp only [List.getElem?_toArray, List.getElem?_cons_succ, List.getElem?_cons_zero]; rfl)
    case g34 =>
      rw [if_pos (by rfl)]
      refine wps_store _ _ _ rfl (cs' := #[.int .i64 x.k.k, .int .i64 x.k.f, .int .i64 x.k.t, .int .i64 x.k.w, .int .i64 x.k.r, .int .i64 x.k.la, .int .i64 x.k.d, .int .i64 x.k.h, .int .i64 x.k.li, .int .i64 x.k.ra, .int .i64 x.k.c, .int .i64 x.L, .int .i64 x.P, .slice A8 (insL x.e m8).length c8, .int .i64 x.R, .int .i64 x.C, .int .i64 T9, .int .i64 N9, .int .i64 (x.q + 1)]) rfl rfl M1 rfl (by kernel_rfl) (by simp [Value.oneCell']) fun U2 D O => ?_
      have OS := OS.trans_ (O.mono fun k hk => .inr (.inl hk))
      have M0 := O.blk M0 (fun e => HK.out.2.2.2 e)
      have M2 := O.blk M2 (fun e => M2.ne_ M1 (by decide) e)
      have M3 := O.blk M3 (fun e => M3.ne_ M1 (by decide) e)
      have M1 := D
      clear D O
      refine hK.out _ _ ⟨M0.cell, M3.cell⟩ (fun hHeld => ?_)
      clear hK K
      try simp only [Act.put, List.setIfInBounds_toArray, List.set_cons_zero, List.set_cons_succ]
      refine wpAnyH_ready (rs := [3]) (by kernel_rfl) (by simp) ?_
      refine' AllReadyH.cons (o := _) ?ho35 (fun K hK => ?g35) ?s35
      case ho35 => (simp only [List.getElem?_toArray, List.getElem?_cons_succ, List.getElem?_cons_zero]; rfl)
      case s35 => exact AllReadyH.nil
      case' g35 => skip
      rw [if_pos (by rfl)]
      refine wps_store _ _ _ rfl (cs' := #[.slice A9 ws.length c9, .int .i64 lane, .int .i64 (Sat.cut now), .int .i64 (Sat.add now x.k.li), .int .i64 (x.q + 1)]) rfl rfl M2 rfl (by kernel_rfl) (by simp [Value.oneCell']) fun U3 D O => ?_
      have OS := OS.trans_ (O.mono fun k hk => .inr (.inr hk))
      have M0 := O.blk M0 (fun e => M0.ne_ M2 (by decide) e)
      have M1 := O.blk M1 (fun e => M1.ne_ M2 (by decide) e)
      have M3 := O.blk M3 (fun e => by have := HKn.out; have e : kn = km := e; omega)
      have M2 := D
      clear D O
      refine hK.out _ _ ⟨M0.cell, M3.cell⟩ (fun hHeld => ?_)
      clear hK K
      try simp only [Act.put, List.setIfInBounds_toArray, List.set_cons_zero, List.set_cons_succ]
      refine' wpAnyH_take (i := 4) (oi := _) (v := _) ?hi36 (by kernel_rfl) (by kernel_rfl) (by kernel_rfl) ?hQ36 (Or.inl ⟨?hw36, ?hy36⟩) ?hT36 ?h36
      case hi36 => (simp only [List.getElem?_toArray, List.getElem?_cons_succ, List.getElem?_cons_zero]; rfl)
      case hQ36 => exact fun _ _ _ h => h
      case hw36 => rfl
      case hy36 => (intro V hSw; go_simp; (try with_reducible rfl))
      case hT36 => assumption
      case' h36 => skip
      try simp only [Act.put, List.setIfInBounds_toArray, List.set_cons_zero, List.set_cons_succ]
      refine wpAnyH_done (by kernel_rfl) ?_ _
      have HL := Lib.hid (And.intro (run_whole (P := Try.prog) (ty := 35) (d := .struct (Try.prog.fieldsOf 35)) M1 (by kernel_rfl) rfl (by kernel_rfl)) (run_whole (P := Try.prog) (ty := 43) (d := .struct (Try.prog.fieldsOf 43)) M2 (by kernel_rfl) rfl (by kernel_rfl)))
      have BEL := Lib.hid (below_only ((Only.of HB9.out).trans_ OS) (fun k hk => by have := HK.out; rcases hk with rfl | rfl | rfl <;> omega))
      have ROW := Lib.hid (only_row HRE9.out OS fun _ q o e hq => by have := (HBL.out q o e).1; rcases hq with rfl | rfl | rfl <;> simp at this)
      have BLK := Lib.hid (fun b o e => And.intro (HBL.out b o e).2.1 ((HBT.out b o e).imp fun _ h => OS.blk h fun hq => by have := (HBL.out b o e).1; rcases hq with rfl | rfl | rfl <;> simp at this))
      have OWN := Lib.hid (OS.own HAP9.out fun g hg => by
        obtain ⟨_, cur, hc⟩ := Own.block_lt HAP9.out hg
        rintro (rfl | rfl | rfl)
        · exact hc.ne_ HN9.out.1 (by decide) rfl
        · exact hc.ne_ HN9.out.2.1 (by decide) rfl
        · exact hc.ne_ HN9.out.2.2 (by decide) rfl)
      clear M0 M1 M2 M3 OS hHeld
      go_wp2_with fail
      obtain ⟨hl1, hl2⟩ := HL.out
      refine bodyPost_ret (v := .tuple #[.agg #[.int .i64 x.k.k, .int .i64 x.k.f, .int .i64 x.k.t, .int .i64 x.k.w, .int .i64 x.k.r, .int .i64 x.k.la, .int .i64 x.k.d, .int .i64 x.k.h, .int .i64 x.k.li, .int .i64 x.k.ra, .int .i64 x.k.c, .int .i64 x.L, .int .i64 x.P, .slice A8 (insL x.e m8).length c8, .int .i64 x.R, .int .i64 x.C, .int .i64 T9, .int .i64 N9, .int .i64 (x.q + 1)], .agg #[.slice A9 ws.length c9, .int .i64 lane, .int .i64 (Sat.cut now), .int .i64 (Sat.add now x.k.li), .int .i64 (x.q + 1)], .int .i64 0]) (by simp [results, Try.results10, asAddr, Result.andThen, hl1, hl2]) rfl ⟨m8, A8, c8, by rw [HM8r.out]; rfl, by rw [HM8r.out]; rfl, ?_, ROW.out, HRL.out.2, HRL.out.1, BLK.out, BEL.out⟩
      rw [HM8r.out]
      exact OWN.out.less HKn.out.2.2.2.2
    case' s34 => skip
    exact AllReadyH.nil
end Go.Proofs.Ytmfkapbllmfegaa.A12
/- The document's own Offer, whatever it answers: a contract. -/
namespace Go.Proofs.Ytmfkapbllmfegaa.A12
open Go.RowKit Go.Proofs.Ytmfkapbllmfegaa.G Go.Proofs.Ytmfkapbllmfegaa.L10 Go.Proofs.Ytmfkapbllmfegaa.C04 Go.Sort
set_option maxRecDepth 100000
variable {w w' V V' : World}
/-- The document's gate is in order. -/
structure RgOk (V : World) (x : Rg) : Prop where
  row : Row V x.A (mvs x.e)
  ok : AOk x.A x.c
  le : x.e.length ≤ x.c
  ln : x.e.length ≤ 100
  p8 : x.P ≤ 8
  srt : SrtL x.e
  cn : ∀ l, cnt x.e l ≤ x.P
  bk : K11.Ok x.R x.C x.T x.N
  q0 : 0 ≤ x.q
def roc (x : Rg) (mode lane : Int) (ws : List Int) (r : Int) : Int := if jdg x.k mode lane ws ≠ 0 then jdg x.k mode lane ws else if room x.L x.P x.e lane = 0 then 2 else if K11.ctok x.R x.C x.T x.N r = 0 then 2 else 0
def rasks (x : Rg) (mode lane : Int) (ws : List Int) : Bool := decide (jdg x.k mode lane ws = 0 ∧ room x.L x.P x.e lane ≠ 0)
/-- What it leaves. -/
structure RofW (w : World) (x : Rg) (M : Pm) (code : Int) (ask : Bool) (T1 N1 : Int) (m' : MV) (x' : Rg) (w' : World) : Prop where
  k : x'.k = x.k
  L : x'.L = x.L
  P : x'.P = x.P
  R : x'.R = x.R
  C : x'.C = x.C
  T : x'.T = if ask = true then K11.less T1 else x.T
  N : x'.N = if ask = true then N1 else x.N
  q : x'.q = if code = 0 then x.q + 1 else x.q
  e : x'.e = if code = 0 then insL x.e m' else x.e
  mp : m'.pl = if code = 0 then M else z0.pl
  wo : Wo w' w.heap.size m'
  row : Row w' x'.A (mvs x'.e)
  ok : AOk x'.A x'.c
  le : x'.e.length ≤ x'.c
  ap : x'.A = x.A ∧ x'.e = x.e ∨ ∀ b o, x'.A = some ⟨b, o, none⟩ → w.heap.size ≤ b ∧ ∃ cur, Blk w' b 43 cur
  bl : Below w.heap.size w w'
def RofP (w : World) (x : Rg) (M : Pm) (code : Int) (ask : Bool) (T1 N1 : Int) (e : Ending) (w' : World) : Prop := ∃ m' x', e = .returned (.tuple #[rgv x', m'.val, .int .i64 code]) ∧ RofW w x M code ask T1 N1 m' x' w'
theorem room_yes {L P : Nat} {d : List MV} {l : Int} (h : room L P d l ≠ 0) (hs : cnt d l ≤ P) : isL L l = true ∧ cnt d l < P := by
  unfold room at h
  split at h
  · rename_i h1
    exact ⟨h1, by omega⟩
  · exact absurd rfl h
theorem roffer_any {x : Rg} (h : RgOk w x) {A : Option Addr} {c : Nat} {ws : List Int} (mode lane now r : Int) (hr : Row w A (L10.iv ws)) (hl : ws.length ≤ 1000) (hq : x.q ≤ 1000000) :
    Calls Try.prog 10 #[rgv x, .int .i64 mode, .int .i64 lane, .slice A ws.length c, .int .i64 now, .int .i64 r] w (RofP w x ⟨ws, lane, Sat.cut now, Sat.add now x.k.li, x.q + 1⟩ (roc x mode lane ws r) (rasks x mode lane ws) (K11.ctok x.R x.C x.T x.N r) (K11.crnd x.N r)) := by
  unfold roc rasks
  by_cases hj : jdg x.k mode lane ws = 0
  · by_cases hro : room x.L x.P x.e lane = 0
    · refine (roffer_full mode lane now r hr hl hj h.row (by have := h.ln; omega) h.p8 hro).mono fun e w' ⟨he, hb⟩ => ?_
      rw [if_neg (fun hh => hh hj), if_pos hro, show decide (jdg x.k mode lane ws = 0 ∧ room x.L x.P x.e lane ≠ 0) = false from decide_eq_false (fun hh => hh.2 hro)]
      exact ⟨z0, x, he, ⟨rfl, rfl, rfl, rfl, rfl, rfl, rfl, rfl, rfl, rfl, Own.nil_ _ _ _ _, h.row.below hb, h.ok, h.le, .inl ⟨rfl, rfl⟩, hb⟩⟩
    · have hd : decide (jdg x.k mode lane ws = 0 ∧ room x.L x.P x.e lane ≠ 0) = true := decide_eq_true ⟨hj, hro⟩
      by_cases ht : K11.ctok x.R x.C x.T x.N r = 0
      · refine (roffer_dry mode lane now r hr hl hj h.row (by have := h.ln; omega) h.p8 hro h.bk ht).mono fun e w' ⟨he, hb⟩ => ?_
        rw [if_neg (fun hh => hh hj), if_neg hro, if_pos ht, hd]
        exact ⟨z0, _, he, ⟨rfl, rfl, rfl, rfl, rfl, by rw [ht]; rfl, rfl, rfl, rfl, rfl, Own.nil_ _ _ _ _, h.row.below hb, h.ok, h.le, .inl ⟨rfl, rfl⟩, hb⟩⟩
      · obtain ⟨h1, h2⟩ := room_yes hro (h.cn lane)
        refine (roffer_ok mode lane now r hr hl hj h.row h.ln h.p8 hro h.bk ht h.ok h.le h.srt h1 h2 h.q0 hq).mono fun e w' ⟨m', A', c', he, hm, hwo, hrow, hok, hle, hap, hb⟩ => ?_
        rw [if_neg (fun hh => hh hj), if_neg hro, if_neg ht, hd]
        exact ⟨m', _, he, ⟨rfl, rfl, rfl, rfl, rfl, rfl, rfl, rfl, rfl, hm, hwo, hrow, hok, hle, .inr hap, hb⟩⟩
  · refine (roffer_no mode lane now r hr hl hj).mono fun e w' ⟨he, hb⟩ => ?_
    rw [if_pos hj, show decide (jdg x.k mode lane ws = 0 ∧ room x.L x.P x.e lane ≠ 0) = false from decide_eq_false (fun hh => hj hh.1)]
    exact ⟨z0, x, he, ⟨rfl, rfl, rfl, rfl, rfl, rfl, rfl, by rw [if_neg hj], by rw [if_neg hj], by rw [if_neg hj], Own.nil_ _ _ _ _, h.row.below hb, h.ok, h.le, .inl ⟨rfl, rfl⟩, hb⟩⟩
end Go.Proofs.Ytmfkapbllmfegaa.A12
/- The document's own gate, by value: New, and an Offer that it refuses: contracts. -/
namespace Go.Proofs.Ytmfkapbllmfegaa.A12
open Go.RowKit Go.Proofs.Ytmfkapbllmfegaa.G Go.Proofs.Ytmfkapbllmfegaa.L10 Go.Proofs.Ytmfkapbllmfegaa.C04 Go.Sort
set_option maxRecDepth 100000
variable {w w' V V' : World}
def RnPost (k : Chn) (w : World) (e : Ending) (w' : World) : Prop := ∃ x, e = .returned (rgv x) ∧ x.k = k ∧ (x.L : Int) = near k.la 3 ∧ (x.P : Int) = near k.d 8 ∧ x.R = K11.rof k.ra ∧ x.C = K11.cof k.c ∧ x.T = x.C ∧ x.N = 0 ∧ x.q = 0 ∧ x.A = none ∧ x.c = 0 ∧ x.e = [] ∧ Below w.heap.size w w'
set_option maxHeartbeats 4000000 in
theorem rgnew_any (k : Chn) (w : World) : Calls Try.prog 7 #[k.val] w (RnPost k w) := by
  have h1 := near_pos k.la (m := 3) (by omega)
  have h2 := near_pos k.d (m := 8) (by omega)
  obtain ⟨L, hL⟩ : ∃ L, (near k.la 3).toNat = L := ⟨_, rfl⟩
  obtain ⟨P, hP⟩ : ∃ P, (near k.d 8).toNat = P := ⟨_, rfl⟩
  have HLP : Hid ((L : Int) = near k.la 3 ∧ (P : Int) = near k.d 8) := by constructor <;> omega
  have CL := Lib.hid (fun V => L10.rnew_any k.la k.d V)
  have CB := Lib.hid (fun V => K11.rnew_any k.ra k.c V)
  rw [← HLP.out.1, ← HLP.out.2] at CL
  obtain ⟨R, hR⟩ : ∃ R, K11.rof k.ra = R := ⟨_, rfl⟩
  obtain ⟨C, hC⟩ : ∃ C, K11.cof k.c = C := ⟨_, rfl⟩
  rw [hR, hC] at CB
  have HRC := Lib.hid (And.intro hR hC)
  clear h1 h2 hL hP hR hC
  have HB := Lib.hid (ba1 (b01 w (.cells #[.int .i64 k.k, .int .i64 k.f, .int .i64 k.t, .int .i64 k.w, .int .i64 k.r, .int .i64 k.la, .int .i64 k.d, .int .i64 k.h, .int .i64 k.li, .int .i64 k.ra, .int .i64 k.c] 23)) (.cells #[.int .i64 0, .int .i64 0, .int .i64 0, .int .i64 0, .int .i64 0, .int .i64 0, .int .i64 0, .int .i64 0, .int .i64 0, .int .i64 0, .int .i64 0, .int .i64 0, .int .i64 0, .slice none 0 0, .int .i64 0, .int .i64 0, .int .i64 0, .int .i64 0, .int .i64 0] 35))
  have HN := Lib.hid ((Blk.new w 23 #[.int .i64 k.k, .int .i64 k.f, .int .i64 k.t, .int .i64 k.w, .int .i64 k.r, .int .i64 k.la, .int .i64 k.d, .int .i64 k.h, .int .i64 k.li, .int .i64 k.ra, .int .i64 k.c]).alloc (.cells #[.int .i64 0, .int .i64 0, .int .i64 0, .int .i64 0, .int .i64 0, .int .i64 0, .int .i64 0, .int .i64 0, .int .i64 0, .int .i64 0, .int .i64 0, .int .i64 0, .int .i64 0, .slice none 0 0, .int .i64 0, .int .i64 0, .int .i64 0, .int .i64 0, .int .i64 0] 35))
  have HX := Lib.hid (Blk.new_at (w := w.alloc (.cells #[.int .i64 k.k, .int .i64 k.f, .int .i64 k.t, .int .i64 k.w, .int .i64 k.r, .int .i64 k.la, .int .i64 k.d, .int .i64 k.h, .int .i64 k.li, .int .i64 k.ra, .int .i64 k.c] 23)) (n := w.heap.size + 1) (by simp) 35 #[.int .i64 0, .int .i64 0, .int .i64 0, .int .i64 0, .int .i64 0, .int .i64 0, .int .i64 0, .int .i64 0, .int .i64 0, .int .i64 0, .int .i64 0, .int .i64 0, .int .i64 0, .slice none 0 0, .int .i64 0, .int .i64 0, .int .i64 0, .int .i64 0, .int .i64 0])
  unfold Chn.val
  go_enter Try.func7, Try.ntmps7
  go_wp2_with fail
  obtain ⟨kx, hkx⟩ : ∃ kx, w.heap.size = kx := ⟨_, rfl⟩
  obtain ⟨kr, hkr⟩ : ∃ kr, w.heap.size + 1 = kr := ⟨_, rfl⟩
  have HKR : Hid (w.heap.size ≤ kr) := by show w.heap.size ≤ kr; omega
  rw [hkr] at HX
  rw [hkx] at HN
  rw [hkr, hkx]
  have HNe : Hid (kx ≠ kr) := by show kx ≠ kr; omega
  clear hkr hkx
  generalize (w.alloc (.cells #[.int .i64 k.k, .int .i64 k.f, .int .i64 k.t, .int .i64 k.w, .int .i64 k.r, .int .i64 k.la, .int .i64 k.d, .int .i64 k.h, .int .i64 k.li, .int .i64 k.ra, .int .i64 k.c] 23)).alloc (.cells #[.int .i64 0, .int .i64 0, .int .i64 0, .int .i64 0, .int .i64 0, .int .i64 0, .int .i64 0, .int .i64 0, .int .i64 0, .int .i64 0, .int .i64 0, .int .i64 0, .int .i64 0, .slice none 0 0, .int .i64 0, .int .i64 0, .int .i64 0, .int .i64 0, .int .i64 0] 35) = W at *
  have HS : Hid (∀ V, Below W.heap.size W V → ((∀ i, V.cell? ⟨kx, i, none⟩ = (#[.int .i64 k.k, .int .i64 k.f, .int .i64 k.t, .int .i64 k.w, .int .i64 k.r, .int .i64 k.la, .int .i64 k.d, .int .i64 k.h, .int .i64 k.li, .int .i64 k.ra, .int .i64 k.c] : Array Value)[i]?) ∧ (∀ i, V.frozen? ⟨kr, i, none⟩ = false) ∧ (∀ i, V.cell? ⟨kr, i, none⟩ = (#[.int .i64 0, .int .i64 0, .int .i64 0, .int .i64 0, .int .i64 0, .int .i64 0, .int .i64 0, .int .i64 0, .int .i64 0, .int .i64 0, .int .i64 0, .int .i64 0, .int .i64 0, .slice none 0 0, .int .i64 0, .int .i64 0, .int .i64 0, .int .i64 0, .int .i64 0] : Array Value)[i]?))) := fun V hV => ⟨(HN.out.bel hV).cell, (HX.out.bel hV).frozen, (HX.out.bel hV).cell⟩
  go_cut [] (fun V => Blk V kr 35 #[.int .i64 k.k, .int .i64 k.f, .int .i64 k.t, .int .i64 k.w, .int .i64 k.r, .int .i64 k.la, .int .i64 k.d, .int .i64 k.h, .int .i64 k.li, .int .i64 k.ra, .int .i64 k.c, .int .i64 L, .int .i64 P, .slice none 0 0, .int .i64 R, .int .i64 C, .int .i64 C, .int .i64 0, .int .i64 0] ∧ Below w.heap.size w V)
  case first =>
    have S1 : Below W.heap.size W W.drew := (Below.refl _ _).drew
    have hHeld := (HN.out.bel S1).cell
    refine wp_region_held_drew (S := fun V => ∀ i, V.cell? ⟨kx, i, none⟩ = (#[.int .i64 k.k, .int .i64 k.f, .int .i64 k.t, .int .i64 k.w, .int .i64 k.r, .int .i64 k.la, .int .i64 k.d, .int .i64 k.h, .int .i64 k.li, .int .i64 k.ra, .int .i64 k.c] : Array Value)[i]?) (by kernel_rfl) hHeld (fun _ => ?_)
    refine' wpAnyH_take (i := 0) (oi := _) (v := _) ?hi1 (by kernel_rfl) (by kernel_rfl) (by kernel_rfl) ?hQ1 (yieldsIf_load_mid ?hw1 _ _ ?ho1 kx 0 ?hx1 [.int .i64 k.k, .int .i64 k.f, .int .i64 k.t, .int .i64 k.w, .int .i64 k.r, .int .i64 k.la, .int .i64 k.d, .int .i64 k.h, .int .i64 k.li, .int .i64 k.ra, .int .i64 k.c] (.struct (Try.prog.fieldsOf 23)) ?hS1 (by kernel_rfl) rfl (by kernel_rfl)) ?hT1 ?h1
    case hi1 => (simp only [List.getElem?_toArray, List.getElem?_cons_succ, List.getElem?_cons_zero]; rfl)
    case hQ1 => exact fun _ _ _ h => h
    case hw1 => rfl
    case ho1 => rfl
    case hx1 => rfl
    case hS1 => exact fun V hV j v hj => by rw [Nat.zero_add, hV j]; simpa using hj
    case hT1 => assumption
    case' h1 => skip
    try simp only [Act.put, List.setIfInBounds_toArray, List.set_cons_zero, List.set_cons_succ]
    refine' wpAnyH_take (i := 1) (oi := _) (v := _) ?hi2 (by kernel_rfl) (by kernel_rfl) (by kernel_rfl) ?hQ2 (Or.inl ⟨?hw2, ?hy2⟩) ?hT2 ?h2
    case hi2 => (simp only [List.getElem?_toArray, List.getElem?_cons_succ, List.getElem?_cons_zero]; rfl)
    case hQ2 => exact fun _ _ _ h => h
    case hw2 => rfl
    case hy2 => (intro V hSw; go_simp; (try with_reducible rfl))
    case hT2 => assumption
    case' h2 => skip
    try simp only [Act.put, List.setIfInBounds_toArray, List.set_cons_zero, List.set_cons_succ]
    refine' wpAnyH_take (i := 2) (oi := _) (v := _) ?hi3 (by kernel_rfl) (by kernel_rfl) (by kernel_rfl) ?hQ3 (Or.inl ⟨?hw3, ?hy3⟩) ?hT3 ?h3
    case hi3 => (simp only [List.getElem?_toArray, List.getElem?_cons_succ, List.getElem?_cons_zero]; rfl)
    case hQ3 => exact fun _ _ _ h => h
    case hw3 => rfl
    case hy3 => (intro V hSw; go_simp; (try with_reducible rfl))
    case hT3 => assumption
    case' h3 => skip
    try simp only [Act.put, List.setIfInBounds_toArray, List.set_cons_zero, List.set_cons_succ]
    refine' wpAnyH_take (i := 3) (oi := _) (v := _) ?hi4 (by kernel_rfl) (by kernel_rfl) (by kernel_rfl) ?hQ4 (Or.inl ⟨?hw4, ?hy4⟩) ?hT4 ?h4
    case hi4 => (simp only [List.getElem?_toArray, List.getElem?_cons_succ, List.getElem?_cons_zero]; rfl)
    case hQ4 => exact fun _ _ _ h => h
    case hw4 => rfl
    case hy4 => (intro V hSw; go_simp; (try with_reducible rfl))
    case hT4 => assumption
    case' h4 => skip
    try simp only [Act.put, List.setIfInBounds_toArray, List.set_cons_zero, List.set_cons_succ]
    refine' wpAnyH_take (i := 4) (oi := _) (v := _) ?hi5 (by kernel_rfl) (by kernel_rfl) (by kernel_rfl) ?hQ5 (Or.inl ⟨?hw5, ?hy5⟩) ?hT5 ?h5
    case hi5 => (simp only [List.getElem?_toArray, List.getElem?_cons_succ, List.getElem?_cons_zero]; rfl)
    case hQ5 => exact fun _ _ _ h => h
    case hw5 => rfl
    case hy5 => (intro V hSw; go_simp; (try with_reducible rfl))
    case hT5 => assumption
    case' h5 => skip
    try simp only [Act.put, List.setIfInBounds_toArray, List.set_cons_zero, List.set_cons_succ]
    refine' wpAnyH_take (i := 6) (oi := _) (v := _) ?hi6 (by kernel_rfl) (by kernel_rfl) (by kernel_rfl) ?hQ6 (Or.inl ⟨?hw6, ?hy6⟩) ?hT6 ?h6
    case hi6 => (simp only [List.getElem?_toArray, List.getElem?_cons_succ, List.getElem?_cons_zero]; rfl)
    case hQ6 => exact fun _ _ _ h => h
    case hw6 => rfl
    case hy6 => (intro V hSw; go_simp; (try with_reducible rfl))
    case hT6 => assumption
    case' h6 => skip
    try simp only [Act.put, List.setIfInBounds_toArray, List.set_cons_zero, List.set_cons_succ]
    refine' wpAnyH_take (i := 7) (oi := _) (v := _) ?hi7 (by kernel_rfl) (by kernel_rfl) (by kernel_rfl) ?hQ7 (Or.inl ⟨?hw7, ?hy7⟩) ?hT7 ?h7
    case hi7 => (simp only [List.getElem?_toArray, List.getElem?_cons_succ, List.getElem?_cons_zero]; rfl)
    case hQ7 => exact fun _ _ _ h => h
    case hw7 => rfl
    case hy7 => (intro V hSw; go_simp; (try with_reducible rfl))
    case hT7 => assumption
    case' h7 => skip
    try simp only [Act.put, List.setIfInBounds_toArray, List.set_cons_zero, List.set_cons_succ]
    refine' wpAnyH_take (i := 8) (oi := _) (v := _) ?hi8 (by kernel_rfl) (by kernel_rfl) (by kernel_rfl) ?hQ8 (Or.inl ⟨?hw8, ?hy8⟩) ?hT8 ?h8
    case hi8 => (simp only [List.getElem?_toArray, List.getElem?_cons_succ, List.getElem?_cons_zero]; rfl)
    case hQ8 => exact fun _ _ _ h => h
    case hw8 => rfl
    case hy8 => (intro V hSw; go_simp; (try with_reducible rfl))
    case hT8 => assumption
    case' h8 => skip
    try simp only [Act.put, List.setIfInBounds_toArray, List.set_cons_zero, List.set_cons_succ]
    refine' wpAnyH_take (i := 9) (oi := _) (v := _) ?hi9 (by kernel_rfl) (by kernel_rfl) (by kernel_rfl) ?hQ9 (Or.inl ⟨?hw9, ?hy9⟩) ?hT9 ?h9
    case hi9 => (simp only [List.getElem?_toArray, List.getElem?_cons_succ, List.getElem?_cons_zero]; rfl)
    case hQ9 => exact fun _ _ _ h => h
    case hw9 => rfl
    case hy9 => (intro V hSw; go_simp; (try with_reducible rfl))
    case hT9 => assumption
    case' h9 => skip
    try simp only [Act.put, List.setIfInBounds_toArray, List.set_cons_zero, List.set_cons_succ]
    refine wpAnyH_ready (rs := [5]) (by kernel_rfl) (by simp) ?_
    refine' AllReadyH.cons (o := _) ?ho10 (fun K hK => ?g10) ?s10
    case ho10 => (simp only [List.getElem?_toArray, List.getElem?_cons_succ, List.getElem?_cons_zero]; rfl)
    case s10 => exact AllReadyH.nil
    case' g10 => skip
    go_simp
    go_at_call 28
    (with_reducible refine (CL.out _).mono ?_)
    rintro e w5 ⟨rfl, hb⟩
    unfold rLv
    have S1 := bt S1 hb
    clear hb
    refine hK.out _ _ (HN.out.bel S1).cell (fun hHeld => ?_)
    clear hK K
    try simp only [Act.put, List.setIfInBounds_toArray, List.set_cons_zero, List.set_cons_succ]
    refine wpAnyH_ready (rs := [10]) (by kernel_rfl) (by simp) ?_
    refine' AllReadyH.cons (o := _) ?ho11 (fun K hK => ?g11) ?s11
    case ho11 => (simp only [List.getElem?_toArray, List.getElem?_cons_succ, List.getElem?_cons_zero]; rfl)
    case s11 => exact AllReadyH.nil
    case' g11 => skip
    go_simp
    go_at_call 29
    (with_reducible refine (CB.out _).mono ?_)
    rintro e w10 ⟨rfl, hb⟩
    unfold K11.rB
    have S1 := bt S1 hb
    clear hb
    refine hK.out _ _ (HN.out.bel S1).cell (fun hHeld => ?_)
    clear hK K
    try simp only [Act.put, List.setIfInBounds_toArray, List.set_cons_zero, List.set_cons_succ]
    refine' wpAnyH_take (i := 11) (oi := _) (v := _) ?hi12 (by kernel_rfl) (by kernel_rfl) (by kernel_rfl) ?hQ12 (Or.inl ⟨?hw12, ?hy12⟩) ?hT12 ?h12
    case hi12 => (simp only [List.getElem?_toArray, List.getElem?_cons_succ, List.getElem?_cons_zero]; rfl)
    case hQ12 => exact fun _ _ _ h => h
    case hw12 => rfl
    case hy12 => (intro V hSw; go_simp; (try with_reducible rfl))
    case hT12 => assumption
    case' h12 => skip
    try simp only [Act.put, List.setIfInBounds_toArray, List.set_cons_zero, List.set_cons_succ]
    refine wpAnyH_ready (rs := [12]) (by kernel_rfl) (by simp) ?_
    refine' AllReadyH.cons (o := _) ?ho13 (fun K hK => ?g13) ?s13
    case ho13 => (simp only [List.getElem?_toArray, List.getElem?_cons_succ, List.getElem?_cons_zero]; rfl)
    case s13 => exact AllReadyH.nil
    case' g13 => skip
    rw [if_pos (by rfl)]
    refine wps_store _ _ _ rfl (cs' := #[.int .i64 k.k, .int .i64 k.f, .int .i64 k.t, .int .i64 k.w, .int .i64 k.r, .int .i64 k.la, .int .i64 k.d, .int .i64 k.h, .int .i64 k.li, .int .i64 k.ra, .int .i64 k.c, .int .i64 L, .int .i64 P, .slice none 0 0, .int .i64 R, .int .i64 C, .int .i64 C, .int .i64 0, .int .i64 0]) rfl rfl (HX.out.bel S1) rfl (by kernel_rfl) (by simp [Value.oneCell']) fun W2 D O => ?_
    refine hK.out _ _ (O.blk (HN.out.bel S1) (fun e => HNe.out e)).cell (fun hHeld => ?_)
    clear hK K
    try simp only [Act.put, List.setIfInBounds_toArray, List.set_cons_zero, List.set_cons_succ]
    refine wpAnyH_done (by kernel_rfl) ?_ _
    have hB := below_only ((Only.of (bt HB.out S1)).trans_ (F := fun k => k = kr) O) (fun k hk => by have := HKR.out; omega)
    clear hHeld O
    go_wp2_with fail
    go_meet
    with_reducible exact ⟨D, hB⟩
  case rest =>
    obtain ⟨hb, hB⟩ := hcut
    have HBB := Lib.hid hB
    have hl1 := run_whole (P := Try.prog) (ty := 35) (d := .struct (Try.prog.fieldsOf 35)) hb (by kernel_rfl) rfl (by kernel_rfl)
    have HL := Lib.hid hl1
    clear hl1
    clear hb hB
    go_wp2_with fail
    have hl1 := HL.out
    refine bodyPost_ret (v := rgv ⟨k, L, P, none, 0, [], R, C, C, 0, 0⟩) (by unfold rgv rgc; simp [results, Try.results7, asAddr, Result.andThen, hl1]) rfl ?_
    exact ⟨_, rfl, rfl, HLP.out.1, HLP.out.2, HRC.out.1.symm, HRC.out.2.symm, rfl, rfl, rfl, rfl, rfl, rfl, HBB.out⟩
end Go.Proofs.Ytmfkapbllmfegaa.A12
