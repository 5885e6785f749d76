/- A ring: the accesses of a push: its words. -/
import Derived.Test.YtpoidnajhcjmcaaDoorRAcc2
namespace Go.Proofs.YtpoidnajhcjmcaaDoor.R8
open Go.RowKit Go.Proofs.YtpoidnajhcjmcaaDoor.G Go.Proofs.YtpoidnajhcjmcaaDoor.Cell Go.Proofs.YtpoidnajhcjmcaaDoor.Ob
set_option maxRecDepth 100000
variable {w w' : World} {br bm gm W D : Nat} {u o : Sv} {m : List Int} {c : Int} {F : Nat → Prop}
theorem uword_more (hh : Blk w br 132 (hd D W bm u o)) (hm : MemAt w bm gm m c) (hl : m.length = 2 + D * W) (c0 : 0 ≤ c) (c1 : c ≤ 1099511627776) (hD : 1 ≤ D ∧ D ≤ 8) (hW : W ≤ 6) {t : Int} (hu : u.t = .int .i64 t) (h1 : inD D t) {g a n cp j : Nat} {z : Int} (hul : u.l = .slice (some ⟨g, a, none⟩) n cp) (hn : n + j = W) (hn1 : 2 ≤ n) (hcp : n ≤ cp) (hcp2 : cp ≤ 9223372036854775807)
    (hz : w.cell? ⟨g, a, none⟩ = some (.int .i64 z)) (hok : okV z = true) (hg : g < w.heap.size ∧ g ≠ br ∧ g ≠ bm ∧ g ≠ gm) :
    Calls Tryd.prog 123 #[P br] w (AP br bm gm D W { u with l := .slice (some ⟨g, a + 1, none⟩) (n - 1) (cp - 1) } o (m.set (wd D W t j) z) (c + 1) w (fnV 123 br) 0) := by
  have hDW : D * W ≤ 8 * 6 := Nat.mul_le_mul hD.2 hW
  have hwd := wd_lt (W := W) (i := j) t hD.1 (by omega)
  have HW : Hid (∀ V, Below w.heap.size w V → Calls Tryd.prog 128 #[P br, .int .i64 t, .int .i64 (j : Int)] V fun e w' => e = .returned (.int .i64 (wd D W t j : Nat)) ∧ Below V.heap.size V w') := fun V hV => word_any (hh.bel hV) hD hW h1 j rfl (by omega)
  have HP : Hid (∀ V, Below w.heap.size w V → Calls Tryd.prog 127 #[P br, .int .i64 (wd D W t j : Nat), .int .i64 z] V fun e w' => e = .returned (.tuple #[]) ∧ MemAt w' bm gm (m.set (wd D W t j) z) (c + 1) ∧ Keep bm gm V w') := fun V hV => put_any (hh.bel hV) (hm.below_ hV) (by omega) c0 c1 (wd D W t j) rfl (by omega) z hok
  have k0 := hh.cell
  unfold hd P at k0
  simp only [hu, hul] at k0
  have HK : Hid (∀ V, Below w.heap.size w V → (∀ i, V.cell? ⟨br, i, none⟩ = (#[.int .i64 D, .int .i64 W, .pointer (some ⟨bm, 0, none⟩), u.n, u.h, .int .i64 t, .slice (some ⟨g, a, none⟩) n cp, u.o, o.n, o.h, o.t, o.l, o.o] : Array Value)[i]?) ∧ V.cell? ⟨g, a, none⟩ = some (.int .i64 z)) := fun V hV => ⟨fun i => by rw [hV.cell (p := ⟨br, i, none⟩) hh.lt]; exact k0 i, by rw [hV.cell (p := ⟨g, a, none⟩) hg.1]; exact hz⟩
  have HK2 : Hid (∀ V V', Below w.heap.size w V → Keep bm gm V V' → (∀ i, V'.cell? ⟨br, i, none⟩ = (#[.int .i64 D, .int .i64 W, .pointer (some ⟨bm, 0, none⟩), u.n, u.h, .int .i64 t, .slice (some ⟨g, a, none⟩) n cp, u.o, o.n, o.h, o.t, o.l, o.o] : Array Value)[i]?) ∧ V'.cell? ⟨g, a, none⟩ = some (.int .i64 z)) := fun V V' hV hk => ⟨fun i => by
      rw [(hd_keep (hh.bel hV) (hm.below_ hV) hk).cell i, ← hh.cell i]; exact k0 i, by
      rw [World.cell?_of_block (hk.block g (Nat.lt_of_lt_of_le hg.1 hV.size) hg.2.2.1 hg.2.2.2)]; exact (HK.out V hV).2⟩
  have FIN : Hid (∀ V V', Below w.heap.size w V → Keep bm gm V V' → Blk V' br 132 (hd D W bm u o) ∧ Only (O3 bm gm br) w V') := fun V V' hV hk => ⟨hd_keep (hh.bel hV) (hm.below_ hV) hk, (Only.of_below hV).trans_ (keep3 hk)⟩
  have S0 : Below w.heap.size w w.drew := (Below.refl _ _).drew
  have ej : (W : Int) - n = j := by omega
  have tm : 2 ≤ n := hn1
  have wj : IntKind.i64.wrap (j : Int) = j := w1_ (by omega) (by omega)
  have n0 : 0 < n := by omega
  clear hm hl c0 c1 h1 hD hu hul hok hwd hDW hg hz
  generalize wd D W t j = x at *
  unfold P at HW HP
  unfold AP P fnV P
  go_enter Tryd.func123, Tryd.ntmps123
  go_wp2_with fail
  go_region_held3 (fun V => (∀ i, V.cell? ⟨br, i, none⟩ = (#[.int .i64 D, .int .i64 W, .pointer (some ⟨bm, 0, none⟩), u.n, u.h, .int .i64 t, .slice (some ⟨g, a, none⟩) n cp, u.o, o.n, o.h, o.t, o.l, o.o] : Array Value)[i]?) ∧ V.cell? ⟨g, a, none⟩ = some (.int .i64 z)) (first | (with_reducible exact HK.out _ S0) | (with_reducible exact HK2.out _ _ S0 hk2) | fail)
    (first
      | (go_at_call 128; (with_reducible refine (HW.out _ S0).mono ?_); rintro e w1 ⟨rfl, hb1⟩; have S0 := bt S0 hb1)
      | (go_at_call 127; (with_reducible refine (HP.out _ S0).mono ?_); rintro e w2 ⟨rfl, hm2, hk2⟩)
      | fail)
  all_goals
    obtain ⟨R2, O2⟩ := FIN.out _ _ S0 hk2
    have k2 := (HK2.out _ _ S0 hk2).1
    have f2 := R2.frozen
    have z2 := R2.lt
    have HM := Lib.hid (mem_far hm2 R2)
    have HO := Lib.hid O2
    have HR := Lib.hid R2
    clear k0 hm2 hk2 O2 hh
    go_wp2_with fail
    all_goals exact bodyPost_ret (v := .tuple #[.func (.func 123) #[.pointer (some ⟨br, 0, none⟩)] #[], .int .i64 0]) (by simp [results, Tryd.results123, go_sem]) rfl ⟨rfl, HM.out _ _, HR.out.set_ 6 _, HO.out.set_ (.inr (.inr rfl)) _ _⟩
theorem uword_end (hh : Blk w br 132 (hd D W bm u o)) (hm : MemAt w bm gm m c) (hl : m.length = 2 + D * W) (c0 : 0 ≤ c) (c1 : c ≤ 1099511627776) (hD : 1 ≤ D ∧ D ≤ 8) (hW : W ≤ 6) {t : Int} (hu : u.t = .int .i64 t) (h1 : inD D t) {g a n cp j : Nat} {z : Int} (hul : u.l = .slice (some ⟨g, a, none⟩) n cp) (hn : n + j = W) (hn1 : n = 1) (hcp : n ≤ cp) (hcp2 : cp ≤ 9223372036854775807)
    (hz : w.cell? ⟨g, a, none⟩ = some (.int .i64 z)) (hok : okV z = true) (hg : g < w.heap.size ∧ g ≠ br ∧ g ≠ bm ∧ g ≠ gm) :
    Calls Tryd.prog 123 #[P br] w (fun e w9 => ∃ a9 c9, c9 ≤ cp ∧ AP br bm gm D W { u with l := .slice (some ⟨g, a9, none⟩) 0 c9 } o (m.set (wd D W t j) z) (c + 1) w (fnV 129 br) 0 e w9) := by
  have hDW : D * W ≤ 8 * 6 := Nat.mul_le_mul hD.2 hW
  have hwd := wd_lt (W := W) (i := j) t hD.1 (by omega)
  have HW : Hid (∀ V, Below w.heap.size w V → Calls Tryd.prog 128 #[P br, .int .i64 t, .int .i64 (j : Int)] V fun e w' => e = .returned (.int .i64 (wd D W t j : Nat)) ∧ Below V.heap.size V w') := fun V hV => word_any (hh.bel hV) hD hW h1 j rfl (by omega)
  have HP : Hid (∀ V, Below w.heap.size w V → Calls Tryd.prog 127 #[P br, .int .i64 (wd D W t j : Nat), .int .i64 z] V fun e w' => e = .returned (.tuple #[]) ∧ MemAt w' bm gm (m.set (wd D W t j) z) (c + 1) ∧ Keep bm gm V w') := fun V hV => put_any (hh.bel hV) (hm.below_ hV) (by omega) c0 c1 (wd D W t j) rfl (by omega) z hok
  have k0 := hh.cell
  unfold hd P at k0
  simp only [hu, hul] at k0
  have HK : Hid (∀ V, Below w.heap.size w V → (∀ i, V.cell? ⟨br, i, none⟩ = (#[.int .i64 D, .int .i64 W, .pointer (some ⟨bm, 0, none⟩), u.n, u.h, .int .i64 t, .slice (some ⟨g, a, none⟩) n cp, u.o, o.n, o.h, o.t, o.l, o.o] : Array Value)[i]?) ∧ V.cell? ⟨g, a, none⟩ = some (.int .i64 z)) := fun V hV => ⟨fun i => by rw [hV.cell (p := ⟨br, i, none⟩) hh.lt]; exact k0 i, by rw [hV.cell (p := ⟨g, a, none⟩) hg.1]; exact hz⟩
  have HK2 : Hid (∀ V V', Below w.heap.size w V → Keep bm gm V V' → (∀ i, V'.cell? ⟨br, i, none⟩ = (#[.int .i64 D, .int .i64 W, .pointer (some ⟨bm, 0, none⟩), u.n, u.h, .int .i64 t, .slice (some ⟨g, a, none⟩) n cp, u.o, o.n, o.h, o.t, o.l, o.o] : Array Value)[i]?) ∧ V'.cell? ⟨g, a, none⟩ = some (.int .i64 z)) := fun V V' hV hk => ⟨fun i => by
      rw [(hd_keep (hh.bel hV) (hm.below_ hV) hk).cell i, ← hh.cell i]; exact k0 i, by
      rw [World.cell?_of_block (hk.block g (Nat.lt_of_lt_of_le hg.1 hV.size) hg.2.2.1 hg.2.2.2)]; exact (HK.out V hV).2⟩
  have FIN : Hid (∀ V V', Below w.heap.size w V → Keep bm gm V V' → Blk V' br 132 (hd D W bm u o) ∧ Only (O3 bm gm br) w V') := fun V V' hV hk => ⟨hd_keep (hh.bel hV) (hm.below_ hV) hk, (Only.of_below hV).trans_ (keep3 hk)⟩
  have S0 : Below w.heap.size w w.drew := (Below.refl _ _).drew
  have ej : (W : Int) - 1 = j := by omega
  have tm : n = 1 := hn1
  have wj : IntKind.i64.wrap (j : Int) = j := w1_ (by omega) (by omega)
  have n0 : 0 < n := by omega
  clear hm hl c0 c1 h1 hD hu hul hok hwd hDW hg hz
  generalize wd D W t j = x at *
  unfold P at HW HP
  unfold AP P fnV P
  go_enter Tryd.func123, Tryd.ntmps123
  go_wp2_with fail
  go_region_held3 (fun V => (∀ i, V.cell? ⟨br, i, none⟩ = (#[.int .i64 D, .int .i64 W, .pointer (some ⟨bm, 0, none⟩), u.n, u.h, .int .i64 t, .slice (some ⟨g, a, none⟩) n cp, u.o, o.n, o.h, o.t, o.l, o.o] : Array Value)[i]?) ∧ V.cell? ⟨g, a, none⟩ = some (.int .i64 z)) (first | (with_reducible exact HK.out _ S0) | (with_reducible exact HK2.out _ _ S0 hk2) | fail)
    (first
      | (go_at_call 128; (with_reducible refine (HW.out _ S0).mono ?_); rintro e w1 ⟨rfl, hb1⟩; have S0 := bt S0 hb1)
      | (go_at_call 127; (with_reducible refine (HP.out _ S0).mono ?_); rintro e w2 ⟨rfl, hm2, hk2⟩)
      | fail)
  all_goals
    obtain ⟨R2, O2⟩ := FIN.out _ _ S0 hk2
    have k2 := (HK2.out _ _ S0 hk2).1
    have f2 := R2.frozen
    have z2 := R2.lt
    have HM := Lib.hid (mem_far hm2 R2)
    have HO := Lib.hid O2
    have HR := Lib.hid R2
    clear k0 hm2 hk2 O2 hh
    go_wp2_with fail
    all_goals exact bodyPost_ret (v := .tuple #[.func (.func 129) #[.pointer (some ⟨br, 0, none⟩)] #[], .int .i64 0]) (by simp [results, Tryd.results123, go_sem]) rfl ⟨_, _, by omega, rfl, HM.out _ _, HR.out.set_ 6 _, HO.out.set_ (.inr (.inr rfl)) _ _⟩
end Go.Proofs.YtpoidnajhcjmcaaDoor.R8
