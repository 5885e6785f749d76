/- A ring: the accesses of a pop: its words. -/
import Derived.Test.YtpoidnajhcjmcaaDoorRAcc2
import Derived.Test.YtpoidnajhcjmcaaDoorApd
namespace Go.Proofs.YtpoidnajhcjmcaaDoor.R8
open Go.RowKit Go.Proofs.YtpoidnajhcjmcaaDoor.G Go.Proofs.YtpoidnajhcjmcaaDoor.Cell Go.Proofs.YtpoidnajhcjmcaaDoor.Ob
set_option maxRecDepth 100000
variable {w w' : World} {br bm gm W D : Nat} {u o : Sv} {m : List Int} {c : Int} {F : Nat → Prop}
/-- What the access of a word leaves, of a pop. -/
def OP2 (br bm gm D W : Nat) (u o : Sv) (m : List Int) (c : Int) (w : World) (l : List Int) (z : Int) (v' : Value) (w' : World) : Prop :=
  MemAt w' bm gm m c ∧ Blk w' br 132 (hd D W bm u { o with o := v' }) ∧ Lst w' 0 v' (l ++ [z]) ∧ (∀ g, v'.ownBlock = some g → o.o.ownBlock = some g ∨ w.heap.size ≤ g) ∧ Only (Oo br bm gm o.o) w w'
theorem OP2.drewN {l : List Int} {z : Int} {v' : Value} (h : OP2 br bm gm D W u o m c w l z v' w') (n : Nat) : OP2 br bm gm D W u o m c w l z v' (w'.drewN n) :=
  ⟨mem_drewN h.1 n, h.2.1.drewN n, Own.drewN h.2.2.1 n, h.2.2.2.1, h.2.2.2.2.drewN n⟩
def OP (br bm gm D W : Nat) (u o : Sv) (m : List Int) (c : Int) (w : World) (l : List Int) (z : Int) (nv : Value) (e : Ending) (w' : World) : Prop :=
  ∃ v', e = .returned (.tuple #[nv, .int .i64 0]) ∧ OP2 br bm gm D W u o m c w l z v' w'
theorem lst_sl {V : World} {v : Value} {l : List Int} {z : Int} (h : Lst V 0 v (l ++ [z])) : ∃ A c, v = .slice A (l.length + 1) c ∧ l.length + 1 ≤ c ∧ c ≤ 9223372036854775807 := by
  obtain ⟨A, c, e, _, h1, h2, _⟩ := Own.row h
  rw [List.length_append, List.length_singleton] at e h1
  unfold maxLen at h2
  exact ⟨A, c, e, h1, h2⟩
theorem grow_fin {V V' : World} {v' : Value} {l : List Int} {z : Int} (hb : Blk V br 132 (hd D W bm u o)) (hm : MemAt V bm gm m c) (hO : Only (O3 bm gm br) w V) (hL : Lst V' 0 v' (l ++ [z])) (hG : V.grownBy V' o.o.ownBlock) (hn : v'.ownBlock = o.o.ownBlock ∨ v'.ownBlock = some V.heap.size) (hsz : w.heap.size ≤ V.heap.size) (hg : ∀ g, o.o.ownBlock = some g → g ≠ br ∧ g ≠ bm ∧ g ≠ gm) :
    Blk V' br 132 (hd D W bm u o) ∧ OP2 br bm gm D W u o m c w l z v' (V'.setCell ⟨br, 12, none⟩ v') := by
  have e1 : Blk V' br 132 (hd D W bm u o) := (hG.block br hb.lt (fun e => (hg br e.symm).1 rfl)).trans hb
  have e2 : MemAt V' bm gm m c := ⟨(hG.block bm hm.head.lt (fun e => (hg bm e.symm).2.1 rfl)).trans hm.head, (hG.block gm hm.words.lt (fun e => (hg gm e.symm).2.2 rfl)).trans hm.words⟩
  have e3 : Only (Oo br bm gm o.o) w V' := (hO.mono fun b hb => .inl hb).trans ⟨hG.os, hG.tape, hG.output, hG.size, fun b hb hx => hG.block b hb fun e => hx (.inl (.inr e.symm))⟩
  refine ⟨e1, mem_far e2 e1 _ _, e1.set_ 12 v', Own.far hL e1 (by decide) 12 v', fun g hg' => ?_, e3.set_ (.inl (.inr (.inr rfl))) 12 v'⟩
  rcases hn with h | h
  · exact .inl (h ▸ hg')
  · rw [h] at hg'
    injection hg' with hg'
    exact .inr (hg' ▸ hsz)
set_option maxHeartbeats 4000000 in
theorem oword_more (hh : Blk w br 132 (hd D W bm u o)) (hm : MemAt w bm gm m c) (hl : m.length = 2 + D * W) (c0 : 0 ≤ c) (c1 : c ≤ 1099511627776) (hD : 1 ≤ D ∧ D ≤ 8) (hW : W ≤ 6) {t : Int} (hu : o.h = .int .i64 t) (h1 : inD D t) {l : List Int} {cp : Nat} {A : Option Addr} (ho : o.o = .slice A l.length cp) (hown : Lst w 0 o.o l) (hn : l.length + 1 < W) (hcp : l.length ≤ cp) (hcp2 : cp ≤ 9223372036854775807)
    (hg : ∀ g, o.o.ownBlock = some g → g ≠ br ∧ g ≠ bm ∧ g ≠ gm) :
    Calls Tryd.prog 124 #[P br] w (OP br bm gm D W u o m (c + 1) w l (nth m (wd D W t l.length)) (fnV 124 br)) := by
  have hDW : D * W ≤ 8 * 6 := Nat.mul_le_mul hD.2 hW
  have hwd := wd_lt (W := W) (i := l.length) t hD.1 (by omega)
  have HW : Hid (∀ V, Below w.heap.size w V → Calls Tryd.prog 128 #[P br, .int .i64 t, .int .i64 (l.length : Int)] V fun e w' => e = .returned (.int .i64 (wd D W t l.length : Nat)) ∧ Below V.heap.size V w') := fun V hV => word_any (hh.bel hV) hD hW h1 l.length rfl (by omega)
  have HP : Hid (∀ V, Below w.heap.size w V → Calls Tryd.prog 115 #[P br, .int .i64 (wd D W t l.length : Nat)] V fun e w' => e = .returned (.int .i64 (nth m (wd D W t l.length))) ∧ MemAt w' bm gm m (c + 1) ∧ Keep bm gm V w') := fun V hV => get_any (hh.bel hV) (hm.below_ hV) (by omega) c0 c1 (wd D W t l.length) rfl (by omega)
  have k0 := hh.cell
  unfold hd P at k0
  simp only [hu, ho] at k0
  have HK : Hid (∀ V, Below w.heap.size w V → ∀ i, V.cell? ⟨br, i, none⟩ = (#[.int .i64 D, .int .i64 W, .pointer (some ⟨bm, 0, none⟩), u.n, u.h, u.t, u.l, u.o, o.n, .int .i64 t, o.t, o.l, .slice A l.length cp] : Array Value)[i]?) := fun V hV i => by rw [hV.cell (p := ⟨br, i, none⟩) hh.lt]; exact k0 i
  have FIN : Hid (∀ V V', Below w.heap.size w V → Keep bm gm V V' → Blk V' br 132 (hd D W bm u o) ∧ Only (O3 bm gm br) w V' ∧ Lst V' 0 o.o l) := fun V V' hV hk =>
    ⟨hd_keep (hh.bel hV) (hm.below_ hV) hk, (Only.of_below hV).trans_ (keep3 hk), own_only (G := O3 bm gm br) (Own.below hown hV) (keep3 hk) (fun g e hx => by
      obtain ⟨n1, n2, n3⟩ := hg g e
      rcases hx with hx | hx | hx
      · exact n2 hx
      · exact n3 hx
      · exact n1 hx)⟩
  have HK2 : Hid (∀ V V', Below w.heap.size w V → Keep bm gm V V' → ∀ i, V'.cell? ⟨br, i, none⟩ = (#[.int .i64 D, .int .i64 W, .pointer (some ⟨bm, 0, none⟩), u.n, u.h, u.t, u.l, u.o, o.n, .int .i64 t, o.t, o.l, .slice A l.length cp] : Array Value)[i]?) := fun V V' hV hk i => by
      rw [(FIN.out V V' hV hk).1.cell i, ← hh.cell i]; exact k0 i
  have APD : Hid (∀ (V V' : World) (v' : Value), Blk V br 132 (hd D W bm u o) → MemAt V bm gm m (c + 1) → Only (O3 bm gm br) w V → Lst V 0 o.o l → Lst V' 0 v' (l ++ [nth m (wd D W t l.length)]) → V.grownBy V' o.o.ownBlock → (v'.ownBlock = o.o.ownBlock ∨ v'.ownBlock = some V.heap.size) → w.heap.size ≤ V.heap.size →
      Blk V' br 132 (hd D W bm u o) ∧ OP2 br bm gm D W u o m (c + 1) w l (nth m (wd D W t l.length)) v' (V'.setCell ⟨br, 12, none⟩ v')) := fun V V' v' hb hm1 hO hL hL' hG hnb hsz => grow_fin hb hm1 hO hL' hG hnb hsz hg
  have S0 : Below w.heap.size w w.drew := (Below.refl _ _).drew
  have wj : IntKind.i64.wrap (l.length : Int) = l.length := w1_ (by omega) (by omega)
  have HL6 : Hid (l.length ≤ 100) := by show l.length ≤ 100; omega
  have HHO := Lib.hid ho
  have HLT := Lib.hid hh.lt
  have tn : l.length + 1 < W := hn
  clear hm hl c0 c1 h1 hD hu hwd hDW hg hh hown hn
  generalize hxx : wd D W t l.length = x at *
  generalize hzz : nth m x = z at *
  clear hxx hzz
  unfold P at HW HP
  unfold P fnV
  go_enter Tryd.func124, Tryd.ntmps124
  go_wp2_with fail
  go_region_law
    (first
      | ((refine step_one (by rfl) _ _ (by rfl) (by rfl) (HL3.out _) (by rfl) (Blk.new _ _ _) HL6.out ?_); intro v' w4 hv4 hg4 hn4; obtain ⟨A9, c9, rfl, hc9, hc10⟩ := lst_sl hv4; have HQ := Lib.hid (HAP.out (.cells #[.int .i64 z] 3) w4 (.slice A9 (l.length + 1) c9) hv4 hg4 hn4); have k4 := HQ.out.1.cell; have f4 := HQ.out.1.frozen; have z4 := HQ.out.1.lt; unfold hd P at k4)
      | ((rw [if_pos (by simp [Region.wanted])]; go_simp; go_at_call 128; (with_reducible refine (HW.out _ S0).mono ?_); rintro e w1 ⟨rfl, hb1⟩; have S0 := bt S0 hb1; have K0 := HK.out _ S0))
      | ((rw [if_pos (by simp [Region.wanted])]; go_simp; go_at_call 115; (with_reducible refine (HP.out _ S0).mono ?_); rintro e w2 ⟨rfl, hm2, hk2⟩; have K0 := HK2.out _ _ S0 hk2; have K1 := HK2.out _ (w2.alloc (.cells #[.int .i64 z] 3)) S0 (hk2.trans (Keep.of_below (b01 _ _))); have HL3 : Hid (∀ ob, Lst (w2.alloc ob) 0 (.slice A l.length cp) l) := (fun ob => by have := Own.below (FIN.out _ _ S0 hk2).2.2 (b01 w2 ob); rwa [HHO.out] at this); have HAP : Hid (∀ (ob : Obj) (w4 : World) (v' : Value), Lst w4 0 v' (l ++ [z]) → (w2.alloc ob).grownBy w4 (Value.slice A l.length cp).ownBlock → (v'.ownBlock = (Value.slice A l.length cp).ownBlock ∨ v'.ownBlock = some (w2.alloc ob).heap.size) → Blk w4 br 132 (hd D W bm u o) ∧ OP2 br bm gm D W u o m (c + 1) w l z v' (w4.setCell ⟨br, 12, none⟩ v')) := (fun ob w4 v' h1 h2 h3 => by
          obtain ⟨q1, q2, q3⟩ := FIN.out _ _ S0 hk2
          rw [← HHO.out] at h2 h3
          exact APD.out (w2.alloc ob) w4 v' (q1.alloc ob) ⟨hm2.head.alloc ob, hm2.words.alloc ob⟩ (q2.trans_ (.of_below (b01 w2 ob))) (Own.below q3 (b01 w2 ob)) h1 h2 h3 (by rw [World.size_alloc]; have e1 := hk2.size; have e2 := S0.size; omega)))))
  all_goals
    have HF := Lib.hid HQ.out.2
    have k5 := HF.out.2.1.cell
    unfold hd P at k5
    clear K0 K1 k0 k4 f4 HQ hm2 hk2 HAP HL3
    generalize w4.setCell ⟨br, 12, none⟩ (.slice A9 (l.length + 1) c9) = w5 at *
    go_wp2_with fail
    go_quiet (fail)
    go_wp2
    exact bodyPost_ret (v := .tuple #[.func (.func 124) #[.pointer (some ⟨br, 0, none⟩)] #[], .int .i64 0]) (by simp [results, Tryd.results124, go_sem]) rfl ⟨_, rfl, OP2.drewN HF.out _⟩
set_option maxHeartbeats 4000000 in
theorem oword_end (hh : Blk w br 132 (hd D W bm u o)) (hm : MemAt w bm gm m c) (hl : m.length = 2 + D * W) (c0 : 0 ≤ c) (c1 : c ≤ 1099511627776) (hD : 1 ≤ D ∧ D ≤ 8) (hW : W ≤ 6) {t : Int} (hu : o.h = .int .i64 t) (h1 : inD D t) {l : List Int} {cp : Nat} {A : Option Addr} (ho : o.o = .slice A l.length cp) (hown : Lst w 0 o.o l) (hn : l.length + 1 = W) (hcp : l.length ≤ cp) (hcp2 : cp ≤ 9223372036854775807)
    (hg : ∀ g, o.o.ownBlock = some g → g ≠ br ∧ g ≠ bm ∧ g ≠ gm) :
    Calls Tryd.prog 124 #[P br] w (OP br bm gm D W u o m (c + 1) w l (nth m (wd D W t l.length)) (fnV 130 br)) := by
  have hDW : D * W ≤ 8 * 6 := Nat.mul_le_mul hD.2 hW
  have hwd := wd_lt (W := W) (i := l.length) t hD.1 (by omega)
  have HW : Hid (∀ V, Below w.heap.size w V → Calls Tryd.prog 128 #[P br, .int .i64 t, .int .i64 (l.length : Int)] V fun e w' => e = .returned (.int .i64 (wd D W t l.length : Nat)) ∧ Below V.heap.size V w') := fun V hV => word_any (hh.bel hV) hD hW h1 l.length rfl (by omega)
  have HP : Hid (∀ V, Below w.heap.size w V → Calls Tryd.prog 115 #[P br, .int .i64 (wd D W t l.length : Nat)] V fun e w' => e = .returned (.int .i64 (nth m (wd D W t l.length))) ∧ MemAt w' bm gm m (c + 1) ∧ Keep bm gm V w') := fun V hV => get_any (hh.bel hV) (hm.below_ hV) (by omega) c0 c1 (wd D W t l.length) rfl (by omega)
  have k0 := hh.cell
  unfold hd P at k0
  simp only [hu, ho] at k0
  have HK : Hid (∀ V, Below w.heap.size w V → ∀ i, V.cell? ⟨br, i, none⟩ = (#[.int .i64 D, .int .i64 W, .pointer (some ⟨bm, 0, none⟩), u.n, u.h, u.t, u.l, u.o, o.n, .int .i64 t, o.t, o.l, .slice A l.length cp] : Array Value)[i]?) := fun V hV i => by rw [hV.cell (p := ⟨br, i, none⟩) hh.lt]; exact k0 i
  have FIN : Hid (∀ V V', Below w.heap.size w V → Keep bm gm V V' → Blk V' br 132 (hd D W bm u o) ∧ Only (O3 bm gm br) w V' ∧ Lst V' 0 o.o l) := fun V V' hV hk =>
    ⟨hd_keep (hh.bel hV) (hm.below_ hV) hk, (Only.of_below hV).trans_ (keep3 hk), own_only (G := O3 bm gm br) (Own.below hown hV) (keep3 hk) (fun g e hx => by
      obtain ⟨n1, n2, n3⟩ := hg g e
      rcases hx with hx | hx | hx
      · exact n2 hx
      · exact n3 hx
      · exact n1 hx)⟩
  have HK2 : Hid (∀ V V', Below w.heap.size w V → Keep bm gm V V' → ∀ i, V'.cell? ⟨br, i, none⟩ = (#[.int .i64 D, .int .i64 W, .pointer (some ⟨bm, 0, none⟩), u.n, u.h, u.t, u.l, u.o, o.n, .int .i64 t, o.t, o.l, .slice A l.length cp] : Array Value)[i]?) := fun V V' hV hk i => by
      rw [(FIN.out V V' hV hk).1.cell i, ← hh.cell i]; exact k0 i
  have APD : Hid (∀ (V V' : World) (v' : Value), Blk V br 132 (hd D W bm u o) → MemAt V bm gm m (c + 1) → Only (O3 bm gm br) w V → Lst V 0 o.o l → Lst V' 0 v' (l ++ [nth m (wd D W t l.length)]) → V.grownBy V' o.o.ownBlock → (v'.ownBlock = o.o.ownBlock ∨ v'.ownBlock = some V.heap.size) → w.heap.size ≤ V.heap.size →
      Blk V' br 132 (hd D W bm u o) ∧ OP2 br bm gm D W u o m (c + 1) w l (nth m (wd D W t l.length)) v' (V'.setCell ⟨br, 12, none⟩ v')) := fun V V' v' hb hm1 hO hL hL' hG hnb hsz => grow_fin hb hm1 hO hL' hG hnb hsz hg
  have S0 : Below w.heap.size w w.drew := (Below.refl _ _).drew
  have wj : IntKind.i64.wrap (l.length : Int) = l.length := w1_ (by omega) (by omega)
  have HL6 : Hid (l.length ≤ 100) := by show l.length ≤ 100; omega
  have HHO := Lib.hid ho
  have HLT := Lib.hid hh.lt
  have tn : W ≤ l.length + 1 := by omega
  clear hm hl c0 c1 h1 hD hu hwd hDW hg hh hown hn
  generalize hxx : wd D W t l.length = x at *
  generalize hzz : nth m x = z at *
  clear hxx hzz
  unfold P at HW HP
  unfold P fnV
  go_enter Tryd.func124, Tryd.ntmps124
  go_wp2_with fail
  go_region_law
    (first
      | ((refine step_one (by rfl) _ _ (by rfl) (by rfl) (HL3.out _) (by rfl) (Blk.new _ _ _) HL6.out ?_); intro v' w4 hv4 hg4 hn4; obtain ⟨A9, c9, rfl, hc9, hc10⟩ := lst_sl hv4; have HQ := Lib.hid (HAP.out (.cells #[.int .i64 z] 3) w4 (.slice A9 (l.length + 1) c9) hv4 hg4 hn4); have k4 := HQ.out.1.cell; have f4 := HQ.out.1.frozen; have z4 := HQ.out.1.lt; unfold hd P at k4)
      | ((rw [if_pos (by simp [Region.wanted])]; go_simp; go_at_call 128; (with_reducible refine (HW.out _ S0).mono ?_); rintro e w1 ⟨rfl, hb1⟩; have S0 := bt S0 hb1; have K0 := HK.out _ S0))
      | ((rw [if_pos (by simp [Region.wanted])]; go_simp; go_at_call 115; (with_reducible refine (HP.out _ S0).mono ?_); rintro e w2 ⟨rfl, hm2, hk2⟩; have K0 := HK2.out _ _ S0 hk2; have K1 := HK2.out _ (w2.alloc (.cells #[.int .i64 z] 3)) S0 (hk2.trans (Keep.of_below (b01 _ _))); have HL3 : Hid (∀ ob, Lst (w2.alloc ob) 0 (.slice A l.length cp) l) := (fun ob => by have := Own.below (FIN.out _ _ S0 hk2).2.2 (b01 w2 ob); rwa [HHO.out] at this); have HAP : Hid (∀ (ob : Obj) (w4 : World) (v' : Value), Lst w4 0 v' (l ++ [z]) → (w2.alloc ob).grownBy w4 (Value.slice A l.length cp).ownBlock → (v'.ownBlock = (Value.slice A l.length cp).ownBlock ∨ v'.ownBlock = some (w2.alloc ob).heap.size) → Blk w4 br 132 (hd D W bm u o) ∧ OP2 br bm gm D W u o m (c + 1) w l z v' (w4.setCell ⟨br, 12, none⟩ v')) := (fun ob w4 v' h1 h2 h3 => by
          obtain ⟨q1, q2, q3⟩ := FIN.out _ _ S0 hk2
          rw [← HHO.out] at h2 h3
          exact APD.out (w2.alloc ob) w4 v' (q1.alloc ob) ⟨hm2.head.alloc ob, hm2.words.alloc ob⟩ (q2.trans_ (.of_below (b01 w2 ob))) (Own.below q3 (b01 w2 ob)) h1 h2 h3 (by rw [World.size_alloc]; have e1 := hk2.size; have e2 := S0.size; omega)))))
  all_goals
    have HF := Lib.hid HQ.out.2
    have k5 := HF.out.2.1.cell
    unfold hd P at k5
    clear K0 K1 k0 k4 f4 HQ hm2 hk2 HAP HL3
    generalize w4.setCell ⟨br, 12, none⟩ (.slice A9 (l.length + 1) c9) = w5 at *
    go_wp2_with fail
    go_quiet (fail)
    go_wp2
    exact bodyPost_ret (v := .tuple #[.func (.func 130) #[.pointer (some ⟨br, 0, none⟩)] #[], .int .i64 0]) (by simp [results, Tryd.results124, go_sem]) rfl ⟨_, rfl, OP2.drewN HF.out _⟩
end Go.Proofs.YtpoidnajhcjmcaaDoor.R8
