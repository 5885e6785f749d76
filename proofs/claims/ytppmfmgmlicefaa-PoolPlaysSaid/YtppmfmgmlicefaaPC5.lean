/- A pool: stores into it; Take: contracts. -/
import Derived.Test.YtppmfmgmlicefaaPC4
import Derived.StillTailTactics
import Derived.Deep.RegionHeld3
import Derived.IntWalk
namespace Go.Proofs.Ytppmfmgmlicefaa.P9
open Go.RowKit Go.Proofs.Ytppmfmgmlicefaa.G
set_option maxRecDepth 100000
variable {w w' : World} {b n : Nat} {s : SS} {t : Nat → Int} {c : Int}

theorem Cs.own {cs : Array Value} (h : Cs cs n s t) {k : Nat} (hk : k < 64) (o : Option Int) : Cs ((cs.setIfInBounds (1 + k * 2) (.bool (B1 o))).setIfInBounds (1 + k * 2 + 1) (.int .i64 (V1 o))) n (upd s k o) t := by
  have hs := h.size
  refine ⟨by simp [hs], ?_, fun j hj => ?_, fun j hj => ?_, fun j hj => ?_⟩
  · rw [Array.getElem?_setIfInBounds_ne (by omega), Array.getElem?_setIfInBounds_ne (by omega)]; exact h.c0
  · rw [Array.getElem?_setIfInBounds_ne (by omega)]
    by_cases e : j = k
    · subst e; rw [upd_eq, Array.getElem?_setIfInBounds_self_of_lt (by omega)]
    · rw [Array.getElem?_setIfInBounds_ne (by omega), upd_ne _ _ e]; exact h.cb j hj
  · by_cases e : j = k
    · subst e; rw [upd_eq, Array.getElem?_setIfInBounds_self_of_lt (by simp only [Array.size_setIfInBounds]; omega)]
    · rw [Array.getElem?_setIfInBounds_ne (by omega), Array.getElem?_setIfInBounds_ne (by omega), upd_ne _ _ e]; exact h.co j hj
  · rw [Array.getElem?_setIfInBounds_ne (by omega), Array.getElem?_setIfInBounds_ne (by omega)]; exact h.ct j hj
theorem Cs.turn {cs : Array Value} (h : Cs cs n s t) {k : Nat} (hk : k < 64) (v : Int) : Cs (cs.setIfInBounds (129 + k) (.int .i64 v)) n s (upd t k v) := by
  have hs := h.size
  refine ⟨by simp [hs], ?_, fun j hj => ?_, fun j hj => ?_, fun j hj => ?_⟩
  · rw [Array.getElem?_setIfInBounds_ne (by omega)]; exact h.c0
  · rw [Array.getElem?_setIfInBounds_ne (by omega)]; exact h.cb j hj
  · rw [Array.getElem?_setIfInBounds_ne (by omega)]; exact h.co j hj
  · by_cases e : j = k
    · subst e; rw [upd_eq, Array.getElem?_setIfInBounds_self_of_lt (by omega)]
    · rw [Array.getElem?_setIfInBounds_ne (by omega), upd_ne _ _ e]; exact h.ct j hj
theorem Pl.own_ (h : Pl w b n s t c) {k : Nat} (hk : k < 64) (o : Option Int) : Pl ((w.setCell ⟨b, 1 + k * 2, none⟩ (.bool (B1 o))).setCell ⟨b, 1 + k * 2 + 1, none⟩ (.int .i64 (V1 o))) b n (upd s k o) t c := by
  obtain ⟨cs, h1, h2⟩ := h.blk
  exact ⟨⟨_, (h1.set_ _ _).set_ _ _, h2.own hk o⟩, h.n64, h.tb⟩
theorem Pl.turn_ (h : Pl w b n s t c) {k : Nat} (hk : k < 64) : Pl (w.setCell ⟨b, 129 + k, none⟩ (.int .i64 (t k + 1))) b n s (upd t k (t k + 1)) (c + 1) := by
  obtain ⟨cs, h1, h2⟩ := h.blk
  refine ⟨⟨_, h1.set_ _ _, h2.turn hk _⟩, h.n64, fun j => ?_⟩
  have hj := h.tb j
  by_cases e : j = k
  · subst e; rw [upd_eq]; omega
  · rw [upd_ne _ _ e]; omega
theorem Pl.drewN (h : Pl w b n s t c) (m : Nat) : Pl (w.drewN m) b n s t c := h.below (bn (Below.refl _ _) m)
theorem Pl.drew (h : Pl w b n s t c) : Pl w.drew b n s t c := h.below (Below.refl _ _).drew
theorem Ob.drew {a : World} (h : Ob b a w) : Ob b a w.drew := ⟨h.os, h.tape, h.output, h.size, h.block⟩
theorem Ob.own_ (w : World) (b i : Nat) (u v : Value) : Ob b w ((w.setCell ⟨b, 1 + i * 2, none⟩ u).setCell ⟨b, 1 + i * 2 + 1, none⟩ v) := ((Ob.refl b w).set_ _ _).set_ _ _

def TkPost (b n : Nat) (s : SS) (t : Nat → Int) (c : Int) (k : Nat) (v : Int) (w : World) (e : Ending) (w' : World) : Prop :=
  e = .returned (.tuple #[.int .i64 (k : Int), .int .i64 0]) ∧ Pl w' b n (upd s k (some v)) (upd t k (t k + 1)) (c + 1) ∧ Ob b w w'
def TfPost (b n : Nat) (s : SS) (t : Nat → Int) (c : Int) (w : World) (e : Ending) (w' : World) : Prop :=
  e = .returned (.tuple #[.int .i64 (-1), .int .i64 10]) ∧ Pl w' b n s t c ∧ Below w.heap.size w w'
theorem zero56 (W : World) : (zeroValue 56).run Try.prog W = .ok (.agg #[.bool false, .int .i64 0]) W := by kernel_rfl
set_option maxHeartbeats 1000000 in
theorem take_full (h : Pl w b n s t c) (v : Int) (hf : Full n s) : Calls Try.prog 15 #[.pointer (some ⟨b, 0, none⟩), .int .i64 v] w (TfPost b n s t c w) := by
  have HP := Lib.hid h
  have HF := Lib.hid hf
  clear h hf
  go_enter Try.func15, Try.ntmps15
  go_wp2_with fail
  refine (there_any HP.out).mono ?_
  rintro e w1 ⟨rfl, hb1⟩
  have HP1 := Lib.hid (HP.out.below hb1)
  go_wp2_with fail
  refine (index_full HP1.out HF.out).mono ?_
  rintro e w2 ⟨rfl, hb2⟩
  go_wp2_with fail
  go_ret2
  exact ⟨rfl, HP1.out.below hb2, bt hb1 hb2⟩
theorem take_nil (v : Int) (w : World) : Calls Try.prog 15 #[.pointer none, .int .i64 v] w fun e w' => e = .returned (.tuple #[.int .i64 (-1), .int .i64 10]) ∧ Below w.heap.size w w' := by
  go_enter Try.func15, Try.ntmps15
  go_wp2_with fail
  refine (there_nil _).mono ?_
  rintro e w1 ⟨rfl, rfl⟩
  go_wp2_with fail
  refine (index_nil _).mono ?_
  rintro e w2 ⟨rfl, hb2⟩
  go_wp2_with fail
  go_ret2
  exact ⟨rfl, hb2⟩
set_option maxHeartbeats 2000000 in
theorem take_low (h : Pl w b n s t c) (v : Int) {k : Nat} (hk : Low n s k) (hc : c ≤ 1000000) : Calls Try.prog 15 #[.pointer (some ⟨b, 0, none⟩), .int .i64 v] w (TkPost b n s t c k v w) := by
  have HP := Lib.hid h
  have HK := Lib.hid hk
  have n64 := h.n64
  have k64 : k < 64 := by have := hk.1; omega
  have hk64 : (k : Int) < 64 := by omega
  have hk0 : (0 : Int) ≤ k := by omega
  clear h hk
  go_enter Try.func15, Try.ntmps15
  go_wp2_with fail
  refine (there_any HP.out).mono ?_
  rintro e w1 ⟨rfl, hb1⟩
  have HP1 := Lib.hid (HP.out.below hb1)
  go_wp2_with fail
  refine (index_low HP1.out HK.out).mono ?_
  rintro e w2 ⟨rfl, hb2⟩
  have HP2 := Lib.hid (HP1.out.below hb2)
  have HB2 := Lib.hid (bt hb1 hb2)
  obtain ⟨p1, p2⟩ := HP2.out.cells k64
  have fz := HP2.out.frozen
  clear hb1 hb2 HP1 p1 p2 fz
  go_upto_region 4 with fail
  go_region_held3 (fun _ => True) (trivial)
    (first
      | (go_at_call 31; (with_reducible refine (owned_any _ _).mono ?_); rintro e w10 ⟨rfl, hb10⟩; have HP3 := Lib.hid (HP2.out.drew.below hb10); obtain ⟨p1, p2⟩ := HP3.out.cells k64; have fz := HP3.out.frozen)
      | fail)
  have HP4 := Lib.hid (HP3.out.own_ k64 (some v))
  rw [B1_some, V1_some] at HP4
  have HO4 : Hid (Ob b w2 ((w10.setCell ⟨b, 1 + k * 2, none⟩ (.bool true)).setCell ⟨b, 1 + k * 2 + 1, none⟩ (.int .i64 v))) := (Ob.of ((Below.refl _ _).drew.trans hb10)).trans (Ob.own_ _ _ _ _ _)
  clear p1 p2 fz hb10 HP3
  generalize (w10.setCell ⟨b, 1 + k * 2, none⟩ (.bool true)).setCell ⟨b, 1 + k * 2 + 1, none⟩ (.int .i64 v) = V at *
  have q1 := HP4.out.turn k64
  have fz := HP4.out.frozen
  obtain ⟨q2, q3⟩ := HP4.out.tb k
  have HQ : Hid (Pl (V.setCell ⟨b, 129 + k, none⟩ (.int .i64 (t k + 1))).drew b n (upd s k (some v)) (upd t k (t k + 1)) (c + 1)) := (HP4.out.turn_ k64).drew
  generalize htk : t k = tk at *
  have HT := Lib.hid htk
  clear htk
  have hw : IntKind.i64.wrap (tk + 1) = tk + 1 := IntWalk.i64_in _ (by omega)
  go_wp2_with fail
  go_still_tail 10, (by kernel_rfl)
  go_wp2_with fail
  go_ret2
  refine ⟨rfl, ?_, ?_⟩
  · have := HQ.out
    rw [← HT.out]
    rw [← HT.out] at this
    exact this
  · exact (Ob.of HB2.out).trans ((HO4.out.set_ _ _).drew)
end Go.Proofs.Ytppmfmgmlicefaa.P9
