/- A register of three slots: its accesses, each by itself. -/
import Derived.Test.YtppmfmgmlicefabDoorVReg
import Derived.BigRegion
import Derived.RegionTactic
import Derived.Deep.RegionWith
import Derived.Deep.RegionHeld3
import Derived.Deep.DrawnRows
import Derived.StillTailTactics
namespace Go.Proofs.YtppmfmgmlicefabDoor.T3
open Go.RowKit Go.Proofs.YtppmfmgmlicefabDoor.G Go.Proofs.YtppmfmgmlicefabDoor.Cell
set_option maxRecDepth 100000
variable {w : World} {br bm gm W b f : Nat} {u1 u2 : Value} {m : List Int} {c : Int}

theorem get_any (hh : Blk w br 109 #[.int .i64 W, P bm, .int .i64 b, .int .i64 f, u1, u2]) (hm : MemAt w bm gm m c) (hl : m.length ≤ 4096) (c0 : 0 ≤ c) (c1 : c ≤ 1099511627776) {i : Int} (k : Nat) (hi : i = k) (hk : k < m.length) :
    Calls Tryd.prog 115 #[P br, .int .i64 i] w fun e w' => e = .returned (.int .i64 (nth m k)) ∧ MemAt w' bm gm m (c + 1) ∧ Keep bm gm w w' := by
  subst hi
  have k0 := hh.cell
  unfold P at k0 ⊢
  go_enter Tryd.func115, Tryd.ntmps115
  go_wp2_with (go_at_call 114; refine (read_ok hm hl c0 c1 k hk).mono ?_; rintro e w' ⟨rfl, hm', hk'⟩)
  go_ret
  exact ⟨rfl, hm', hk'⟩
theorem swap_any (hh : Blk w br 109 #[.int .i64 W, P bm, .int .i64 b, .int .i64 f, u1, u2]) (hm : MemAt w bm gm m c) (hl : m.length ≤ 4096) (h1 : 1 ≤ m.length) (c0 : 0 ≤ c) (c1 : c ≤ 1099511627776) (v : Int) (hv : okV v = true) {q : Nat} (hq : (nth m 0).tmod 4 = q) :
    Calls Tryd.prog 105 #[P br, .int .i64 v] w fun e w' => e = .returned (.int .i64 (q : Int)) ∧ MemAt w' bm gm (m.set 0 v) (c + 1) ∧ Keep bm gm w w' := by
  have k0 := hh.cell
  have HS := Lib.hid (swap_ok hm hl c0 c1 0 (by omega) v hv)
  clear hh hm hl h1 c0 c1 hv
  rw [show ((0 : Nat) : Int) = 0 from rfl] at HS
  unfold P at k0 ⊢
  go_enter Tryd.func105, Tryd.ntmps105
  go_wp2_with (go_at_call 113; refine HS.out.mono ?_; rintro e w' ⟨rfl, hm', hk'⟩)
  go_ret
  exact ⟨rfl, hm', hk'⟩
theorem word_any (hh : Blk w br 109 #[.int .i64 W, P bm, .int .i64 b, .int .i64 f, u1, u2]) (hW : W ≤ 6) {j i : Nat} (hj : j ≤ 2) (hi : i ≤ 6) :
    Calls Tryd.prog 106 #[P br, .int .i64 j, .int .i64 i] w fun e w' => e = .returned (.int .i64 ((pl W j + i : Nat) : Int)) ∧ w = w' := by
  have k0 := hh.cell
  clear hh
  unfold P at k0 ⊢
  have a1 : j = 0 ∨ j = 1 ∨ j = 2 := by omega
  rcases a1 with rfl | rfl | rfl
  all_goals
    go_enter Tryd.func106, Tryd.ntmps106
    go_wp2
    go_ret
    refine ⟨returned_int ?_, rfl⟩
    simp [pl] <;> omega
def O4 (a b c d : Nat) : Nat → Prop := fun k => k = a ∨ k = b ∨ k = c ∨ k = d
theorem keep4 {w w' : World} {o p : Nat} (h : Keep bm gm w w') : Only (O4 bm gm o p) w w' := .of_keep h (.inl rfl) (.inr (.inl rfl))
variable {u tg k : Nat} {t : List Int}
/-- The access that looks. -/
theorem look_any (hh : Blk w br 109 #[.int .i64 W, P bm, .int .i64 b, .int .i64 f, u1, u2]) (hm : MemAt w bm gm m c) (hr : Blk w u 114 #[.int .i64 (-2), .slice (some ⟨tg, 0, none⟩) W W]) (hl : m.length ≤ 4096) (h1 : 1 ≤ m.length) (c0 : 0 ≤ c) (c1 : c ≤ 1099511627776) :
    Calls Tryd.prog 107 #[P br, P u] w fun e w' => e = .returned (.tuple #[]) ∧ MemAt w' bm gm m (c + 1) ∧ Blk w' u 114 #[.int .i64 (if nth m 0 < 4 then 0 else -1), .slice (some ⟨tg, 0, none⟩) W W] ∧ Only (O3 bm gm u) w w' := by
  have k0 := hr.cell
  have HG := Lib.hid (get_any (i := 0) hh hm hl c0 c1 0 rfl (by omega))
  have HR := Lib.hid hr
  have HN : Hid (u ≠ bm) := hr.ne_ hm.head (by decide)
  have HN2 : Hid (u ≠ gm) := hr.ne_ hm.words (by decide)
  have fin : ∀ w1, MemAt w1 bm gm m (c + 1) → Keep bm gm w w1 → ∀ v1, MemAt (w1.setCell ⟨u, 0, none⟩ v1) bm gm m (c + 1) ∧ Blk (w1.setCell ⟨u, 0, none⟩ v1) u 114 #[v1, .slice (some ⟨tg, 0, none⟩) W W] ∧ Only (O3 bm gm u) w (w1.setCell ⟨u, 0, none⟩ v1) := fun w1 hm1 hk1 v1 =>
    ⟨⟨hm1.head.far (p := ⟨u, 0, none⟩) (Ne.symm HN.out) _, hm1.words.far (p := ⟨u, 0, none⟩) (Ne.symm HN2.out) _⟩, (Blk.keep HR.out hk1 HN.out HN2.out).set_ 0 v1, keep3s hk1 _ _⟩
  have FIN := Lib.hid fin
  clear hh hm hr fin
  unfold P at HG ⊢
  by_cases h4 : nth m 0 < 4
  · rw [if_pos h4]
    go_enter Tryd.func107, Tryd.ntmps107
    go_wp2_with (go_at_call 115; refine HG.out.mono ?_; rintro e w1 ⟨rfl, hm', hk'⟩; have R1 := Blk.keep HR.out hk' HN.out HN2.out; have k1 := R1.cell; have f1 := R1.frozen; have z1 := R1.lt)
    obtain ⟨a1, a2, a3⟩ := FIN.out _ hm' hk' (.int .i64 (-1))
    obtain ⟨b2⟩ : Nonempty (Blk _ u 114 #[.int .i64 0, .slice (some ⟨tg, 0, none⟩) W W]) := ⟨a2.set_ 0 (.int .i64 0)⟩
    exact bodyPost_end (v := .tuple #[]) (by simp [results, Tryd.results107, go_sem]) rfl ⟨rfl, ⟨a1.head.far (p := ⟨u, 0, none⟩) (Ne.symm HN.out) _, a1.words.far (p := ⟨u, 0, none⟩) (Ne.symm HN2.out) _⟩, b2, a3.set_ (.inr (.inr rfl)) 0 _⟩
  · rw [if_neg h4]
    go_enter Tryd.func107, Tryd.ntmps107
    go_wp2_with (go_at_call 115; refine HG.out.mono ?_; rintro e w1 ⟨rfl, hm', hk'⟩; have R1 := Blk.keep HR.out hk' HN.out HN2.out; have k1 := R1.cell; have f1 := R1.frozen; have z1 := R1.lt)
    exact bodyPost_end (v := .tuple #[]) (by simp [results, Tryd.results107, go_sem]) rfl ⟨rfl, FIN.out _ hm' hk' (.int .i64 (-1))⟩
/-- The access that swaps. -/
theorem take_any (hh : Blk w br 109 #[.int .i64 W, P bm, .int .i64 b, .int .i64 f, u1, u2]) (hm : MemAt w bm gm m c) (hr : Blk w u 114 #[.int .i64 (-1), .slice (some ⟨tg, 0, none⟩) W W]) (hl : m.length ≤ 4096) (h1 : 1 ≤ m.length) (c0 : 0 ≤ c) (c1 : c ≤ 1099511627776) (f2 : f ≤ 2) {q : Nat} (hq : (nth m 0).tmod 4 = q) :
    Calls Tryd.prog 107 #[P br, P u] w fun e w' => e = .returned (.tuple #[]) ∧ MemAt w' bm gm (m.set 0 f) (c + 1) ∧ Blk w' br 109 #[.int .i64 W, P bm, .int .i64 b, .int .i64 q, u1, u2] ∧ Blk w' u 114 #[.int .i64 0, .slice (some ⟨tg, 0, none⟩) W W] ∧ Only (O4 bm gm br u) w w' := by
  have k0 := hr.cell
  have j0 := hh.cell
  have HS := Lib.hid (swap_any hh hm hl h1 c0 c1 f (okV_mk (by omega) (by omega)) hq)
  have HR := Lib.hid hr
  have HH := Lib.hid hh
  have HN : Hid (u ≠ bm ∧ u ≠ gm ∧ br ≠ bm ∧ br ≠ gm ∧ u ≠ br) := ⟨hr.ne_ hm.head (by decide), hr.ne_ hm.words (by decide), hh.ne_ hm.head (by decide), hh.ne_ hm.words (by decide), hr.ne_ hh (by decide)⟩
  have hub : u ≠ br := HN.out.2.2.2.2
  clear hh hm hr hq
  unfold P at HS j0 ⊢
  go_enter Tryd.func107, Tryd.ntmps107
  go_wp2_with (go_at_call 105; refine HS.out.mono ?_; rintro e w1 ⟨rfl, hm', hk'⟩; have R1 := Blk.keep HR.out hk' HN.out.1 HN.out.2.1; have H1 := Blk.keep HH.out hk' HN.out.2.2.1 HN.out.2.2.2.1; have k1 := R1.cell; have f1 := R1.frozen; have z1 := R1.lt; have j1 := H1.cell; have jf1 := H1.frozen; have jz1 := H1.lt; unfold P at j1)
  obtain ⟨n1, n2, n3, n4, n5⟩ := HN.out
  refine bodyPost_end (v := .tuple #[]) (by simp [results, Tryd.results107, go_sem]) rfl ⟨rfl, ⟨(hm'.head.far (p := ⟨br, 3, none⟩) (Ne.symm n3) _).far (p := ⟨u, 0, none⟩) (Ne.symm n1) _, (hm'.words.far (p := ⟨br, 3, none⟩) (Ne.symm n4) _).far (p := ⟨u, 0, none⟩) (Ne.symm n2) _⟩, ?_, ?_, ((keep4 hk').set_ (.inr (.inr (.inl rfl))) 3 _).set_ (.inr (.inr (.inr rfl))) 0 _⟩
  · exact (H1.set_ 3 (.int .i64 q)).far (p := ⟨u, 0, none⟩) (Ne.symm n5) _
  · exact (R1.far (p := ⟨br, 3, none⟩) n5 _).set_ 0 _
end Go.Proofs.YtppmfmgmlicefabDoor.T3
