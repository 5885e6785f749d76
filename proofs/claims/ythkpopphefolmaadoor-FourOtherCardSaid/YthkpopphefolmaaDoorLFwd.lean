/- The walk of FourForward. -/
import Derived.Test.YthkpopphefolmaaDoorFInv
import Derived.Test.YthkpopphefolmaaDoorFLive
import Derived.Test.YthkpopphefolmaaDoorFArgs
namespace Go.Proofs.YthkpopphefolmaaDoor.fourForward
open Go.RowKit Go.Proofs.YthkpopphefolmaaDoor.G Go.Proofs.YthkpopphefolmaaDoor.Cell Go.Proofs.YthkpopphefolmaaDoor.F4
attribute [local go_sem ↓] Go.wp_at_zero Go.wp_at_succ
set_option maxRecDepth 100000

def InvFw (w : World) (gw br : Nat) (n : Nat) (i : Value) (V : World) : Prop := ∃ (k : Nat) (s : St) (b o lo L c : Int) (g : Nat → Int) (F : Nat → Prop), i = .int .i64 k ∧ k ≤ n ∧ k ≤ 400 ∧ TW V gw br s b o lo L c F ∧ Inv s b o lo L g ∧ 0 ≤ b ∧ b ≤ k ∧ c ≤ k ∧ Below w.heap.size w V ∧ (∀ q, F q → w.heap.size ≤ q)
theorem low_more {F F' : Nat → Prop} {n m : Nat} (h : ∀ q, F q → n ≤ q) (hm : More F F' m) (hn : n ≤ m) : ∀ q, F' q → n ≤ q := fun q hq => by
  rcases hm q hq with h1 | h1
  · exact h q h1
  · exact Nat.le_trans hn h1
theorem below_only {F : Nat → Prop} {w V V' : World} {gw : Nat} (h : Below w.heap.size w V) (hO : Only (FG F gw) V V') (hF : ∀ q, F q → w.heap.size ≤ q) (hg : w.heap.size ≤ gw) : Below w.heap.size w V' :=
  Only.to_below h hO (fun q hq => by
    rcases hq with h1 | h1
    · exact hF q h1
    · rw [h1]; exact hg) h.size
/-- The statements' struct, new. -/
theorem tw_new {w w1 : World} {br : Nat} {n : Int} (hp : 0 < w.heap.size) (hr : RegX w1 br (s0 (fW n)) 0 (fun b => w.heap.size ≤ b)) (hb : Below w.heap.size w w1) :
    ∃ F, TW (w1.alloc (.cells #[P br, .int .i64 0, .int .i64 0, .int .i64 0, .int .i64 0, .bool true] 102)) w1.heap.size br (s0 (fW n)) 0 0 0 0 0 F ∧ (∀ q, F q → w.heap.size ≤ q) ∧ Below w.heap.size w (w1.alloc (.cells #[P br, .int .i64 0, .int .i64 0, .int .i64 0, .int .i64 0, .bool true] 102)) := by
  have h1 := hr.tight
  have hsz := hb.size
  refine ⟨_, ⟨h1.below (b01 _ _), Blk.new _ _ _, fun h => absurd h.2 (Nat.lt_irrefl _), ⟨fun h => absurd h.1 (by show ¬ w.heap.size ≤ 0; omega), by omega⟩, fun q hq => by simpa using Nat.lt_succ_of_lt hq.2⟩, fun q hq => hq.1, ba1 hb _⟩
set_option maxHeartbeats 4000000 in
theorem walk {w : World} {n : Int} {A : Option Addr} {l : List Bool} {cp : Nat} (hg : Et w) (hn : n ≤ 9223372036854775807) (hr : Row w A (bvs l)) (hl : l.length ≤ cp) (hc : cp ≤ 9223372036854775807) :
    Calls Tryd.prog 13 #[.int .i64 n, .slice A l.length cp] w fun e w' => e = .returned (.bool true) ∧ Below w.heap.size w w' := by
  have HG := Lib.hid hg
  have HR := Lib.hid hr
  clear hg hr
  go_enter Tryd.func13, Tryd.ntmps13
  go_wp2_with fail
  refine (lives_any HG.out).mono ?_
  rintro e w1 ⟨rfl, hb1⟩
  go_wp2_with fail
  refine (rnew_any n hn).mono ?_
  rintro e w2 ⟨br, rfl, hr2, hb2⟩
  have hp := HG.out.pos
  obtain ⟨F, hT, hF, hB⟩ := tw_new (w := w1) (by have := hb1.size; omega) hr2 hb2
  have HT := Lib.hid hT
  have HF : Hid (∀ q, F q → w.heap.size ≤ q) := fun q hq => Nat.le_trans hb1.size (hF q hq)
  have HB : Hid (Below w.heap.size w (w2.alloc (.cells #[P br, .int .i64 0, .int .i64 0, .int .i64 0, .int .i64 0, .bool true] 102))) := bt hb1 hB
  have HGW : Hid (w.heap.size ≤ w2.heap.size) := Nat.le_trans hb1.size hb2.size
  unfold P at HT HB ⊢
  clear hT hF hB hr2 hb2 hb1
  obtain ⟨gw, hgw⟩ : ∃ g, w2.heap.size = g := ⟨_, rfl⟩
  rw [hgw] at HT HGW
  go_wp2_with fail
  generalize w2.alloc (.cells #[.pointer (some ⟨br, 0, none⟩), .int .i64 0, .int .i64 0, .int .i64 0, .int .i64 0, .bool true] 102) = V0 at *
  clear hgw
  go_loopw [6] (fun i V => InvFw w gw br l.length i V) (fun i _ => l.length - (intOf i).toNat)
  case atStart => exact ⟨0, _, 0, 0, 0, 0, 0, fun _ => 0, F, rfl, by omega, by omega, HT.out, inv_s0 (fW_bd n).1 (fW_bd n).2, by omega, by omega, by omega, HB.out, HF.out⟩
  case round =>
    clear HT HF HB
    obtain ⟨k, s, b, o, lo, L, c, g, F, rfl, hk, hk4, hT, hI, hb0, hbk, hck, hB, hF⟩ := hrel
    have HT := Lib.hid hT
    have HI := Lib.hid hI
    have HB := Lib.hid hB
    have HF := Lib.hid hF
    clear hT hI hB hF
    by_cases hlt : k < l.length ∧ k < 400
    · obtain ⟨hlt1, hlt4⟩ := hlt
      obtain ⟨u, hu⟩ : ∃ u, l[k]? = some u := ⟨_, List.getElem?_eq_getElem hlt1⟩
      obtain ⟨ab, ao, rfl, hab, hc0⟩ := bvs_at (HR.out.below HB.out) hu
      have hsz := HB.out.size
      have HOB : Hid (okV (b + 1) = true) := okV_mk (by omega) (by omega)
      have HE : Hid (Et wr) := Et.below HG.out HB.out hp
      clear hu
      cases u with
      | true =>
        obtain ⟨g', hI', hb1, hb2⟩ := inv_tw HI.out HOB.out
        have HI' := Lib.hid hI'
        clear hI'
        go_wp2_with fail
        refine (turn_w HT.out HE.out HOB.out hb0 (by omega)).mono ?_
        rintro e w5 ⟨rfl, F5, hT5, hM5, hO5⟩
        have HT5 := Lib.hid hT5
        have HF5 : Hid (∀ q, F5 q → w.heap.size ≤ q) := low_more HF.out hM5 hsz
        have HB5 := Lib.hid (below_only HB.out hO5 HF.out HGW.out)
        have k5 := hT5.box.cell
        unfold P at k5
        clear hT5 hM5 hO5
        go_wp2_with fail
        go_roundw
        case rel => exact ⟨k + 1, _, _, _, _, _, _, g', F5, by go_num, by omega, by omega, HT5.out, HI'.out, by omega, by omega, by omega, HB5.out, HF5.out⟩
        case measure => simp [intOf]; omega
      | false =>
        obtain ⟨v, hv1, hv2, hI'⟩ := inv_tr HI.out
        have HV2 := Lib.hid hv2
        have HI' := Lib.hid hI'
        have HV1 := Lib.hid hv1
        clear hI' hv1 hv2
        go_wp2_with fail
        refine (turn_r HT.out (by omega) v HV1.out).mono ?_
        rintro e w5 ⟨rfl, F5, hT5, hM5, hO5⟩
        have HT5 := Lib.hid hT5
        have HF5 : Hid (∀ q, F5 q → w.heap.size ≤ q) := low_more HF.out hM5 hsz
        have HB5 := Lib.hid (below_only HB.out hO5 HF.out HGW.out)
        have k5 := hT5.box.cell
        unfold P at k5
        have f5 := hT5.box.frozen
        clear hO5 hM5
        cases hd : rDone (rBegin s) with
        | false =>
          rw [hd] at HI'
          clear hT5 f5 hd
          go_wp2_with fail
          go_roundw
          case rel => exact ⟨k + 1, _, _, _, _, _, _, g, F5, by go_num, by omega, by omega, HT5.out, HI'.out, by omega, by omega, by omega, HB5.out, HF5.out⟩
          case measure => simp [intOf]; omega
        | true =>
          rw [hd] at HI'
          obtain ⟨v1, v2, v3⟩ := HV2.out hd
          obtain ⟨lo1, hlo1⟩ : ∃ x, l1 s o lo = x := ⟨_, rfl⟩
          rw [hlo1] at v1 k5 HI' HT5
          obtain ⟨t1, t2⟩ := HT5.out.set_ (L2 := v) 4 (.int .i64 v) rfl
          have HT6 := Lib.hid t1
          have HB6 := Lib.hid (below_only HB5.out t2 HF5.out HGW.out)
          clear hT5 hd t1 t2 hlo1
          go_wp2_with fail
          go_roundw
          case rel => exact ⟨k + 1, _, _, _, _, _, _, g, F5, by go_num, by omega, by omega, HT6.out, HI'.out, by omega, by omega, by omega, HB6.out, HF5.out⟩
          case measure => simp [intOf]; omega
    · have hx : l.length ≤ k ∨ (k < l.length ∧ 400 ≤ k) := by omega
      clear hlt
      rcases hx with hx | ⟨hx1, hx2⟩
      · go_wp2_with fail
        go_ret
        exact ⟨rfl, HB.out⟩
      · go_wp2_with fail
        go_ret
        exact ⟨rfl, HB.out⟩
end Go.Proofs.YthkpopphefolmaaDoor.fourForward
