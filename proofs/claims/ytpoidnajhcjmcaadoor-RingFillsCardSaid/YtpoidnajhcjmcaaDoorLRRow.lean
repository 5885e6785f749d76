/- The walk of RingRow. -/
import Derived.Test.YtpoidnajhcjmcaaDoorRPl2
import Derived.Test.YtpoidnajhcjmcaaDoorRTurn2
import Derived.Test.YtpoidnajhcjmcaaDoorRArgs
import Derived.Deep.DrawnRows
namespace Go.Proofs.YtpoidnajhcjmcaaDoor.ringRow
open Go.RowKit Go.Proofs.YtpoidnajhcjmcaaDoor.G Go.Proofs.YtpoidnajhcjmcaaDoor.Cell Go.Proofs.YtpoidnajhcjmcaaDoor.R8 Go.Proofs.YtpoidnajhcjmcaaDoor.Ob
attribute [local go_sem ↓] Go.wp_at_zero Go.wp_at_succ
set_option maxRecDepth 100000
theorem low_more {F F' : Nat → Prop} {n m : Nat} (h : ∀ q, F q → n ≤ q) (hm : More F F' m) (hn : n ≤ m) : ∀ q, F' q → n ≤ q := fun q hq => by
  rcases hm q hq with h1 | h1
  · exact h q h1
  · exact Nat.le_trans hn h1
theorem below_only {F : Nat → Prop} {w V V' : World} {gw : Nat} (h : Below w.heap.size w V) (hO : Only (FG F gw) V V') (hF : ∀ q, F q → w.heap.size ≤ q) (hg : w.heap.size ≤ gw) : Below w.heap.size w V' :=
  Only.to_below h hO (fun q hq => by
    rcases hq with h1 | h1
    · exact hF q h1
    · rw [h1]; exact hg) h.size
/-- The statements' struct, new. -/
theorem tw_new {w w1 : World} {br : Nat} {p n : Int} (hr : RegX w1 br (s0 (fD p) (fW n)) 0 (fun b => w.heap.size ≤ b)) (hb : Below w.heap.size w w1) :
    ∃ F, TW (w1.alloc (.cells #[P br, .int .i64 0, .int .i64 0, .bool false, .bool false, .bool true] 96)) w1.heap.size br (s0 (fD p) (fW n)) 0 0 false false 0 F ∧ (∀ q, F q → w.heap.size ≤ q) ∧ Below w.heap.size w (w1.alloc (.cells #[P br, .int .i64 0, .int .i64 0, .bool false, .bool false, .bool true] 96)) := by
  have h1 := hr.tight
  have hsz := hb.size
  refine ⟨_, ⟨h1.below (b01 _ _), Blk.new _ _ _, fun h => absurd h.2 (Nat.lt_irrefl _), fun q hq => by simpa using Nat.lt_succ_of_lt hq.2⟩, fun q hq => hq.1, ba1 hb _⟩
def InvL (w : World) (gw br k : Nat) (V : World) : Prop := ∃ (s : St) (i o : Nat) (fu lo : Bool) (c : Int) (F : Nat → Prop), TW V gw br s i o fu lo c F ∧ Inv s i o fu lo ∧ Kp s ∧ i ≤ k ∧ c ≤ k ∧ Below w.heap.size w V ∧ (∀ q, F q → w.heap.size ≤ q)
theorem InvL.below {w V V' : World} {gw br k : Nat} (h : InvL w gw br k V) (hb : Below V.heap.size V V') : InvL w gw br k V' := by
  obtain ⟨s, i, o, fu, lo, c, F, hT, hI, hK, hik, hck, hB, hF⟩ := h
  exact ⟨s, i, o, fu, lo, c, F, hT.below hb, hI, hK, hik, hck, bt hB hb, hF⟩
def InvW (w : World) (gw br n : Nat) (i : Value) (V : World) : Prop := ∃ k : Nat, i = .int .i64 k ∧ k ≤ n ∧ k ≤ 300 ∧ InvL w gw br k V
set_option maxHeartbeats 4000000 in
theorem walk {w : World} {p n : Int} {A : Option Addr} {l : List Tn} {cp : Nat} (hp : p ≤ 9223372036854775807) (hn : n ≤ 9223372036854775807) (hr : Row w A (tvs l)) (hl : l.length ≤ cp) (hc : cp ≤ 9223372036854775807) :
    Calls Tryd.prog 6 #[.int .i64 p, .int .i64 n, .slice A l.length cp] w fun e w' => e = .returned (.bool true) ∧ Below w.heap.size w w' := by
  have HR := Lib.hid hr
  clear hr
  go_enter Tryd.func6, Tryd.ntmps6
  go_wp2_with fail
  refine (lives_any _).mono ?_
  rintro e w1 ⟨rfl, hb1⟩
  go_wp2_with fail
  refine (rnew_any p n hp hn).mono ?_
  rintro e w2 ⟨br, rfl, hr2, hb2⟩
  obtain ⟨F, hT, hF, hB⟩ := tw_new (w := w1) hr2 hb2
  have HT := Lib.hid hT
  have HF : Hid (∀ q, F q → w.heap.size ≤ q) := fun q hq => Nat.le_trans hb1.size (hF q hq)
  have HB : Hid (Below w.heap.size w (w2.alloc (.cells #[P br, .int .i64 0, .int .i64 0, .bool false, .bool false, .bool true] 96))) := bt hb1 hB
  have HGW : Hid (w.heap.size ≤ w2.heap.size) := Nat.le_trans hb1.size hb2.size
  unfold P at HT HB ⊢
  clear hT hF hB hr2 hb2 hb1
  obtain ⟨gw, hgw⟩ : ∃ g, w2.heap.size = g := ⟨_, rfl⟩
  rw [hgw] at HT HGW
  go_wp2_with fail
  generalize w2.alloc (.cells #[.pointer (some ⟨br, 0, none⟩), .int .i64 0, .int .i64 0, .bool false, .bool false, .bool true] 96) = V0 at *
  clear hgw
  have HI0 : Hid (InvL w gw br 0 V0) := ⟨_, 0, 0, false, false, 0, F, HT.out, inv_s0 (fD_bd p).1 (fD_bd p).2 (fW_bd n).1 (fW_bd n).2 _ _, kp_s0 _ _, Nat.le_refl _, Int.le_refl _, HB.out, HF.out⟩
  go_loopw [8] (fun i V => InvW w gw br l.length i V) (fun i _ => l.length - (intOf i).toNat)
  case atStart => exact ⟨0, rfl, by omega, by omega, HI0.out⟩
  case round =>
    clear HT HF HB HI0
    obtain ⟨k, rfl, hk, hk4, s, i, o, fu, lo, c, F, hT, hI, hK, hik, hck, hB, hF⟩ := hrel
    have HT := Lib.hid hT
    have HI := Lib.hid hI
    have HK := Lib.hid hK
    have HB := Lib.hid hB
    have HF := Lib.hid hF
    have hoi := hI.le
    clear hT hI hK hB hF
    by_cases hlt : k < l.length ∧ k < 300
    · obtain ⟨hlt1, hlt4⟩ := hlt
      obtain ⟨u, hu⟩ : ∃ u, l[k]? = some u := ⟨_, List.getElem?_eq_getElem hlt1⟩
      obtain ⟨ab, ao, rfl, hab, hc0, hc1⟩ := tvs_at (HR.out.below HB.out) hu
      have hsz := HB.out.size
      have HOB : Hid (okV ((i : Int) + 1) = true) := okV_mk (by omega) (by omega)
      clear hu
      obtain ⟨uw, ud⟩ := u
      simp only at hc0 hc1
      have HOI := Lib.hid hoi
      clear hoi
      have t300 : decide ((k : Int) < 300) = true := decide_eq_true (by omega)
      go_upto_block 2 with fail
      clear t300
      go_cut [] (fun V => InvL w gw br (k + 1) V)
      case first =>
        cases ud with
        | true =>
          have S0 : Below wr.heap.size wr wr.drew := (Below.refl _ _).drew
          have kw := HT.out.box.cell
          have kz := HT.out.box.lt
          unfold P at kw
          have HTd := Lib.hid (HT.out.below S0)
          have HBd := Lib.hid (HB.out.drew)
          clear S0
          cases uw with
          | true =>
            go_upto_region 9 with fail
            go_still_tail 9, (by kernel_rfl)
            clear kw kz hc0 hc1
            go_wp2_with fail
            refine (udrop_any HTd.out.reg).mono ?_
            rintro e w5 ⟨rfl, hr5, hO5⟩
            obtain ⟨F5, hT5, hM5, hG5⟩ := HTd.out.call hr5 (More.refl _ _) hO5
            have HX : Hid (InvL w gw br (k + 1) w5) := ⟨_, _, _, _, _, _, F5, hT5, inv_udrop HI.out _, ⟨fun x e => (by cases e), HK.out.2⟩, by omega, by omega, below_only HBd.out hG5 HF.out HGW.out, low_more HF.out hM5 hsz⟩
            clear hr5 hO5 hT5 hM5 hG5
            go_wp2_with fail
            go_meet
            exact HX.out
          | false =>
            go_upto_region 9 with fail
            go_still_tail 9, (by kernel_rfl)
            clear kw kz hc0 hc1
            go_wp2_with fail
            refine (odrop_any HTd.out.reg).mono ?_
            rintro e w5 ⟨rfl, hr5, hO5⟩
            obtain ⟨F5, hT5, hM5, hG5⟩ := HTd.out.call hr5 (More.refl _ _) hO5
            have HX : Hid (InvL w gw br (k + 1) w5) := ⟨_, _, _, _, _, _, F5, hT5, inv_odrop HI.out _, ⟨HK.out.1, fun x e => (by cases e)⟩, by omega, by omega, below_only HBd.out hG5 HF.out HGW.out, low_more HF.out hM5 hsz⟩
            clear hr5 hO5 hT5 hM5 hG5
            go_wp2_with fail
            go_meet
            exact HX.out
        | false =>
          cases uw with
          | true =>
            obtain ⟨hI', hK', hf', hi1, hi2⟩ := inv_turn_u HI.out HK.out HOB.out
            have HI' := Lib.hid (And.intro hI' hK')
            clear hI' hK'
            go_wp2_with fail
            refine (turn_u HT.out (by omega) HOI.out (by omega) hf').mono ?_
            rintro e w5 ⟨rfl, F5, hT5, hM5, hO5⟩
            have HX : Hid (InvL w gw br (k + 1) w5) := ⟨_, _, _, _, _, _, F5, hT5, HI'.out.1, HI'.out.2, by omega, by omega, below_only HB.out hO5 HF.out HGW.out, low_more HF.out hM5 hsz⟩
            clear hT5 hM5 hO5
            go_wp2_with fail
            go_meet
            exact HX.out
          | false =>
            obtain ⟨hI', hK', hf'⟩ := inv_turn_o HI.out HK.out
            have HI' := Lib.hid (And.intro hI' hK')
            clear hI' hK'
            go_wp2_with fail
            refine (turn_o HT.out (by omega) (by have := HOI.out; omega) (by omega) hf').mono ?_
            rintro e w5 ⟨rfl, F5, hT5, hM5, hO5⟩
            have HX : Hid (InvL w gw br (k + 1) w5) := ⟨_, _, _, _, _, _, F5, hT5, HI'.out.1, HI'.out.2, by omega, by omega, below_only HB.out hO5 HF.out HGW.out, low_more HF.out hM5 hsz⟩
            clear hT5 hM5 hO5
            go_wp2_with fail
            go_meet
            exact HX.out
      case rest =>
        have HIL := Lib.hid hcut
        obtain ⟨s, i, o, fu, lo, c, F, hT, hI, hK, hik, hck, hB, hF⟩ := hcut
        obtain ⟨d, hd⟩ : ∃ d : Nat, i - o = d := ⟨_, rfl⟩
        have hle := hI.le
        have hbd := hI.bd
        have e1 : (i : Int) - (o : Int) = (d : Int) := by omega
        have e2 : IntKind.i64.wrap (d : Int) = (d : Int) := by rw [IntKind.wrap_i64]; omega
        have hdD : d ≤ s.D := by omega
        have HCn : Hid (∀ V, Below wc.heap.size wc V → Calls Tryd.prog 66 #[.pointer (some ⟨br, 0, none⟩)] V (CntPost d V)) := fun V hV => by
          have := rcount_any (hT.below hV).reg
          rwa [hI.cnt, e1] at this
        have HPl : Hid (∀ V, Below wc.heap.size wc V → Calls Tryd.prog 71 #[.pointer (some ⟨br, 0, none⟩)] V (IntPost s.D V)) := fun V hV => rplaces_any (hT.below hV).reg
        have HS : Hid (∀ V, Below wc.heap.size wc V → Below wc.heap.size wc V ∧ ∀ n, V.cell? ⟨gw, n, none⟩ = (#[.pointer (some ⟨br, 0, none⟩), .int .i64 i, .int .i64 o, .bool fu, .bool lo, .bool true] : Array Value)[n]?) := fun V hV => ⟨hV, (hT.below hV).box.cell⟩
        have S0 : Below wc.heap.size wc wc.drew := (Below.refl _ _).drew
        have HD8 : Hid (InvL w gw br (k + 1) wc) := HIL.out
        have HB' := Lib.hid hB
        clear hT hI hK hB hF HIL HT HI HK HB HF hd
        generalize s.D = D at *
        have t1 : decide (D < d) = false := decide_eq_false (by omega)
        have t2 : decide ((d : Int) < 0) = false := decide_eq_false (by omega)
        have t3 : decide ((D : Int) < (d : Int)) = false := decide_eq_false (by omega)
        clear hdD
        go_upto_region 12 with fail
        go_region_held3 (fun V => Below wc.heap.size wc V ∧ ∀ n, V.cell? ⟨gw, n, none⟩ = (#[.pointer (some ⟨br, 0, none⟩), .int .i64 i, .int .i64 o, .bool fu, .bool lo, .bool true] : Array Value)[n]?) (first | (with_reducible exact HS.out _ S0) | fail)
          (first
            | (go_at_call 66; (with_reducible refine (HCn.out _ S0).mono ?_); rintro e w10 ⟨rfl, hb10⟩; have S0 := bt S0 hb10)
            | (go_at_call 71; (with_reducible refine (HPl.out _ S0).mono ?_); rintro e w10 ⟨rfl, rfl⟩)
            | fail)
        all_goals
          have HX := Lib.hid (HD8.out.below S0)
          clear e1 e2
          go_wp2_with fail
          go_roundw
          case rel => exact ⟨k + 1, by go_num, by omega, by omega, HX.out⟩
          case measure => simp [intOf]; omega
    · have hx : l.length ≤ k ∨ (k < l.length ∧ 300 ≤ k) := by omega
      clear hlt
      rcases hx with hx | ⟨hx1, hx2⟩
      · go_wp2_with fail
        go_ret
        exact ⟨rfl, HB.out⟩
      · go_wp2_with fail
        go_ret
        exact ⟨rfl, HB.out⟩
end Go.Proofs.YtpoidnajhcjmcaaDoor.ringRow
