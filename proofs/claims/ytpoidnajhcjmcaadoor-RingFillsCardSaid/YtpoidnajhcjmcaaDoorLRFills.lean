/- The walk of RingFills. -/
import Derived.Test.YtpoidnajhcjmcaaDoorRFl
import Derived.Test.YtpoidnajhcjmcaaDoorLRRow
namespace Go.Proofs.YtpoidnajhcjmcaaDoor.ringFills
open Go.RowKit Go.Proofs.YtpoidnajhcjmcaaDoor.G Go.Proofs.YtpoidnajhcjmcaaDoor.Cell Go.Proofs.YtpoidnajhcjmcaaDoor.R8 Go.Proofs.YtpoidnajhcjmcaaDoor.Ob
attribute [local go_sem ↓] Go.wp_at_zero Go.wp_at_succ
set_option maxRecDepth 100000
variable {w V V' : World} {gw br D W i o t : Nat} {cb : Int}
def FlL (w : World) (gw br D W i o t : Nat) (cb : Int) (V : World) : Prop := ∃ (s : St) (fu lo : Bool) (c : Int) (F : Nat → Prop), TW V gw br s i o fu lo c F ∧ Fl s i o t fu lo ∧ s.D = D ∧ s.W = W ∧ c ≤ cb ∧ Below w.heap.size w V ∧ (∀ q, F q → w.heap.size ≤ q)
def DrL (w : World) (gw br D W i o t : Nat) (cb : Int) (V : World) : Prop := ∃ (s : St) (fu lo : Bool) (c : Int) (F : Nat → Prop), TW V gw br s i o fu lo c F ∧ Dr s i o t fu lo ∧ s.D = D ∧ s.W = W ∧ c ≤ cb ∧ Below w.heap.size w V ∧ (∀ q, F q → w.heap.size ≤ q)
theorem FlL.dr (h : FlL w gw br D W i o 0 cb V) : DrL w gw br D W i o 0 cb V := by
  obtain ⟨s, fu, lo, c, F, a, b, r⟩ := h
  exact ⟨s, fu, lo, c, F, a, b.dr, r⟩
theorem DrL.fl (h : DrL w gw br D W i o 0 cb V) : FlL w gw br D W i o 0 cb V := by
  obtain ⟨s, fu, lo, c, F, a, b, r⟩ := h
  exact ⟨s, fu, lo, c, F, a, b.fl, r⟩
theorem FlL.below (h : FlL w gw br D W i o t cb V) (hb : Below V.heap.size V V') : FlL w gw br D W i o t cb V' := by
  obtain ⟨s, fu, lo, c, F, a, b, e1, e2, e3, e4, e5⟩ := h
  exact ⟨s, fu, lo, c, F, a.below hb, b, e1, e2, e3, bt e4 hb, e5⟩
theorem DrL.below (h : DrL w gw br D W i o t cb V) (hb : Below V.heap.size V V') : DrL w gw br D W i o t cb V' := by
  obtain ⟨s, fu, lo, c, F, a, b, e1, e2, e3, e4, e5⟩ := h
  exact ⟨s, fu, lo, c, F, a.below hb, b, e1, e2, e3, bt e4 hb, e5⟩
theorem FlL.le {cb' : Int} (h : FlL w gw br D W i o t cb V) (hc : cb ≤ cb') : FlL w gw br D W i o t cb' V := by
  obtain ⟨s, fu, lo, c, F, a, b, e1, e2, e3, e4, e5⟩ := h
  exact ⟨s, fu, lo, c, F, a, b, e1, e2, by omega, e4, e5⟩
theorem FlL.bel (h : FlL w gw br D W i o t cb V) : Below w.heap.size w V := by
  obtain ⟨s, fu, lo, c, F, a, b, e1, e2, e3, e4, e5⟩ := h
  exact e4
def PuP (w : World) (gw br D W i o t : Nat) (cb : Int) (e : Ending) (V : World) : Prop := e = .returned (.tuple #[]) ∧ FlL w gw br D W (iU W i D o t) o (tU W i D o t) (cb + 1) V
theorem push_l (h : FlL w gw br D W i o t cb V) (hgw : w.heap.size ≤ gw) (hi : i ≤ 1000) (ht : o + D ≤ i → t ≤ 1) (hcb : cb ≤ 1000000) : Calls Tryd.prog 72 #[.pointer (some ⟨gw, 0, none⟩)] V (PuP w gw br D W i o t cb) := by
  obtain ⟨s, fu, lo, c, F, hT, hF, rfl, rfl, hc, hB, hl⟩ := h
  have hv : okV ((i : Int) + 1) = true := okV_mk (by omega) (by omega)
  obtain ⟨_, _, hf, _, _⟩ := inv_turn_u hF.inv hF.kp hv
  obtain ⟨h1, h2⟩ := fl_turn hF hv ht
  have hsz := hB.size
  refine (turn_u hT (by omega) hF.inv.le (by omega) hf).mono ?_
  rintro e V' ⟨he, F', hT', hM, hO⟩
  rw [h2] at hT'
  exact ⟨he, _, _, _, _, F', hT', h1, (uDW s i).1, (uDW s i).2, by omega, ringRow.below_only hB hO hl hgw, ringRow.low_more hl hM hsz⟩
def PoP (w : World) (gw br D W i o t : Nat) (cb : Int) (e : Ending) (V : World) : Prop := e = .returned (.tuple #[]) ∧ DrL w gw br D W i (oO W o t) (tO W t) (cb + 1) V
theorem pop_l (h : DrL w gw br D W i o t cb V) (hgw : w.heap.size ≤ gw) (hi : i ≤ 1000) (ho : o < i) (hcb : cb ≤ 1000000) : Calls Tryd.prog 73 #[.pointer (some ⟨gw, 0, none⟩)] V (PoP w gw br D W i o t cb) := by
  obtain ⟨s, fu, lo, c, F, hT, hF, rfl, rfl, hc, hB, hl⟩ := h
  obtain ⟨_, _, hf⟩ := inv_turn_o hF.inv hF.kp
  obtain ⟨h1, h2⟩ := dr_turn hF ho
  have hsz := hB.size
  refine (turn_o hT (by omega) (by omega) (by omega) hf).mono ?_
  rintro e V' ⟨he, F', hT', hM, hO⟩
  rw [h2] at hT'
  exact ⟨he, _, _, _, _, F', hT', h1, (oDW s).1, (oDW s).2, by omega, ringRow.below_only hB hO hl hgw, ringRow.low_more hl hM hsz⟩
/-- What is asked of a ring with nothing under way. -/
theorem asks (h : FlL w gw br D W i o 0 cb V) : Below w.heap.size w V ∧ gw < V.heap.size ∧ o ≤ i ∧ i ≤ o + D ∧ (∃ fu lo, ∀ U, Below V.heap.size V U → ∀ k, U.cell? ⟨gw, k, none⟩ = (#[.pointer (some ⟨br, 0, none⟩), .int .i64 i, .int .i64 o, .bool fu, .bool lo, .bool true] : Array Value)[k]?) ∧
    (∀ U, Below V.heap.size V U → Calls Tryd.prog 66 #[.pointer (some ⟨br, 0, none⟩)] U (CntPost ((i : Int) - o) U)) ∧ (∀ U, Below V.heap.size V U → Calls Tryd.prog 71 #[.pointer (some ⟨br, 0, none⟩)] U (IntPost D U)) ∧
    (∀ U, Below V.heap.size V U → Calls Tryd.prog 65 #[.pointer (some ⟨br, 0, none⟩), .bool true] U (BoolPost false U)) ∧ (∀ U, Below V.heap.size V U → Calls Tryd.prog 65 #[.pointer (some ⟨br, 0, none⟩), .bool false] U (BoolPost false U)) := by
  obtain ⟨s, fu, lo, c, F, hT, hF, rfl, rfl, hc, hB, hl⟩ := h
  refine ⟨hB, hT.box.lt, hF.inv.le, hF.inv.bd, ⟨fu, lo, fun U hU => (hT.below hU).box.cell⟩, fun U hU => ?_, fun U hU => rplaces_any (hT.below hU).reg, fun U hU => ?_, fun U hU => ?_⟩
  · have := rcount_any (hT.below hU).reg
    rwa [hF.inv.cnt] at this
  · have := ubusy_any (hT.below hU).reg
    rwa [hF.pu0 rfl] at this
  · have := obusy_any (hT.below hU).reg
    rwa [hF.po] at this
theorem places_l (h : FlL w gw br D W i o t cb V) : Calls Tryd.prog 71 #[.pointer (some ⟨br, 0, none⟩)] V (IntPost D V) ∧ ∃ fu lo : Bool, ∀ k, V.cell? ⟨gw, k, none⟩ = (#[.pointer (some ⟨br, 0, none⟩), .int .i64 i, .int .i64 o, .bool fu, .bool lo, .bool true] : Array Value)[k]? := by
  obtain ⟨s, fu, lo, c, F, hT, hF, rfl, rfl, hc, hB, hl⟩ := h
  exact ⟨rplaces_any hT.reg, fu, lo, hT.box.cell⟩
theorem places_d (h : DrL w gw br D W i o t cb V) : Calls Tryd.prog 71 #[.pointer (some ⟨br, 0, none⟩)] V (IntPost D V) ∧ ∃ fu lo : Bool, ∀ k, V.cell? ⟨gw, k, none⟩ = (#[.pointer (some ⟨br, 0, none⟩), .int .i64 i, .int .i64 o, .bool fu, .bool lo, .bool true] : Array Value)[k]? := by
  obtain ⟨s, fu, lo, c, F, hT, hF, rfl, rfl, hc, hB, hl⟩ := h
  exact ⟨rplaces_any hT.reg, fu, lo, hT.box.cell⟩
/-! ### Numbers -/
theorem div_u {q n D t : Nat} (h : q * n + t = D * n) (ht : t < n) : q = D ∧ t = 0 := by
  have hq : q = D := by
    rcases Nat.lt_trichotomy q D with h1 | h1 | h1
    · have := Nat.mul_le_mul_right n (show q + 1 ≤ D from h1)
      rw [Nat.succ_mul] at this; omega
    · exact h1
    · have := Nat.mul_le_mul_right n (show D + 1 ≤ q from h1)
      rw [Nat.succ_mul] at this; omega
  subst hq
  exact ⟨rfl, by omega⟩
theorem lt_u {q n D t : Nat} (h : q * n + t < D * n) : q < D := by
  rcases Nat.lt_or_ge q D with h1 | h1
  · exact h1
  · have := Nat.mul_le_mul_right n h1
    omega
def Inv1 (w : World) (gw br D W nn i0 N : Nat) (cb : Int) (k : Value) (V : World) : Prop := ∃ kk q t : Nat, k = .int .i64 kk ∧ kk ≤ N ∧ kk = q * nn + t ∧ t < nn ∧ FlL w gw br D W (i0 + q) i0 t (cb + kk) V
def Inv2 (w : World) (gw br D W nn i o0 N : Nat) (cb : Int) (k : Value) (V : World) : Prop := ∃ kk q t : Nat, k = .int .i64 kk ∧ kk ≤ N ∧ kk = q * nn + t ∧ t < nn ∧ DrL w gw br D W i (o0 + q) t (cb + kk) V
def Inv3 (w : World) (gw br D W nn i : Nat) (cb : Int) (k : Value) (V : World) : Prop := ∃ kk : Nat, k = .int .i64 kk ∧ kk ≤ nn ∧ ((DrL w gw br D W i i 0 (cb + kk) V) ∨ (∃ o : Nat, kk < nn ∧ i = o + 1 ∧ DrL w gw br D W i o kk (cb + kk) V))
def InvX (w : World) (gw br D W : Nat) (r : Value) (V : World) : Prop := ∃ (rd : Int) (i : Nat), r = .int .i64 rd ∧ -1 ≤ rd ∧ rd ≤ 7 ∧ (i : Int) ≤ 8 * (7 - rd) ∧ FlL w gw br D W i i 0 (400 * (7 - rd)) V
set_option maxHeartbeats 8000000 in
theorem walk {w : World} {p n r : Int} (hp : p ≤ 9223372036854775807) (hn : n ≤ 9223372036854775807) :
    Calls Tryd.prog 7 #[.int .i64 p, .int .i64 n, .int .i64 r] w fun e w' => e = .returned (.bool true) ∧ Below w.heap.size w w' := by
  obtain ⟨D, hD⟩ : ∃ D, fD p = D := ⟨_, rfl⟩
  obtain ⟨W, hW⟩ : ∃ W, fW n = W := ⟨_, rfl⟩
  have hD8 : 1 ≤ D ∧ D ≤ 8 := by rw [← hD]; exact fD_bd p
  have hW6 : 1 ≤ W ∧ W ≤ 6 := by rw [← hW]; exact fW_bd n
  have HDW := Lib.hid (And.intro hD hW)
  obtain ⟨nn, hnn⟩ : ∃ nn, W + 3 = nn := ⟨_, rfl⟩
  have HNN := Lib.hid hnn
  have e0 : (W : Int) + 3 = (nn : Int) := by omega
  obtain ⟨N, hN⟩ : ∃ N, D * nn = N := ⟨_, rfl⟩
  have hN72 : N ≤ 8 * 9 := by rw [← hN]; exact Nat.mul_le_mul hD8.2 (by omega)
  have tN : (D : Int) * (nn : Int) = (N : Int) := by rw [← hN]; push_cast; rfl
  have HN := Lib.hid hN
  obtain ⟨rd0, hrd, hrdb⟩ : ∃ q : Nat, (IntKind.u64.wrap r).tmod 8 = q ∧ q < 8 := by
    have h0 : 0 ≤ (IntKind.u64.wrap r).tmod 8 := Int.tmod_nonneg _ (by rw [IntKind.wrap_u64]; omega)
    have h1 : (IntKind.u64.wrap r).tmod 8 < 8 := Int.tmod_lt_of_pos _ (by omega)
    exact ⟨_, (Int.toNat_of_nonneg h0).symm, by omega⟩
  obtain ⟨d1, d8⟩ := hD8
  obtain ⟨w1, w6⟩ := hW6
  clear hD hW hN hnn
  go_enter Tryd.func7, Tryd.ntmps7
  go_wp2_with fail
  refine (lives_any _).mono ?_
  rintro e w1' ⟨rfl, hb1⟩
  go_wp2_with fail
  refine (rnew_any p n hp hn).mono ?_
  rintro e w2 ⟨br, rfl, hr2, hb2⟩
  obtain ⟨F, hT, hF, hB⟩ := ringRow.tw_new (w := w1') hr2 hb2
  rw [HDW.out.1, HDW.out.2] at hT
  have HF0 : Hid (FlL w w2.heap.size br D W 0 0 0 0 (w2.alloc (.cells #[P br, .int .i64 0, .int .i64 0, .bool false, .bool false, .bool true] 96))) := ⟨_, _, _, _, F, hT, fl_s0 d1 d8 w1 w6 _ _, rfl, rfl, Int.le_refl _, bt hb1 hB, fun q hq => Nat.le_trans hb1.size (hF q hq)⟩
  have HGW : Hid (w.heap.size ≤ w2.heap.size) := Nat.le_trans hb1.size hb2.size
  have HWo := Lib.hid (rwords_any hT.reg)
  rw [show (s0 D W).W = W from rfl] at HWo
  have k0 := hT.box.cell
  unfold P at HF0 HWo k0 ⊢
  clear hT hF hB hr2 hb2 hb1
  obtain ⟨gw, hgw⟩ : ∃ g, w2.heap.size = g := ⟨_, rfl⟩
  rw [hgw] at HF0 HGW k0
  go_wp2_with fail
  generalize w2.alloc (.cells #[.pointer (some ⟨br, 0, none⟩), .int .i64 0, .int .i64 0, .bool false, .bool false, .bool true] 96) = V0 at *
  clear hgw
  refine HWo.out.mono ?_
  rintro e w3 ⟨rfl, rfl⟩
  go_wp2_with fail
  clear hrd k0
  go_loopw [9] (fun r V => InvX w gw br D W r V) (fun r _ => (intOf r + 1).toNat)
  case atStart => exact ⟨(rd0 : Int), 0, rfl, by omega, by omega, by omega, HF0.out.le (by omega)⟩
  case round =>
    clear HF0
    obtain ⟨rd, i0, rfl, hr1, hr7, hi0, hF⟩ := hrel
    have HF := Lib.hid hF
    clear hF
    by_cases hrd : 0 ≤ rd
    · obtain ⟨rn, rfl⟩ := Int.eq_ofNat_of_zero_le hrd
      have t0 : decide ((0 : Int) ≤ (rn : Int)) = true := decide_eq_true hrd
      go_wp2_with fail
      go_loopw [10] (fun k V => Inv1 w gw br D W nn i0 N (400 * (7 - rn)) k V) (fun k _ => N - (intOf k).toNat)
      case atStart => exact ⟨0, 0, 0, rfl, by omega, by simp, by omega, by have := HF.out; rwa [show (400 : Int) * (7 - rn) + ((0 : Nat) : Int) = 400 * (7 - rn) by omega]⟩
      case round =>
        clear HF
        obtain ⟨k, q, t, rfl, hk, hkq, htn, hF⟩ := hrel
        have HF := Lib.hid hF
        have HKQ := Lib.hid hkq
        obtain ⟨hPl, fu, lo, kc⟩ := places_l hF
        have HPl := Lib.hid hPl
        clear hF hPl hkq
        by_cases hlt : k < N
        · have hqD : q < D := lt_u (n := nn) (t := t) (by rw [HN.out, ← HKQ.out]; exact hlt)
          have HPu := Lib.hid (push_l HF.out HGW.out (by omega) (by omega) (by omega))
          obtain ⟨a1, a2⟩ : iU W (i0 + q) D i0 t = (if t + 1 < nn then i0 + q else i0 + q + 1) ∧ tU W (i0 + q) D i0 t = (if t + 1 < nn then t + 1 else 0) := by
            have h9 := HNN.out
            have h8 : i0 + q < i0 + D := by omega
            exact ⟨by unfold iU; rw [if_pos h8, h9], by unfold tU; rw [if_pos h8, h9]⟩
          have HA := Lib.hid (And.intro a1 a2)
          clear a1 a2
          go_wp2_with fail
          refine HPl.out.mono ?_
          rintro e w5 ⟨rfl, rfl⟩
          go_wp2_with fail
          refine HPu.out.mono ?_
          rintro e w6 ⟨rfl, hF6⟩
          rw [HA.out.1, HA.out.2] at hF6
          have HF6 := Lib.hid hF6
          clear hF6 HPu HPl kc
          go_wp2_with fail
          go_roundw
          case rel =>
            have h6 := HF6.out
            rw [show (400 : Int) * (7 - rn) + k + 1 = 400 * (7 - rn) + ((k + 1 : Nat) : Int) by omega] at h6
            by_cases h : t + 1 < nn
            · rw [if_pos h, if_pos h] at h6
              exact ⟨k + 1, q, t + 1, by go_num, by omega, by have := HKQ.out; omega, h, h6⟩
            · rw [if_neg h, if_neg h] at h6
              exact ⟨k + 1, q + 1, 0, by go_num, by omega, by have := HKQ.out; rw [Nat.succ_mul]; omega, by omega, h6⟩
          case measure => simp [intOf]; omega
        · obtain ⟨hq, ht⟩ := div_u (q := q) (n := nn) (D := D) (t := t) (by have := HKQ.out; have := HN.out; omega) htn
          have hkN : k = N := by omega
          obtain ⟨i1, hi1⟩ : ∃ i1, i0 + D = i1 := ⟨_, rfl⟩
          have HF1 : Hid (FlL w gw br D W i1 i0 0 (400 * (7 - rn) + N) wr) := by have h := HF.out; rw [hq, ht, hkN, hi1] at h; exact h
          have HK := Lib.hid hkN
          clear HF HKQ hq ht hkN htn
          go_wp2_with fail
          refine HPl.out.mono ?_
          rintro e w5 ⟨rfl, rfl⟩
          clear kc HPl
          go_upto_region 12 with fail
          obtain ⟨hB0, hgl, -, -, ⟨fu, lo, hS⟩, hC, hP, hBu, hBo⟩ := asks HF1.out
          have HS := Lib.hid hS
          have HPl := Lib.hid hP
          have HBu := Lib.hid hBu
          have HCn : Hid (∀ U, Below wr.heap.size wr U → Calls Tryd.prog 66 #[.pointer (some ⟨br, 0, none⟩)] U (CntPost D U)) := fun U hU => by
            have := hC U hU
            rwa [show ((i1 : Nat) : Int) - ((i0 : Nat) : Int) = D by omega] at this
          clear hS hC hP hBu hBo hB0 hgl
          have S0 : Below wr.heap.size wr wr.drew := (Below.refl _ _).drew
          have e1 : (i1 : Int) - (i0 : Int) = (D : Int) := by omega
          have e2 : IntKind.i64.wrap (D : Int) = (D : Int) := by rw [IntKind.wrap_i64]; omega
          go_cut [81] (fun v V => v = .bool false ∧ FlL w gw br D W i1 i0 0 (400 * (7 - rn) + N) V)
          case first =>
            go_region_held3 (fun U => ∀ n, U.cell? ⟨gw, n, none⟩ = (#[.pointer (some ⟨br, 0, none⟩), .int .i64 i1, .int .i64 i0, .bool fu, .bool lo, .bool true] : Array Value)[n]?) (first | (with_reducible exact HS.out _ S0) | fail)
              (first
                | (go_at_call 66; (with_reducible refine (HCn.out _ S0).mono ?_); rintro e w10 ⟨rfl, hb10⟩; have S0 := bt S0 hb10)
                | (go_at_call 71; (with_reducible refine (HPl.out _ S0).mono ?_); rintro e w10 ⟨rfl, rfl⟩)
                | (go_at_call 65; (with_reducible refine (HBu.out _ S0).mono ?_); rintro e w10 ⟨rfl, rfl⟩)
                | fail)
            all_goals
              have HX := Lib.hid (HF1.out.below S0)
              clear e1 e2
              go_wp2_with fail
              go_meet
              exact ⟨rfl, HX.out⟩
          case rest =>
            obtain ⟨rfl, hF2⟩ := hcut
            have HF2 := Lib.hid hF2
            clear hF2 HF1 HS HPl HBu HCn S0 e1 e2
            have HPu := Lib.hid (push_l HF2.out HGW.out (by omega) (by omega) (by omega))
            unfold PuP at HPu
            rw [show iU W i1 D i0 0 = i1 by unfold iU; rw [if_neg (by omega)], show tU W i1 D i0 0 = 1 by unfold tU; rw [if_neg (by omega), if_pos rfl]] at HPu
            go_wp2_with fail
            refine HPu.out.mono ?_
            rintro e w6 ⟨rfl, hF6⟩
            have HPv := Lib.hid (push_l hF6 HGW.out (by omega) (by omega) (by omega))
            unfold PuP at HPv
            rw [show iU W i1 D i0 1 = i1 by unfold iU; rw [if_neg (by omega)], show tU W i1 D i0 1 = 0 by unfold tU; rw [if_neg (by omega), if_neg (by omega)]] at HPv
            clear hF6 HPu HF2
            go_wp2_with fail
            refine HPv.out.mono ?_
            rintro e wr ⟨rfl, hF7⟩
            have HF7 := Lib.hid hF7
            clear hF7 HPv
            obtain ⟨hB0, hgl, -, -, ⟨fu, lo, hS⟩, hC, hP, hBu, hBo⟩ := asks HF7.out
            have HS := Lib.hid hS
            have HPl := Lib.hid hP
            have HBu := Lib.hid hBu
            have HCn : Hid (∀ U, Below wr.heap.size wr U → Calls Tryd.prog 66 #[.pointer (some ⟨br, 0, none⟩)] U (CntPost D U)) := fun U hU => by
              have := hC U hU
              rwa [show ((i1 : Nat) : Int) - ((i0 : Nat) : Int) = D by omega] at this
            clear hS hC hP hBu hBo hB0 hgl
            have S0 : Below wr.heap.size wr wr.drew := (Below.refl _ _).drew
            have e1 : (i1 : Int) - (i0 : Int) = (D : Int) := by omega
            have e2 : IntKind.i64.wrap (D : Int) = (D : Int) := by rw [IntKind.wrap_i64]; omega
            go_upto_region 16 with fail
            go_cut [107] (fun v V => v = .bool false ∧ FlL w gw br D W i1 i0 0 (400 * (7 - rn) + N + 2) V)
            case first =>
              go_region_held3 (fun U => ∀ n, U.cell? ⟨gw, n, none⟩ = (#[.pointer (some ⟨br, 0, none⟩), .int .i64 i1, .int .i64 i0, .bool fu, .bool lo, .bool true] : Array Value)[n]?) (first | (with_reducible exact HS.out _ S0) | fail)
                (first
                  | (go_at_call 66; (with_reducible refine (HCn.out _ S0).mono ?_); rintro e w10 ⟨rfl, hb10⟩; have S0 := bt S0 hb10)
                  | (go_at_call 71; (with_reducible refine (HPl.out _ S0).mono ?_); rintro e w10 ⟨rfl, rfl⟩)
                  | (go_at_call 65; (with_reducible refine (HBu.out _ S0).mono ?_); rintro e w10 ⟨rfl, rfl⟩)
                  | fail)
              all_goals
                have HX := Lib.hid (HF7.out.below S0)
                clear e1 e2
                go_wp2_with fail
                go_meet
                exact ⟨rfl, HX.out.le (by omega)⟩
            case rest =>
              obtain ⟨rfl, hF8⟩ := hcut
              have HF8 := Lib.hid hF8.dr
              clear hF8 HF7 HS HPl HBu HCn S0 e1 e2
              obtain ⟨par, hpar⟩ : ∃ par, rn % 2 = par := ⟨_, rfl⟩
              have hp1 : par ≤ 1 := by omega
              have tp : (rn : Int).tmod 2 = (par : Int) := by rw [Int.tmod_eq_emod_of_nonneg (by omega)]; omega
              have tp2 : (rn : Int) % 2 = (par : Int) := by omega
              obtain ⟨D2, hD2⟩ : ∃ D2, D - par = D2 := ⟨_, rfl⟩
              have tD : (D : Int) - (par : Int) = (D2 : Int) := by omega
              obtain ⟨N2, hN2⟩ : ∃ N2, D2 * nn = N2 := ⟨_, rfl⟩
              have hN72' : N2 ≤ 8 * 9 := by rw [← hN2]; exact Nat.mul_le_mul (by omega) (by omega)
              have tN2 : (D2 : Int) * (nn : Int) = (N2 : Int) := by rw [← hN2]; push_cast; rfl
              have HN2 := Lib.hid hN2
              have hDp : D2 + par = D := by omega
              clear hpar hN2 hD2
              go_wp2_with fail
              go_loopw [11] (fun k V => Inv2 w gw br D W nn i1 i0 N2 (400 * (7 - rn) + N + 2) k V) (fun k _ => N2 - (intOf k).toNat)
              case atStart => exact ⟨0, 0, 0, rfl, by omega, by simp, by omega, by have := HF8.out; rwa [show (400 : Int) * (7 - rn) + N + 2 + ((0 : Nat) : Int) = 400 * (7 - rn) + N + 2 by omega]⟩
              case round =>
                clear HF8
                obtain ⟨k2, q, t, rfl, hk, hkq, htn, hF⟩ := hrel
                have HF := Lib.hid hF
                have HKQ := Lib.hid hkq
                obtain ⟨hPl, fu, lo, kc⟩ := places_d hF
                have HPl := Lib.hid hPl
                clear hF hPl hkq
                by_cases hlt2 : k2 < N2
                · have hqD : q < D2 := lt_u (n := nn) (t := t) (by rw [HN2.out, ← HKQ.out]; exact hlt2)
                  have HPo := Lib.hid (pop_l HF.out HGW.out (by omega) (by omega) (by omega))
                  obtain ⟨a1, a2⟩ : oO W (i0 + q) t = (if t + 1 < nn then i0 + q else i0 + q + 1) ∧ tO W t = (if t + 1 < nn then t + 1 else 0) := by
                    have h9 := HNN.out
                    exact ⟨by unfold oO; rw [h9], by unfold tO; rw [h9]⟩
                  have HA := Lib.hid (And.intro a1 a2)
                  clear a1 a2
                  go_wp2_with fail
                  refine HPl.out.mono ?_
                  rintro e w5 ⟨rfl, rfl⟩
                  go_wp2_with fail
                  refine HPo.out.mono ?_
                  rintro e w6 ⟨rfl, hF6⟩
                  rw [HA.out.1, HA.out.2] at hF6
                  have HF6 := Lib.hid hF6
                  clear hF6 HPo HPl kc
                  go_wp2_with fail
                  go_roundw
                  case rel =>
                    have h6 := HF6.out
                    rw [show (400 : Int) * (7 - rn) + N + 2 + k2 + 1 = 400 * (7 - rn) + N + 2 + ((k2 + 1 : Nat) : Int) by omega] at h6
                    by_cases h : t + 1 < nn
                    · rw [if_pos h, if_pos h] at h6
                      exact ⟨k2 + 1, q, t + 1, by go_num, by omega, by have := HKQ.out; omega, h, h6⟩
                    · rw [if_neg h, if_neg h] at h6
                      exact ⟨k2 + 1, q + 1, 0, by go_num, by omega, by have := HKQ.out; rw [Nat.succ_mul]; omega, by omega, h6⟩
                  case measure => simp [intOf]; omega
                · obtain ⟨hq, ht⟩ := div_u (q := q) (n := nn) (D := D2) (t := t) (by have := HKQ.out; have := HN2.out; omega) htn
                  have hkN : k2 = N2 := by omega
                  obtain ⟨o1, ho1⟩ : ∃ o1, i0 + D2 = o1 := ⟨_, rfl⟩
                  have HF1 : Hid (DrL w gw br D W i1 o1 0 (400 * (7 - rn) + N + 2 + N2) wr) := by have h := HF.out; rw [hq, ht, hkN, ho1] at h; exact h
                  have hoi : i1 = o1 + par := by omega
                  clear HF HKQ hq ht hkN htn
                  have HI3 : Hid (Inv3 w gw br D W nn i1 (400 * (7 - rn) + N + 2 + N2) (.int .i64 0) wr) := by
                    have h := HF1.out
                    refine ⟨0, rfl, by omega, ?_⟩
                    rw [show (400 : Int) * (7 - rn) + N + 2 + N2 + ((0 : Nat) : Int) = 400 * (7 - rn) + N + 2 + N2 by omega]
                    by_cases hpp : par = 0
                    · left
                      rwa [show o1 = i1 by omega] at h
                    · right
                      exact ⟨o1, by omega, by omega, h⟩
                  clear hoi ho1
                  go_wp2_with fail
                  refine HPl.out.mono ?_
                  rintro e w5 ⟨rfl, rfl⟩
                  clear kc HPl HF1
                  go_wp2_with fail
                  clear tN2 tD tp tp2
                  go_loopw [12] (fun k V => Inv3 w gw br D W nn i1 (400 * (7 - rn) + N + 2 + N2) k V) (fun k _ => nn - (intOf k).toNat)
                  case atStart => exact HI3.out
                  case round =>
                    clear HI3
                    obtain ⟨k3, rfl, hk3, hF⟩ := hrel
                    have t100 : decide ((k3 : Int) < 100) = true := decide_eq_true (by omega)
                    rcases hF with hF | ⟨o, hko, hio, hF⟩
                    · have HF := Lib.hid hF.fl
                      obtain ⟨-, fu, lo, kc⟩ := places_d hF
                      have tne : ((i1 : Int) != (i1 : Int)) = false := by simp
                      have HK3 := Lib.hid hk3
                      clear hF hk3
                      go_upto_region 23 with fail
                      go_quiet (fail)
                      have HF' := Lib.hid (HF.out.below (bn (Below.refl _ _) nq))
                      go_wp2_with fail
                      clear kc t100 tne
                      obtain ⟨hB0, hgl, -, -, ⟨fu, lo, hS⟩, hC, -, -, hBo⟩ := asks HF'.out
                      have kc := hS _ (Below.refl _ _)
                      have HCn : Hid (∀ U, Below (wr.drewN nq).heap.size (wr.drewN nq) U → Calls Tryd.prog 66 #[.pointer (some ⟨br, 0, none⟩)] U (CntPost 0 U)) := fun U hU => by
                        have := hC U hU
                        rwa [Int.sub_self] at this
                      have HBo := Lib.hid hBo
                      have HS := Lib.hid hS
                      have HBx := Lib.hid hB0
                      clear hB0 hgl hS hC hBo
                      go_wp2_with fail
                      refine (HCn.out _ (Below.refl _ _)).mono ?_
                      rintro e w7 ⟨rfl, hb7⟩
                      have kd := HS.out _ hb7
                      have HB7 := Lib.hid hb7
                      clear hb7 kc
                      go_wp2_with fail
                      refine (HBo.out _ HB7.out).mono ?_
                      rintro e w8 ⟨rfl, rfl⟩
                      go_wp2_with fail
                      go_roundw
                      case rel => exact ⟨(rn : Int) - 1, i1, by go_num, by omega, by omega, by omega, (HF'.out.below HB7.out).le (by have := HK3.out; omega)⟩
                      case measure => simp [intOf] <;> omega
                    · have HF := Lib.hid hF
                      obtain ⟨-, fu, lo, kc⟩ := places_d hF
                      have tne : ((i1 : Int) != (o : Int)) = true := by rw [bne_iff_ne]; omega
                      have HIO := Lib.hid hio
                      have hio2 : o < i1 := by omega
                      clear hF hio
                      go_upto_region 23 with fail
                      go_quiet (fail)
                      have HF' := Lib.hid (HF.out.below (bn (Below.refl _ _) nq))
                      have HPo := Lib.hid (pop_l HF'.out HGW.out (by omega) (by omega) (by omega))
                      have HA : Hid (oO W o k3 = (if k3 + 1 < nn then o else o + 1) ∧ tO W k3 = (if k3 + 1 < nn then k3 + 1 else 0)) := by
                        have h9 := HNN.out
                        exact ⟨by unfold oO; rw [h9], by unfold tO; rw [h9]⟩
                      clear kc tne
                      go_wp2_with fail
                      clear t100
                      refine HPo.out.mono ?_
                      rintro e w7 ⟨rfl, hF7⟩
                      rw [HA.out.1, HA.out.2] at hF7
                      have HF7 := Lib.hid hF7
                      clear hF7 HPo
                      go_wp2_with fail
                      go_roundw
                      case rel =>
                        have h7 := HF7.out
                        rw [show (400 : Int) * (7 - rn) + N + 2 + N2 + k3 + 1 = 400 * (7 - rn) + N + 2 + N2 + ((k3 + 1 : Nat) : Int) by omega] at h7
                        refine ⟨k3 + 1, by go_num, by omega, ?_⟩
                        by_cases h : k3 + 1 < nn
                        · rw [if_pos h, if_pos h] at h7
                          exact .inr ⟨o, h, HIO.out, h7⟩
                        · rw [if_neg h, if_neg h, ← HIO.out] at h7
                          exact .inl h7
                      case measure => simp [intOf]; omega
    · have t0 : decide ((0 : Int) ≤ rd) = false := decide_eq_false hrd
      obtain ⟨hB0, hgl, -, -, ⟨fu, lo, hS⟩, -, hP, -, -⟩ := asks HF.out
      have kc := hS _ (Below.refl _ _)
      have HPl := Lib.hid hP
      have HBx := Lib.hid hB0
      have t1 : decide ((1 : Int) ≤ (D : Int)) = true := decide_eq_true (by omega)
      clear hS hP hB0 hgl
      go_wp2_with fail
      refine (HPl.out _ (Below.refl _ _)).mono ?_
      rintro e w7 ⟨rfl, rfl⟩
      go_wp2_with fail
      go_ret
      exact ⟨by simp [t1], HBx.out⟩
end Go.Proofs.YtpoidnajhcjmcaaDoor.ringFills
