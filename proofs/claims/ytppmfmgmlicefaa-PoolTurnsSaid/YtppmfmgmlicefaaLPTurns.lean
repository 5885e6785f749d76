/- The walk of PoolTurns. -/
import Derived.Test.YtppmfmgmlicefaaPTake
import Derived.Deep.DeepCutAuto
import Derived.Deep.CutRange
import Derived.Deep.DrawnRows
namespace Go.Proofs.Ytppmfmgmlicefaa.poolTurns
open Go.RowKit Go.Proofs.Ytppmfmgmlicefaa.G Go.Proofs.Ytppmfmgmlicefaa.P9
attribute [local go_sem ↓] Go.wp_at_zero Go.wp_at_succ
set_option maxRecDepth 100000
variable {w w' : World} {b n : Nat} {s : SS} {t : Nat → Int} {c : Int} {A : Option Addr} {l : List Sp}
/-- A pool whose slots were taken N times, all together. -/
def PS (w : World) (b n : Nat) (N c : Int) : Prop := ∃ s t, Pl w b n s t c ∧ sum t n = N
def Tk (r1 r2 N : Int) (w : World) (b n : Nat) (c : Int) : Prop :=
  (r2 = 10 ∧ PS w b n N c) ∨ (r2 = 0 ∧ ∃ (s : SS) (t : Nat → Int) (j : Nat), Pl w b n s t c ∧ sum t n = N + 1 ∧ r1 = j ∧ j < n ∧ 1 ≤ t j)
def TkP (b n : Nat) (N c : Int) (w : World) (e : Ending) (w' : World) : Prop :=
  ∃ r1 r2 : Int, e = .returned (.tuple #[.int .i64 r1, .int .i64 r2]) ∧ Tk r1 r2 N w' b n (c + 1) ∧ Ob b w w'
theorem take_t {N : Int} (h : PS w b n N c) (v : Int) (hc : c ≤ 1000000) : Calls Try.prog 15 #[.pointer (some ⟨b, 0, none⟩), .int .i64 v] w (TkP b n N c w) := by
  obtain ⟨s, t, h1, h2⟩ := h
  rcases low_or_full s n with hf | ⟨k, hk⟩
  · exact (take_full h1 v hf).mono fun e w' ⟨he, hp, hb⟩ => ⟨_, _, he, .inl ⟨rfl, s, t, hp.more (by omega), h2⟩, Ob.of hb⟩
  · exact (take_low h1 v hk hc).mono fun e w' ⟨he, hp, ho⟩ => ⟨_, _, he, .inr ⟨rfl, _, _, k, hp, by rw [sum_upd t n hk.1, h2], rfl, hk.1, by rw [upd_eq]; have := (h1.tb k).1; omega⟩, ho⟩
theorem give_t {N : Int} (h : PS w b n N c) (k v : Int) : Calls Try.prog 17 #[.pointer (some ⟨b, 0, none⟩), .int .i64 k, .int .i64 v] w fun e w' => ∃ r : Int, e = .returned (.int .i64 r) ∧ PS w' b n N c ∧ Ob b w w' := by
  obtain ⟨s, t, h1, h2⟩ := h
  exact (give_any h1 k v).mono fun e w' ⟨he, hp, ho⟩ => ⟨_, he, ⟨_, _, hp, h2⟩, ho⟩
theorem PS.below {N : Int} (h : PS w b n N c) (hb : Below w.heap.size w w') : PS w' b n N c := by
  obtain ⟨s, t, h1, h2⟩ := h; exact ⟨s, t, h1.below hb, h2⟩
def InvL (w : World) (b n m : Nat) (N i : Value) (V : World) : Prop := ∃ (k : Nat) (N' : Int), i = .int .i64 k ∧ N = .int .i64 N' ∧ k ≤ m ∧ 0 ≤ N' ∧ N' ≤ k ∧ PS V b n N' k ∧ Below w.heap.size w V
def Cut1 (w : World) (b n k : Nat) (N : Value) (V : World) : Prop := ∃ N' : Int, N = .int .i64 N' ∧ 0 ≤ N' ∧ N' ≤ k + 1 ∧ PS V b n N' (k + 1) ∧ Below w.heap.size w V
def Cut2 (w : World) (b n k : Nat) (N : Int) (V : World) : Prop := PS V b n N (k + 1) ∧ Below w.heap.size w V
def InvS (w : World) (b n k : Nat) (s : SS) (t : Nat → Int) (S i : Value) (V : World) : Prop := ∃ j : Nat, i = .int .i64 j ∧ S = .int .i64 (sum t j) ∧ j ≤ n ∧ Pl V b n s t (k + 1) ∧ Below w.heap.size w V
set_option maxHeartbeats 4000000 in
theorem walk {n0 : Int} {cp : Nat} (hr : Row w A (l.flatMap pcell)) (hl : l.length ≤ cp) (hc : cp ≤ 9223372036854775807) :
    Calls Try.prog 7 #[.int .i64 n0, .slice A l.length cp] w fun e w' => e = .returned (.bool true) ∧ Below w.heap.size w w' := by
  have HR := Lib.hid hr
  clear hr
  go_enter Try.func7, Try.ntmps7
  go_wp2_with fail
  refine (lives_any _).mono ?_
  rintro e w1 ⟨rfl, hb1⟩
  have HB1 := Lib.hid hb1
  clear hb1
  go_wp2_with fail
  refine (new_any _ _).mono ?_
  rintro e w2 ⟨b, rfl, hp, hb, hB⟩
  have n64 := hp.n64
  generalize clampS n0 = n at *
  have HP2 : Hid (PS w2 b n 0 0) := ⟨_, _, hp, by
    have : ∀ m, sum (fun _ => 0) m = 0 := fun m => by
      induction m with
      | zero => rfl
      | succ m ih => rw [sum, ih]; rfl
    exact this n⟩
  have HB : Hid (w.heap.size ≤ b) := Nat.le_trans HB1.out.size hb
  have HB2 := Lib.hid (bt HB1.out hB)
  clear hp hb hB HB1
  go_wp2_with fail
  refine (early_any l.length cp hl hc _).mono ?_
  rintro e w' ⟨⟨c', rfl⟩, rfl⟩
  have hm1 : min l.length 80 ≤ l.length := by omega
  have hm2 : min l.length 80 ≤ 80 := by omega
  generalize min l.length 80 = m at *
  go_wp2_with fail
  go_loopw [6, 7] (fun N i V => InvL w b n m N i V) (fun _ i _ => m - (intOf i).toNat)
  case atStart => exact ⟨0, 0, rfl, rfl, by omega, by omega, by omega, HP2.out, HB2.out⟩
  case round =>
    obtain ⟨k, N, rfl, rfl, hk, N0, N1, hp, hB⟩ := hrel
    have HP := Lib.hid hp
    have HB5 := Lib.hid hB
    clear HP2 HB2 hp hB
    by_cases hlt : k < m
    · obtain ⟨u, hu⟩ : ∃ u, l[k]? = some u := ⟨_, List.getElem?_eq_getElem (by omega)⟩
      obtain ⟨ab, ao, rfl, hab, hc0, hc1, hc2⟩ := sps_at (HR.out.below HB5.out) hu
      obtain ⟨x, y, z⟩ := u
      simp only at hc0 hc1 hc2
      have HU := Lib.hid hu
      clear hu
      have f1 : (k : Int) < m := by omega
      go_wp2_with fail
      refine (take_t HP.out z (by omega)).mono ?_
      rintro e w5 ⟨r1, r2, rfl, ht5, ho5⟩
      have HT5 := Lib.hid ht5
      have HB6 := Lib.hid (Ob.to_below HB5.out ho5 HB5.out.size HB.out)
      clear ht5 ho5 HP hc0 hc1 hc2
      go_upto_if 35 with fail
      go_cut [6] (fun N V => Cut1 w b n k N V)
      case first =>
        rcases HT5.out with ⟨h1, h2⟩ | ⟨h1, s, t, j, h2, h3, h4, h5, h6⟩
        · subst h1
          have H2 := Lib.hid h2
          clear h2
          go_wp2_with fail
          go_meet
          exact ⟨N, rfl, N0, by omega, H2.out, HB6.out⟩
        · subst h1
          subst h4
          have H2 := Lib.hid h2
          have H3 := Lib.hid h3
          clear h2 h3
          go_wp2_with fail
          refine (turn_in H2.out j h5).mono ?_
          rintro e w7 ⟨rfl, hb7⟩
          have hd : decide (t j < 1) = false := decide_eq_false (by omega)
          generalize t j = tj at *
          have HX : Hid (Cut1 w b n k (.int .i64 (N + 1)) w7) := ⟨N + 1, rfl, by omega, by omega, ⟨s, t, H2.out.below hb7, H3.out⟩, bt HB6.out hb7⟩
          clear hb7
          go_wp2_with fail
          go_meet
          exact HX.out
      case rest =>
        obtain ⟨N, rfl, N0, N1, hp, hB⟩ := hcut
        have HP := Lib.hid hp
        have HB7 := Lib.hid hB
        clear hp hB HT5 HB6
        obtain ⟨ab', ao', e', hab', hc0, hc1, hc2⟩ := sps_at (HR.out.below HB7.out) HU.out
        injection e' with e'
        injection e' with e1 e2
        subst e1 e2
        simp only at hc0 hc1 hc2
        go_wp2_with fail
        refine (kind_any x y z _).mono ?_
        rintro e w8 ⟨rfl, hb8⟩
        have HP8 := Lib.hid (HP.out.below hb8)
        have HB8 := Lib.hid (bt HB7.out hb8)
        have hc1' := (hb8.cell (p := ⟨ab, ao + k * 3 + 1, none⟩) hab').trans hc1
        have hc2' := (hb8.cell (p := ⟨ab, ao + k * 3 + 2, none⟩) hab').trans hc2
        clear hb8 hc0 hc1 hc2 HP HB7
        obtain ⟨q, hq⟩ : ∃ q, modU x 4 = q := ⟨_, rfl⟩
        rw [hq]
        clear hq
        go_upto_if 47 with fail
        go_cut [] (fun V => Cut2 w b n k N V)
        case first =>
          by_cases hq : 1 < q
          · have t1 : decide (1 < q) = true := decide_eq_true hq
            go_upto_region 15 with fail
            go_still_tail 11, (by kernel_rfl)
            clear hc1' hc2'
            go_wp2_with fail
            refine (give_t (HP8.out.below (Below.refl _ _).drew) y z).mono ?_
            rintro e w9 ⟨r, rfl, hp9, ho9⟩
            have HX : Hid (Cut2 w b n k N w9) := ⟨hp9, Ob.to_below (HB8.out.drew) ho9 HB8.out.size HB.out⟩
            clear hp9 ho9
            go_wp2_with fail
            go_meet
            exact HX.out
          · have t1 : decide (1 < q) = false := decide_eq_false hq
            clear hc1' hc2'
            go_wp2_with fail
            go_meet
            exact ⟨HP8.out, HB8.out⟩
        case rest =>
          obtain ⟨⟨s, t, hp, hs⟩, hB⟩ := hcut
          have HP9 := Lib.hid hp
          have HS := Lib.hid hs
          have HB9 := Lib.hid hB
          have HSb : Hid (∀ j, 0 ≤ sum t j ∧ sum t j ≤ ((k : Int) + 1) * j) := sum_bd hp.tb
          have HTb := Lib.hid hp.tb
          clear hp hs hB HP8 HB8 hc1' hc2'
          go_wp2_with fail
          go_loopw [10, 11] (fun S i V => InvS w b n k s t S i V) (fun _ i _ => n - (intOf i).toNat)
          case atStart => exact ⟨0, rfl, rfl, by omega, HP9.out, HB9.out⟩
          case round =>
            obtain ⟨j, rfl, rfl, hj, hp, hB⟩ := hrel
            have HP10 := Lib.hid hp
            have HB10 := Lib.hid hB
            clear HP9 HB9 hp hB
            have hsb := HSb.out j
            have htb := HTb.out j
            have hjk : ((k : Int) + 1) * j ≤ 81 * 64 := Int.mul_le_mul (by omega) (by omega) (by omega) (by omega)
            by_cases hjn : j < n
            · have HE := Lib.hid (show sum t (j + 1) = sum t j + t j from rfl)
              generalize hS : sum t j = S at *
              generalize hT : t j = tj at *
              have HST := Lib.hid (And.intro hS hT)
              clear hS hT
              have s1 : 0 ≤ S := hsb.1
              have s2 : S ≤ 100000 := by omega
              have s3 : 0 ≤ tj := htb.1
              have s4 : tj ≤ 100000 := by omega
              clear hsb htb hjk
              have f2 : (j : Int) < n := by omega
              go_wp2_with fail
              refine (len_any HP10.out).mono ?_
              rintro e w11 ⟨rfl, hb11⟩
              have HP11 := Lib.hid (HP10.out.below hb11)
              have HB11 := Lib.hid (bt HB10.out hb11)
              clear hb11
              go_wp2_with fail
              refine (turn_in HP11.out j hjn).mono ?_
              rintro e w12 ⟨rfl, hb12⟩
              rw [HST.out.2]
              have HP12 := Lib.hid (HP11.out.below hb12)
              have HB12 := Lib.hid (bt HB11.out hb12)
              clear hb12
              go_wp2_with fail
              go_roundw
              case rel => exact ⟨j + 1, by go_num, by rw [HE.out], by omega, HP12.out, HB12.out⟩
              case measure => simp [intOf]; omega
            · obtain rfl : j = n := by omega
              rw [HS.out]
              clear hsb htb hjk
              go_wp2_with fail
              refine (len_any HP10.out).mono ?_
              rintro e w11 ⟨rfl, hb11⟩
              have HP11 := Lib.hid (HP10.out.below hb11)
              have HB11 := Lib.hid (bt HB10.out hb11)
              clear hb11
              go_wp2_with fail
              refine (turn_out HP11.out (-1) (by unfold isIn; exact decide_eq_false (by omega))).mono ?_
              rintro e w12 ⟨rfl, hb12⟩
              have HP12 := Lib.hid (HP11.out.below hb12)
              have HB12 := Lib.hid (bt HB11.out hb12)
              clear hb12
              go_wp2_with fail
              refine (len_any HP12.out).mono ?_
              rintro e w13 ⟨rfl, hb13⟩
              have HP13 := Lib.hid (HP12.out.below hb13)
              have HB13 := Lib.hid (bt HB12.out hb13)
              clear hb13
              go_wp2_with fail
              refine (turn_out HP13.out j (by unfold isIn; exact decide_eq_false (by omega))).mono ?_
              rintro e w14 ⟨rfl, hb14⟩
              have HX : Hid (PS w14 b j N (k + 1)) := ⟨s, t, HP13.out.below hb14, HS.out⟩
              have HB14 := Lib.hid (bt HB13.out hb14)
              clear hb14
              go_wp2_with fail
              go_roundw
              case rel => exact ⟨k + 1, N, by go_num, rfl, by omega, by omega, by omega, HX.out, HB14.out⟩
              case measure => simp [intOf]; omega
    · obtain rfl : k = m := by omega
      go_wp2_with fail
      go_ret
      exact ⟨rfl, HB5.out⟩
end Go.Proofs.Ytppmfmgmlicefaa.poolTurns
