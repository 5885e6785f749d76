/- The walk of PoolWhole. -/
import Derived.Test.YtppmfmgmlicefaaPTake
import Derived.Deep.DeepCutAuto
import Derived.Deep.CutRange
import Derived.Deep.DrawnRows
namespace Go.Proofs.Ytppmfmgmlicefaa.poolWhole
open Go.RowKit Go.Proofs.Ytppmfmgmlicefaa.G Go.Proofs.Ytppmfmgmlicefaa.P9
attribute [local go_sem ↓] Go.wp_at_zero Go.wp_at_succ
set_option maxRecDepth 100000
variable {w w' : World} {b n : Nat} {s : SS} {t : Nat → Int} {c : Int} {A : Option Addr} {l : List Sp}
def InvL (w : World) (b n m : Nat) (i : Value) (V : World) : Prop := ∃ k : Nat, i = .int .i64 k ∧ k ≤ m ∧ PQ V b n Own5 k ∧ Below w.heap.size w V
def Mid (w : World) (b n k : Nat) (V : World) : Prop := PQ V b n Own5 (k + 1) ∧ Below w.heap.size w V
theorem mid_of {V V' : World} {k : Nat} (hp : PQ V' b n Own5 c) (hc : c ≤ k + 1) (hB : Below w.heap.size w V) (hb : w.heap.size ≤ b) (ho : Ob b V V') : Mid w b n k V' :=
  ⟨hp.more hc, Ob.to_below hB ho hB.size hb⟩
def InvO (w : World) (b n k : Nat) (s : SS) (t : Nat → Int) (N o : Value) (V : World) : Prop := ∃ j : Nat, o = .int .i64 j ∧ N = .int .i64 (cnt n s j) ∧ j ≤ 5 ∧ Pl V b n s t (k + 1) ∧ Below w.heap.size w V
def InvI (w : World) (b n k : Nat) (s : SS) (t : Nat → Int) (L : List Int) (v : Value) (B : Nat) (i : Value) (V : World) : Prop := ∃ q : Nat, i = .int .i64 q ∧ q ≤ L.length ∧ Pl V b n s t (k + 1) ∧ Lst V B v L ∧ Below w.heap.size w V
theorem all_at {x : Option Int} {i : Nat} (h : i < (all n s x).length) : ∃ j : Nat, (all n s x)[i]? = some (j : Int) ∧ j < n ∧ s j = x := by
  obtain ⟨j, h1, h2, h3⟩ := all_get h
  refine ⟨j, ?_, h2, h3⟩
  rw [List.getElem?_eq_getElem h]
  rw [← h1]; simp [h]
set_option maxHeartbeats 4000000 in
theorem walk {n0 : Int} {cp : Nat} (hr : Row w A (l.flatMap pcell)) (hl : l.length ≤ cp) (hc : cp ≤ 9223372036854775807) :
    Calls Try.prog 4 #[.int .i64 n0, .slice A l.length cp] w fun e w' => e = .returned (.bool true) ∧ Below w.heap.size w w' := by
  have HR := Lib.hid hr
  clear hr
  go_enter Try.func4, Try.ntmps4
  go_wp2_with fail
  refine (lives_any _).mono ?_
  rintro e w1 ⟨rfl, hb1⟩
  have HB1 := Lib.hid hb1
  clear hb1
  go_wp2_with fail
  refine (new_any _ _).mono ?_
  rintro e w2 ⟨b, rfl, hp, hb, hB⟩
  have n64 := hp.n64
  generalize clampS n0 = n at *
  have HP2 : Hid (PQ w2 b n Own5 0) := ⟨_, _, hp, fun _ => .inl rfl⟩
  have HB : Hid (w.heap.size ≤ b) := Nat.le_trans HB1.out.size hb
  have HB2 := Lib.hid (bt HB1.out hB)
  clear hp hb hB HB1
  go_wp2_with fail
  refine (early_any l.length cp hl hc _).mono ?_
  rintro e w' ⟨⟨c', rfl⟩, rfl⟩
  have hm1 : min l.length 80 ≤ l.length := by omega
  have hm2 : min l.length 80 ≤ 80 := by omega
  generalize min l.length 80 = m at *
  go_wp2_with fail
  go_loopw [6] (fun i V => InvL w b n m i V) (fun i _ => m - (intOf i).toNat)
  case atStart => exact ⟨0, rfl, by omega, HP2.out, HB2.out⟩
  case round =>
    obtain ⟨k, rfl, hk, hp, hB⟩ := hrel
    have HP := Lib.hid hp
    have HB5 := Lib.hid hB
    clear HP2 HB2 hp hB
    by_cases hlt : k < m
    · obtain ⟨u, hu⟩ : ∃ u, l[k]? = some u := ⟨_, List.getElem?_eq_getElem (by omega)⟩
      obtain ⟨ab, ao, rfl, hab, hc0, hc1, hc2⟩ := sps_at (HR.out.below HB5.out) hu
      obtain ⟨x, y, z⟩ := u
      simp only at hc0 hc1 hc2
      clear hu
      have f1 : (k : Int) < m := by omega
      have N0 := b01 wr (.cells #[.int .i64 x, .int .i64 y, .int .i64 z] 33)
      have HP5 := Lib.hid (HP.out.below N0)
      have HB6 := Lib.hid (bt HB5.out N0)
      have HX := Lib.hid (Blk.new wr 33 #[.int .i64 x, .int .i64 y, .int .i64 z])
      clear N0
      obtain ⟨v, hv, v0, v5⟩ : ∃ v, (IntKind.u64.wrap z).tmod 5 = v ∧ 0 ≤ v ∧ v < 5 := ⟨_, rfl, (modU_bd z 5 (by decide)).1, (modU_bd z 5 (by decide)).2⟩
      go_wp2_with fail
      refine (kind_any x y z _).mono ?_
      rintro e w6 ⟨rfl, hb6⟩
      have HP6 := Lib.hid (HP5.out.below hb6)
      have HB7 := Lib.hid (bt HB6.out hb6)
      have HX6 := Lib.hid (HX.out.bel hb6)
      have g1 := HX6.out.cell 1
      simp only [List.getElem?_toArray, List.getElem?_cons_zero, List.getElem?_cons_succ] at g1
      clear HP5 HB6 HX hb6 hc0 hc1 hc2 hv
      obtain ⟨q, hq⟩ : ∃ q, modU x 4 = q := ⟨_, rfl⟩
      have hq4 : q = 0 ∨ q = 1 ∨ q = 2 ∨ q = 3 := by have := modU_bd x 4 (by omega); omega
      rw [hq]
      clear hq
      go_upto_block 2 with fail
      go_cut [] (fun V => Mid w b n k V)
      case first =>
        rcases hq4 with rfl | rfl | rfl | rfl
        · go_wp2_with fail
          refine (take_q HP6.out v (by omega) (fun s k h _ => own5_upd h k v0 v5)).mono ?_
          rintro e w7 ⟨r1, r2, rfl, hp7, ho7⟩
          have HM := Lib.hid (mid_of (k := k) hp7 (by omega) HB7.out HB.out ho7)
          clear hp7 ho7
          go_wp2_with fail
          go_meet
          exact HM.out
        · go_wp2_with fail
          refine (take_q HP6.out v (by omega) (fun s k h _ => own5_upd h k v0 v5)).mono ?_
          rintro e w7 ⟨r1, r2, rfl, hp7, ho7⟩
          have HM := Lib.hid (mid_of (k := k) hp7 (by omega) HB7.out HB.out ho7)
          clear hp7 ho7
          go_wp2_with fail
          go_meet
          exact HM.out
        · go_wp2_with fail
          refine (give_q HP6.out y v (fun s h => own5_gst h n y v)).mono ?_
          rintro e w7 ⟨r1, rfl, hp7, ho7⟩
          have HM := Lib.hid (mid_of (k := k) hp7 (by omega) HB7.out HB.out ho7)
          clear hp7 ho7
          go_wp2_with fail
          go_meet
          exact HM.out
        · go_wp2_with fail
          refine (let_q HP6.out v (fun s h => own5_let h n v)).mono ?_
          rintro e w7 ⟨r1, rfl, hp7, ho7⟩
          have HM := Lib.hid (mid_of (k := k) hp7 (by omega) HB7.out HB.out ho7)
          clear hp7 ho7
          go_wp2_with fail
          go_meet
          exact HM.out
      case rest =>
        obtain ⟨⟨s, t, hp, hs⟩, hB⟩ := hcut
        have HP8 := Lib.hid hp
        have HS := Lib.hid hs
        have HB8 := Lib.hid hB
        clear hp hs hB HP6 HB7 HX6 g1 HP HB5
        go_wp2_with fail
        refine (free_any HP8.out).mono ?_
        rintro e w9 ⟨rfl, hb9⟩
        rw [← cnt_zero]
        have HP9 := Lib.hid (HP8.out.below hb9)
        have HB9 := Lib.hid (bt HB8.out hb9)
        clear hb9 HP8 HB8
        go_wp2_with fail
        go_loopw [9, 10] (fun N o V => InvO w b n k s t N o V) (fun _ o _ => 5 - (intOf o).toNat)
        case atStart => exact ⟨0, rfl, rfl, by omega, HP9.out, HB9.out⟩
        case round =>
          obtain ⟨j, rfl, rfl, hj, hp, hB⟩ := hrel
          have HP10 := Lib.hid hp
          have HB10 := Lib.hid hB
          have hcb := cnt_bd n s j
          have hcb2 : ((j : Int) + 1) * n ≤ 6 * 64 := Int.mul_le_mul (by omega) (by omega) (by omega) (by omega)
          clear HP9 HB9 hp hB
          by_cases hj5 : j < 5
          · have HE := Lib.hid (cnt_succ n s j)
            have c0 := hcb.1
            have c1 : cnt n s j ≤ 384 := by omega
            clear hcb hcb2
            generalize cnt n s j = N at *
            have f2 : (j : Int) < 5 := by omega
            have hll := all_len n s (some (j : Int))
            go_wp2_with fail
            refine (of_any HP10.out (j : Int)).mono ?_
            rintro e w11 ⟨u, rfl, hl11, hb11⟩
            have HP11 := Lib.hid (HP10.out.below hb11)
            have HB11 := Lib.hid (bt HB10.out hb11)
            have HUp : Hid (∀ i j', i < j' → j' < (all n s (some (j : Int))).length → (all n s (some (j : Int))).getD i 0 < (all n s (some (j : Int))).getD j' 0) := fun i j' h h' => all_up h h'
            have HAt : Hid (∀ i, i < (all n s (some (j : Int))).length → ∃ q : Nat, (all n s (some (j : Int)))[i]? = some (q : Int) ∧ q < n ∧ s q = some (j : Int)) := fun i h => all_at h
            generalize all n s (some (j : Int)) = L at *
            obtain ⟨A11, c11, rfl, hrow, hrc, hrq⟩ := Own.row hl11
            have HL11 := Lib.hid hl11
            clear hl11 hb11 hrow hrq
            go_wp2_with fail
            go_loopw [12] (fun i V => InvI w b n k s t L (.slice A11 L.length c11) wr.heap.size i V) (fun i _ => L.length - (intOf i).toNat)
            case atStart => exact ⟨0, rfl, by omega, HP11.out, HL11.out, HB11.out⟩
            case round =>
              obtain ⟨q, rfl, hq, hp, hl, hB⟩ := hrel
              have HP12 := Lib.hid hp
              have HL12 := Lib.hid hl
              have HB12 := Lib.hid hB
              clear HP11 HL11 HB11 hp hl hB
              by_cases hqL : q < L.length
              · obtain ⟨o, ho, hon, hos⟩ := HAt.out q hqL
                obtain ⟨gb, go, rfl, hgb, hgc⟩ := lst_at HL12.out ho
                have HO := Lib.hid (And.intro ho hos)
                clear ho hos
                have f3 : (q : Int) < L.length := by omega
                go_wp2_with fail
                refine (owner_in HP12.out o hon).mono ?_
                rintro e w13 ⟨rfl, hb13⟩
                rw [HO.out.2, B1_some, V1_some]
                have HP13 := Lib.hid (HP12.out.below hb13)
                have HL13 := Lib.hid (Own.below HL12.out hb13)
                have HB13 := Lib.hid (bt HB12.out hb13)
                have hgc' := (hb13.cell (p := ⟨gb, go + q, none⟩) hgb).trans hgc
                have hgb' := Nat.lt_of_lt_of_le hgb hb13.size
                clear hb13 hgc hgb
                rcases q with _ | q
                · go_wp2_with fail
                  go_quiet (fail)
                  go_wp2_with fail
                  go_roundw
                  case rel => exact ⟨1, by go_num, by omega, HP13.out.below (bn (Below.refl _ _) _), Own.below HL13.out (bn (Below.refl _ _) _), bn HB13.out _⟩
                  case measure => simp [intOf]; omega
                · obtain ⟨o', ho', _, _⟩ := HAt.out q (by omega)
                  obtain ⟨gb2, go2, e2, hgb2, hgc2⟩ := lst_at HL13.out ho'
                  injection e2 with e2
                  injection e2 with e3 e4
                  subst e3 e4
                  have hup : (o' : Int) < o := by
                    have h1 := HUp.out q (q + 1) (by omega) (by omega)
                    have h2 := HO.out.1
                    simp only [List.getD_eq_getElem?_getD, ho', h2, Option.getD_some] at h1
                    exact h1
                  clear ho' hgb2
                  have hd : decide ((o : Int) ≤ (o' : Int)) = false := decide_eq_false (by omega)
                  have hd' : decide (o ≤ o') = false := decide_eq_false (by omega)
                  have hw1 : IntKind.i64.wrap ((q : Int) + 1 - 1) = q := IntWalk.i64_in _ (by omega) |>.trans (by omega)
                  have hw2 : IntKind.i64.wrap (q : Int) = q := IntWalk.i64_in _ (by omega)
                  have hp0 : decide ((0 : Int) < (q : Int) + 1) = true := decide_eq_true (by omega)
                  have hq1 : (q : Int) < L.length := by omega
                  go_wp2_with fail
                  go_quiet (fail)
                  clear hw1 hw2
                  go_wp2_with fail
                  go_roundw
                  case rel => exact ⟨q + 1 + 1, by go_num, by omega, HP13.out.below (bn (Below.refl _ _) _), Own.below HL13.out (bn (Below.refl _ _) _), bn HB13.out _⟩
                  case measure => simp [intOf]; omega
              · obtain rfl : q = L.length := by omega
                go_wp2_with fail
                go_roundw
                case rel => exact ⟨j + 1, by go_num, by rw [HE.out], by omega, HP12.out, HB12.out⟩
                case measure => simp [intOf]; omega
          · obtain rfl : j = 5 := by omega
            rw [cnt_five HS.out]
            clear hcb hcb2
            go_wp2_with fail
            refine (len_any HP10.out).mono ?_
            rintro e w11 ⟨rfl, hb11⟩
            have HX : Hid (PQ w11 b n Own5 (k + 1)) := ⟨s, t, HP10.out.below hb11, HS.out⟩
            have HB11 := Lib.hid (bt HB10.out hb11)
            clear hb11
            go_wp2_with fail
            go_roundw
            case rel => exact ⟨k + 1, by go_num, by omega, HX.out, HB11.out⟩
            case measure => simp [intOf]; omega
    · obtain rfl : k = m := by omega
      go_wp2_with fail
      go_ret
      exact ⟨rfl, HB5.out⟩
end Go.Proofs.Ytppmfmgmlicefaa.poolWhole
