/- The walk of PoolOthers. -/
import Derived.Test.YtppmfmgmlicefaaPTake
import Derived.Deep.DeepCutAuto
import Derived.Deep.CutRange
import Derived.Deep.DrawnRows
namespace Go.Proofs.Ytppmfmgmlicefaa.poolOthers
open Go.RowKit Go.Proofs.Ytppmfmgmlicefaa.G Go.Proofs.Ytppmfmgmlicefaa.P9
attribute [local go_sem ↓] Go.wp_at_zero Go.wp_at_succ
set_option maxRecDepth 100000
/-- The slots 0 and 1 are 77's, and no other one. -/
def A77 (s : SS) : Prop := s 0 = some 77 ∧ s 1 = some 77 ∧ ∀ j, 2 ≤ j → s j ≠ some 77
theorem all77 {s : SS} (h : A77 s) : ∀ m, all (m + 2) s (some 77) = [0, 1]
  | 0 => by rw [all_yes h.2.1, all_yes h.1]; rfl
  | m + 1 => by rw [all_no (h.2.2 (m + 2) (by omega)), all77 h m]
theorem all77' {s : SS} (h : A77 s) {n : Nat} (hn : 2 ≤ n) : all n s (some 77) = [0, 1] := by
  obtain ⟨m, rfl⟩ : ∃ m, n = m + 2 := ⟨n - 2, by omega⟩
  exact all77 h m
theorem none77 (n : Nat) (s : SS) : all n (letS n s 77) (some 77) = [] := by
  have : allN n (letS n s 77) (some 77) = [] := by
    apply List.eq_nil_iff_forall_not_mem.2
    intro k hk
    obtain ⟨h1, h2⟩ := mem_allN.1 hk
    unfold letS at h2
    split at h2
    · cases h2
    · rename_i h3; exact h3 ⟨h1, h2⟩
  unfold all; rw [this]; rfl
theorem a77_take {v : Int} (hv : v ≠ 77) {n : Nat} (s : SS) (k : Nat) (h : A77 s) (hk : Low n s k) : A77 (upd s k (some v)) := by
  have h0 : 0 ≠ k := by rintro rfl; have := hk.2.1; rw [h.1] at this; cases this
  have h1 : 1 ≠ k := by rintro rfl; have := hk.2.1; rw [h.2.1] at this; cases this
  refine ⟨by rw [upd_ne _ _ h0]; exact h.1, by rw [upd_ne _ _ h1]; exact h.2.1, fun j hj => ?_⟩
  by_cases e : j = k
  · subst e; rw [upd_eq]; simpa using hv
  · rw [upd_ne _ _ e]; exact h.2.2 j hj
theorem a77_give {v : Int} (hv : v ≠ 77) {n : Nat} {y : Int} (s : SS) (h : A77 s) : A77 (gst n s y v) := by
  unfold gst
  split
  · rename_i hg
    unfold gcode at hg
    split at hg
    · cases hs : s y.toNat with
      | none => rw [hs] at hg; cases hg
      | some o =>
        rw [hs] at hg
        have ho : o = v := by
          by_cases e : o = v
          · exact e
          · simp [e] at hg
        have h0 : 0 ≠ y.toNat := by intro e; rw [← e, h.1] at hs; injection hs with hs; omega
        have h1 : 1 ≠ y.toNat := by intro e; rw [← e, h.2.1] at hs; injection hs with hs; omega
        refine ⟨by rw [upd_ne _ _ h0]; exact h.1, by rw [upd_ne _ _ h1]; exact h.2.1, fun j hj => ?_⟩
        by_cases e : j = y.toNat
        · rw [e, upd_eq]; simp
        · rw [upd_ne _ _ e]; exact h.2.2 j hj
    · cases hg
  · exact h
theorem a77_let {v : Int} (hv : v ≠ 77) {n : Nat} (s : SS) (h : A77 s) : A77 (letS n s v) := by
  refine ⟨?_, ?_, fun j hj => ?_⟩
  · unfold letS; rw [if_neg (fun e => hv (by rw [h.1] at e; injection e.2 with e2; exact e2.symm))]; exact h.1
  · unfold letS; rw [if_neg (fun e => hv (by rw [h.2.1] at e; injection e.2 with e2; exact e2.symm))]; exact h.2.1
  · unfold letS; split
    · simp
    · exact h.2.2 j hj
theorem low1 {n : Nat} (hn : 2 ≤ n) : Low n (upd (fun _ => none) 0 (some 77)) 1 := by
  refine ⟨by omega, rfl, fun j h => ?_⟩
  obtain rfl : j = 0 := by omega
  simp [upd]
def NewO (w : World) (v : Value) (V : World) : Prop := ∃ b n, v = .pointer (some ⟨b, 0, none⟩) ∧ 2 ≤ n ∧ Pl V b n (fun _ => none) (fun _ => 0) 0 ∧ w.heap.size ≤ b ∧ Below w.heap.size w V
def Mid (w : World) (b n k g : Nat) (x y z : Int) (V : World) : Prop := PQ V b n A77 (k + 3) ∧ Below w.heap.size w V ∧ Blk V g 33 #[.int .i64 x, .int .i64 y, .int .i64 z]
theorem mid_of {w V V' : World} {b n k g : Nat} {x y z c : Int} (hp : PQ V' b n A77 c) (hc : c ≤ k + 3) (hB : Below w.heap.size w V) (hb : w.heap.size ≤ b) (hg : Blk V g 33 #[.int .i64 x, .int .i64 y, .int .i64 z]) (hne : g ≠ b) (ho : Ob b V V') : Mid w b n k g x y z V' :=
  ⟨hp.more hc, Ob.to_below hB ho hB.size hb, Ob.blk hg ho hne⟩
def InvL (w : World) (b n m : Nat) (i : Value) (V : World) : Prop := ∃ k : Nat, i = .int .i64 k ∧ k ≤ m ∧ PQ V b n A77 (k + 2) ∧ Below w.heap.size w V
theorem newO {w w1 w2 : World} {m : Int} {e : Ending} (hb1 : Below w.heap.size w w1) (hm : 2 ≤ m) (h : NewPost w1 (clampS m) e w2) : ∃ v, e = .returned v ∧ NewO w v w2 := by
  obtain ⟨b, rfl, hp, hb, hB⟩ := h
  exact ⟨_, rfl, b, _, rfl, by unfold clampS; omega, hp, Nat.le_trans hb1.size hb, bt hb1 hB⟩
variable {w : World} {A : Option Addr} {l : List Sp}
set_option maxHeartbeats 4000000 in
theorem walk {n : Int} {cp : Nat} (hr : Row w A (l.flatMap pcell)) (hl : l.length ≤ cp) (hc : cp ≤ 9223372036854775807) :
    Calls Try.prog 6 #[.int .i64 n, .slice A l.length cp] w fun e w' => e = .returned (.bool true) ∧ Below w.heap.size w w' := by
  have HR := Lib.hid hr
  clear hr
  go_enter Try.func6, Try.ntmps6
  go_wp2_with fail
  refine (lives_any _).mono ?_
  rintro e w1 ⟨rfl, hb1⟩
  have HB1 := Lib.hid hb1
  clear hb1
  go_upto_region 3 with fail
  go_cut [5] (fun v V => NewO w v V)
  case first =>
    have h3 : n < 2 ∨ (2 ≤ n ∧ n ≤ 64) ∨ 64 < n := by omega
    rcases h3 with h3 | ⟨h3, h4⟩ | h3
    all_goals
      go_wp2_with fail
      refine (new_any _ _).mono ?_
      intro e w2 hn
      obtain ⟨v, rfl, hN⟩ := newO HB1.out (by omega) hn
      have HN := Lib.hid hN
      clear hN hn
      go_wp2_with fail
      go_meet
      exact HN.out
  case rest =>
    obtain ⟨b, n', rfl, hn2, hp, hb, hB⟩ := hcut
    have HP := Lib.hid hp
    have HB := Lib.hid hb
    have HB2 := Lib.hid hB
    clear hp hb hB HB1
    go_wp2_with fail
    refine (take_low HP.out 77 (k := 0) ⟨by omega, rfl, fun j h => absurd h (by omega)⟩ (by omega)).mono ?_
    rintro e w3 ⟨rfl, hp3, hO3⟩
    have HP3 := Lib.hid hp3
    have HB3 := Lib.hid (Ob.to_below HB2.out hO3 HB2.out.size HB.out)
    clear hp3 hO3 HP HB2
    rw [show ((0 : Nat) : Int) = 0 from rfl]
    go_wp2_with fail
    refine (take_low HP3.out 77 (k := 1) (low1 hn2) (by omega)).mono ?_
    rintro e w4 ⟨rfl, hp4, hO4⟩
    have HP4 : Hid (PQ w4 b n' A77 2) := ⟨_, _, hp4, rfl, rfl, fun j hj => by rw [upd_ne _ _ (by omega), upd_ne _ _ (by omega)]; simp⟩
    have HB4 := Lib.hid (Ob.to_below HB3.out hO4 HB3.out.size HB.out)
    clear hp4 hO4 HP3 HB3
    rw [show ((1 : Nat) : Int) = 1 from rfl]
    go_wp2_with fail
    refine (early_any l.length cp hl hc _).mono ?_
    rintro e w' ⟨⟨c', rfl⟩, rfl⟩
    have hm1 : min l.length 80 ≤ l.length := by omega
    have hm2 : min l.length 80 ≤ 80 := by omega
    generalize min l.length 80 = m at *
    go_wp2_with fail
    go_loopw [10] (fun i V => InvL w b n' m i V) (fun i _ => m - (intOf i).toNat)
    case atStart => exact ⟨0, rfl, by omega, HP4.out, HB4.out⟩
    case round =>
      obtain ⟨k, rfl, hk, hp, hB⟩ := hrel
      have HP := Lib.hid hp
      have HB5 := Lib.hid hB
      clear HP4 HB4 hp hB
      by_cases hlt : k < m
      · obtain ⟨u, hu⟩ : ∃ u, l[k]? = some u := ⟨_, List.getElem?_eq_getElem (by omega)⟩
        obtain ⟨ab, ao, rfl, hab, hc0, hc1, hc2⟩ := sps_at (HR.out.below HB5.out) hu
        obtain ⟨x, y, z⟩ := u
        simp only at hc0 hc1 hc2
        clear hu
        have f1 : (k : Int) < m := by omega
        have N0 := b01 wr (.cells #[.int .i64 x, .int .i64 y, .int .i64 z] 33)
        have HP5 := Lib.hid (HP.out.below N0)
        have HB6 := Lib.hid (bt HB5.out N0)
        have HX := Lib.hid (Blk.new wr 33 #[.int .i64 x, .int .i64 y, .int .i64 z])
        clear N0
        by_cases hz : z = 77
        · subst hz
          go_wp2_with fail
          go_roundw
          case rel => exact ⟨k + 1, by go_num, by omega, HP5.out.more (by omega), HB6.out⟩
          case measure => simp [intOf]; omega
        · have t1 : (z == 77) = false := by simpa using hz
          go_wp2_with fail
          refine (kind_any x y z _).mono ?_
          rintro e w6 ⟨rfl, hb6⟩
          have HP6 := Lib.hid (HP5.out.below hb6)
          have HB7 := Lib.hid (bt HB6.out hb6)
          have HX6 := Lib.hid (HX.out.bel hb6)
          have hxb : wr.heap.size ≠ b := by
            obtain ⟨s, t, hp, _⟩ := HP.out
            have := hp.lt; omega
          have g1 := HX6.out.cell 1
          have g2 := HX6.out.cell 2
          simp only [List.getElem?_toArray, List.getElem?_cons_zero, List.getElem?_cons_succ] at g1 g2
          clear HP5 HB6 HX hb6 hc0 hc1 hc2
          obtain ⟨q, hq⟩ : ∃ q, modU x 4 = q := ⟨_, rfl⟩
          have hq4 : q = 0 ∨ q = 1 ∨ q = 2 ∨ q = 3 := by have := modU_bd x 4 (by omega); omega
          rw [hq]
          clear hq
          go_upto_block 2 with fail
          go_cut [] (fun V => Mid w b n' k wr.heap.size x y z V)
          case first =>
            rcases hq4 with rfl | rfl | rfl | rfl
            · go_wp2_with fail
              refine (take_q HP6.out z (by omega) (fun s k => a77_take hz s k)).mono ?_
              rintro e w7 ⟨r1, r2, rfl, hp7, ho7⟩
              have HM := Lib.hid (mid_of (k := k) hp7 (by omega) HB7.out HB.out HX6.out hxb ho7)
              clear hp7 ho7
              go_wp2_with fail
              go_meet
              exact HM.out
            · go_wp2_with fail
              refine (take_q HP6.out z (by omega) (fun s k => a77_take hz s k)).mono ?_
              rintro e w7 ⟨r1, r2, rfl, hp7, ho7⟩
              have HM := Lib.hid (mid_of (k := k) hp7 (by omega) HB7.out HB.out HX6.out hxb ho7)
              clear hp7 ho7
              go_wp2_with fail
              go_meet
              exact HM.out
            · go_wp2_with fail
              refine (give_q HP6.out y z (fun s => a77_give hz s)).mono ?_
              rintro e w7 ⟨r1, rfl, hp7, ho7⟩
              have HM := Lib.hid (mid_of (k := k) hp7 (by omega) HB7.out HB.out HX6.out hxb ho7)
              clear hp7 ho7
              go_wp2_with fail
              go_meet
              exact HM.out
            · go_wp2_with fail
              refine (let_q HP6.out z (fun s => a77_let hz s)).mono ?_
              rintro e w7 ⟨r1, rfl, hp7, ho7⟩
              have HM := Lib.hid (mid_of (k := k) hp7 (by omega) HB7.out HB.out HX6.out hxb ho7)
              clear hp7 ho7
              go_wp2_with fail
              go_meet
              exact HM.out
          case rest =>
            obtain ⟨⟨s, t, hp, hs⟩, hB, hx⟩ := hcut
            have HP8 := Lib.hid hp
            have HS := Lib.hid hs
            have HB8 := Lib.hid hB
            have HX8 := Lib.hid hx
            clear hp hs hB hx HP6 HB7 HX6 g1 g2 HP HB5
            go_wp2_with fail
            refine (give_other HP8.out 0 78 (by omega) (o := 77) HS.out.1 (by omega)).mono ?_
            rintro e w9 ⟨rfl, hp9, ho9⟩
            have HP9 := Lib.hid hp9
            have HB9 := Lib.hid (Ob.to_below HB8.out ho9 HB8.out.size HB.out)
            have hx9 := Ob.blk HX8.out ho9 hxb
            have HX9 := Lib.hid hx9
            have g2 := hx9.cell 2
            simp only [List.getElem?_toArray, List.getElem?_cons_zero, List.getElem?_cons_succ] at g2
            clear hp9 ho9 hx9 HP8 HB8 HX8
            go_wp2_with fail
            refine (of_any HP9.out 77).mono ?_
            rintro e w10 ⟨v, rfl, hl10, hb10⟩
            rw [all77' HS.out hn2] at hl10
            obtain ⟨A10, c10, rfl, hr10, _, _⟩ := Own.row hl10
            have N1 := b01 w10 (.cells #[.int .i64 0, .int .i64 1] 3)
            have HR10 := Lib.hid (hr10.below N1)
            have HR11 : Hid (Row (w10.alloc (.cells #[.int .i64 0, .int .i64 1] 3)) (some ⟨w10.heap.size, 0, none⟩) (iv [0, 1])) := Row.of_blk (Blk.new w10 3 _) fun j u hj => by simpa [iv] using hj
            have HP11 := Lib.hid (HP9.out.below (bt hb10 N1))
            have HB11 := Lib.hid (bt HB9.out (bt hb10 N1))
            clear hl10 hr10 hb10 N1 g2
            go_wp2_with fail
            refine (same_yes (l := [0, 1]) HR10.out HR11.out (by simp)).mono ?_
            rintro e w12 ⟨rfl, hb12⟩
            have HP12 := Lib.hid (HP11.out.below hb12)
            have HB12 := Lib.hid (bt HB11.out hb12)
            clear hb12
            go_wp2_with fail
            go_roundw
            case rel => exact ⟨k + 1, by go_num, by omega, ⟨s, t, HP12.out.more (by omega), HS.out⟩, HB12.out⟩
            case measure => simp [intOf]; omega
      · obtain rfl : k = m := by omega
        obtain ⟨s, t, hp, hs⟩ := HP.out
        have HP8 := Lib.hid hp
        have HS := Lib.hid hs
        have hl77 : (all n' s (some 77)).length = 2 := by rw [all77' hs hn2]; rfl
        have HL7 := Lib.hid hl77
        clear hp hs hl77 HP
        go_wp2_with fail
        refine (let_any HP8.out 77).mono ?_
        rintro e w9 ⟨rfl, hp9, ho9⟩
        rw [HL7.out]
        have HP9 := Lib.hid hp9
        have HB9 := Lib.hid (Ob.to_below HB5.out ho9 HB5.out.size HB.out)
        clear hp9 ho9 HP8 HB5
        go_wp2_with fail
        refine (of_any HP9.out 77).mono ?_
        rintro e w10 ⟨v, rfl, hl10, hb10⟩
        rw [none77] at hl10
        obtain ⟨A10, c10, rfl, hr10, _, _⟩ := Own.row hl10
        rw [show ([] : List Int).length = 0 from rfl]
        have HB10 := Lib.hid (bt HB9.out hb10)
        clear hl10 hr10 hb10
        go_wp2_with fail
        go_ret
        exact ⟨rfl, HB10.out⟩
end Go.Proofs.Ytppmfmgmlicefaa.poolOthers
