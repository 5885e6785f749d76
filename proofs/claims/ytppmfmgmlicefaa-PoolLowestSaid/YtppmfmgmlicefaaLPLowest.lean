/- The walk of PoolLowest. -/
import Derived.Test.YtppmfmgmlicefaaPTake
import Derived.Deep.DeepCutAuto
import Derived.Deep.CutRange
import Derived.Deep.DrawnRows
namespace Go.Proofs.Ytppmfmgmlicefaa.poolLowest
open Go.RowKit Go.Proofs.Ytppmfmgmlicefaa.G Go.Proofs.Ytppmfmgmlicefaa.P9
attribute [local go_sem ↓] Go.wp_at_zero Go.wp_at_succ
set_option maxRecDepth 100000
variable {w w' : World} {b n : Nat} {s : SS} {t : Nat → Int} {c : Int} {A : Option Addr} {l : List Sp}
theorem info4 : (Try.prog.info? 4).map (fun i => (i.zero, i.size, i.bytes)) = some (some (.bool false), 1, 1) := by kernel_rfl
/-- Which slots are free. -/
def frl (s : SS) (k : Nat) : List Value := (List.range k).map fun j => .bool (!(B1 (s j)))
theorem frl_len (s : SS) (k : Nat) : (frl s k).length = k := by simp [frl]
theorem frl_succ (s : SS) (k : Nat) : frl s (k + 1) = frl s k ++ [.bool (!(B1 (s k)))] := by simp [frl, List.range_succ]
theorem frl_at (s : SS) {k j : Nat} (h : j < k) : (frl s k)[j]? = some (.bool (!(B1 (s j)))) := by simp [frl, h]
theorem own_at {B te : Nat} {A : Option Addr} {m cp q : Nat} {xs : List Value} (h : Own w B te 1 (.slice A m cp) q xs) {k : Nat} {u : Value} (hk : xs[k]? = some u) : ∃ bb o : Nat, A = some ⟨bb, o, none⟩ ∧ bb < w.heap.size ∧ w.cell? ⟨bb, o + k, none⟩ = some u := by
  obtain ⟨A', c', e, hr, _, _⟩ := Own.row h
  injection e with e1 e2 e3
  subst e1 e2 e3
  have hlt := (List.getElem?_eq_some_iff.1 hk).1
  obtain ⟨bb, o, e, hb, hc'⟩ := hr (by omega)
  exact ⟨bb, o, e, hb, hc' k _ hk⟩
theorem own_ob {B te m q : Nat} {v : Value} {xs : List Value} (h : Own w B te m v q xs) (hp : Pl w b n s t c) (ho : Ob b w w') (hne : te ≠ 60) : Own w' B te m v q xs := by
  obtain ⟨cs, hb, _⟩ := hp.blk
  refine ⟨h.1, ?_⟩
  rcases h.2 with h0 | ⟨g, cap, cur, hv, hB, hh, r⟩
  · exact .inl h0
  · refine .inr ⟨g, cap, cur, hv, hB, ?_, r⟩
    have hg : Blk w g te cur := hh
    exact Ob.blk hg ho (hg.ne_ hb hne)
theorem pl_grown {B m q te : Nat} {v : Value} {xs : List Value} (h : Pl w b n s t c) (ho : Own w B te m v q xs) (hb : w.grownBy w' v.ownBlock) (hne : te ≠ 60) : Pl w' b n s t c := by
  obtain ⟨cs, h1, h2⟩ := h.blk
  exact ⟨⟨cs, blk_grown h1 hb (own_ne ho h1 hne), h2⟩, h.n64, h.tb⟩
def Tr (_ : SS) : Prop := True
def InvL (w : World) (b n m : Nat) (i : Value) (V : World) : Prop := ∃ k : Nat, i = .int .i64 k ∧ k ≤ m ∧ PQ V b n Tr k ∧ Below w.heap.size w V
def InvF (w : World) (b n f : Nat) (i : Value) (V : World) : Prop := ∃ (k : Nat) (s : SS) (t : Nat → Int), i = .int .i64 k ∧ k ≤ f ∧ Pl V b n s t (80 + k) ∧ (all n s none).length + k = f ∧ Below w.heap.size w V
def InvK (w : World) (b n : Nat) (s : SS) (t : Nat → Int) (c : Int) (B : Nat) (v i : Value) (V : World) : Prop := ∃ k : Nat, i = .int .i64 k ∧ k ≤ n ∧ Own V B 4 1 v k (frl s k) ∧ Pl V b n s t c ∧ B ≤ V.heap.size ∧ Below w.heap.size w V
def InvJ (kk : Nat) (V0 : World) (i : Value) (V : World) : Prop := ∃ j : Nat, i = .int .i64 j ∧ j ≤ kk ∧ V = V0
set_option maxHeartbeats 4000000 in
theorem walk {n0 : Int} {cp : Nat} (hr : Row w A (l.flatMap pcell)) (hl : l.length ≤ cp) (hc : cp ≤ 9223372036854775807) :
    Calls Try.prog 5 #[.int .i64 n0, .slice A l.length cp] w fun e w' => e = .returned (.bool true) ∧ Below w.heap.size w w' := by
  obtain ⟨i0, hi, hz0, hz1, hz2⟩ := info_parts info4
  have HR := Lib.hid hr
  clear hr
  go_enter Try.func5, Try.ntmps5
  go_wp2_with fail
  refine (lives_any _).mono ?_
  rintro e w1 ⟨rfl, hb1⟩
  have HB1 := Lib.hid hb1
  clear hb1
  go_wp2_with fail
  refine (new_any _ _).mono ?_
  rintro e w2 ⟨b, rfl, hp, hb, hB⟩
  have n64 := hp.n64
  generalize clampS n0 = n at *
  have HP2 : Hid (PQ w2 b n Tr 0) := ⟨_, _, hp, trivial⟩
  have HB : Hid (w.heap.size ≤ b) := Nat.le_trans HB1.out.size hb
  have HB2 := Lib.hid (bt HB1.out hB)
  clear hp hb hB HB1
  go_wp2_with fail
  refine (early_any l.length cp hl hc _).mono ?_
  rintro e w' ⟨⟨c', rfl⟩, rfl⟩
  have hm1 : min l.length 80 ≤ l.length := by omega
  have hm2 : min l.length 80 ≤ 80 := by omega
  generalize min l.length 80 = m at *
  go_wp2_with fail
  go_loopw [6] (fun i V => InvL w b n m i V) (fun i _ => m - (intOf i).toNat)
  case atStart => exact ⟨0, rfl, by omega, HP2.out, HB2.out⟩
  case round =>
    obtain ⟨k, rfl, hk, hp, hB⟩ := hrel
    have HP := Lib.hid hp
    have HB5 := Lib.hid hB
    clear HP2 HB2 hp hB
    by_cases hlt : k < m
    · obtain ⟨u, hu⟩ : ∃ u, l[k]? = some u := ⟨_, List.getElem?_eq_getElem (by omega)⟩
      obtain ⟨ab, ao, rfl, hab, hc0, hc1, hc2⟩ := sps_at (HR.out.below HB5.out) hu
      have HU := Lib.hid hu
      obtain ⟨x, y, z⟩ := u
      simp only at hc0 hc1 hc2
      clear hu
      have f1 : (k : Int) < m := by omega
      go_wp2_with fail
      refine (take_q HP.out z (by omega) (fun _ _ _ _ => trivial)).mono ?_
      rintro e w5 ⟨r1, r2, rfl, hp5, ho5⟩
      have HP5 := Lib.hid hp5
      have HB6 := Lib.hid (Ob.to_below HB5.out ho5 HB5.out.size HB.out)
      clear hp5 ho5 HP hc0 hc1 hc2
      obtain ⟨ab', ao', e', hab', hc0, hc1, hc2⟩ := sps_at (HR.out.below HB6.out) HU.out
      injection e' with e'
      injection e' with e1 e2
      subst e1 e2
      simp only at hc0 hc1 hc2
      go_upto_region 9 with fail
      go_still_tail 11, (by kernel_rfl)
      clear hc0 hc1 hc2
      go_wp2_with fail
      refine (give_q (HP5.out.below (Below.refl _ _).drew) y z (fun _ _ => trivial)).mono ?_
      rintro e w7 ⟨r1, rfl, hp7, ho7⟩
      have HP7 := Lib.hid hp7
      have HB7 := Lib.hid (Ob.to_below HB6.out.drew ho7 HB6.out.size HB.out)
      clear hp7 ho7
      go_wp2_with fail
      go_roundw
      case rel => exact ⟨k + 1, by go_num, by omega, HP7.out, HB7.out⟩
      case measure => simp [intOf]; omega
    · obtain rfl : k = m := by omega
      obtain ⟨s, t, hp, _⟩ := HP.out
      have HP3 := Lib.hid (hp.more (show (k : Int) ≤ 80 by omega))
      clear hp HP
      go_wp2_with fail
      refine (free_any HP3.out).mono ?_
      rintro e w3 ⟨rfl, hb3⟩
      have hfn := all_len n s none
      obtain ⟨f, hf⟩ : ∃ f, (all n s none).length = f := ⟨_, rfl⟩
      rw [hf] at hfn ⊢
      have HS0 : Hid (InvF w b n f (.int .i64 0) w3) := ⟨0, s, t, rfl, by omega, HP3.out.below hb3, hf, bt HB5.out hb3⟩
      clear hf hb3 HP3 HB5
      go_wp2_with fail
      go_loopw [8] (fun i V => InvF w b n f i V) (fun i _ => f - (intOf i).toNat)
      case atStart => exact HS0.out
      case round =>
        obtain ⟨i, s, t, rfl, hif, hp, hcnt, hB⟩ := hrel
        have HP := Lib.hid hp
        have HC := Lib.hid hcnt
        have HB3 := Lib.hid hB
        clear HS0 hp hcnt hB
        by_cases hlt : i < f
        · have f2 : (i : Int) < f := by omega
          have f3 : (i : Int) < 64 := by omega
          go_wp2_with fail
          obtain ⟨B0, hB0, hB1⟩ : ∃ B0, B0 ≤ wr.heap.size ∧ w.heap.size ≤ B0 := ⟨_, Nat.le_refl _, HB3.out.size⟩
          have HBs := Lib.hid hB1
          go_loopw [9, 10] (fun v i2 V => InvK w b n s t (80 + i) B0 v i2 V) (fun _ i2 _ => n - (intOf i2).toNat)
          case atStart => exact ⟨0, rfl, by omega, Own.nil_ _ _ _ _, HP.out, hB0, HB3.out⟩
          case round =>
            obtain ⟨k, rfl, hk, hl, hp, hsz, hB⟩ := hrel
            obtain ⟨A2, c2, rfl, hq2⟩ := Own.row hl
            clear hq2
            have HL := Lib.hid hl
            have HP4 := Lib.hid hp
            have HB4 := Lib.hid hB
            have HSz := Lib.hid hsz
            clear HP HB3 hl hp hB hsz hB0 hB1
            by_cases hkn : k < n
            · have f4 : (k : Int) < n := by omega
              have HE := Lib.hid (frl_succ s k)
              go_wp2_with fail
              refine (len_any HP4.out).mono ?_
              rintro e w5 ⟨rfl, hb5⟩
              have HP5 := Lib.hid (HP4.out.below hb5)
              have HL5 := Lib.hid (Own.below HL.out hb5)
              have HB5 := Lib.hid (bt HB4.out hb5)
              have HSz5 := Lib.hid (Nat.le_trans HSz.out hb5.size)
              clear hb5 HL HP4 HB4
              go_wp2_with fail
              refine (owner_in HP5.out k hkn).mono ?_
              rintro e w6 ⟨rfl, hb6⟩
              generalize B1 (s k) = bk at *
              generalize V1 (s k) = vk at *
              have HP6 := Lib.hid (HP5.out.below hb6)
              have HL6 := Lib.hid (Own.below HL5.out hb6)
              have HB6 := Lib.hid (bt HB5.out hb6)
              have HSz6 := Lib.hid (Nat.le_trans HSz5.out hb6.size)
              clear hb6 HL5 HP5 HB5
              have N1 := b01 w6 (.cells #[.bool (!bk)] 4)
              have HO := Lib.hid (Own.below HL6.out N1)
              have HP7 := Lib.hid (HP6.out.below N1)
              have HB7 := Lib.hid (bt HB6.out N1)
              have hs3 : B0 ≤ (w6.alloc (.cells #[.bool (!bk)] 4)).heap.size := Nat.le_trans HSz6.out N1.size
              have HRow : Hid (Row (w6.alloc (.cells #[.bool (!bk)] 4)) (some ⟨w6.heap.size, 0, none⟩) [.bool (!bk)]) := Row.of_blk (Blk.new w6 4 #[.bool (!bk)]) fun j u hj => by simpa using hj
              have HOne : Hid (∀ u ∈ [Value.bool (!bk)], u.oneCell' = true) := fun u hu => by obtain rfl := List.mem_singleton.1 hu; rfl
              clear N1 HL6 HP6 HB6
              go_wp2_with (at_builtin; go_must (refine wpList_app Try.underlying26 hi hz0 hz1 hz2 rfl (by omega) rfl (.tmp 72) (.tmp 75) rfl B0 (.slice A2 k c2) k (frl s k) rfl HO.out (some ⟨w6.heap.size, 0, none⟩) 1 1 _ rfl HRow.out rfl HOne.out (by omega) (by omega) hs3 ?_); intro v' w8 ho8 hb8 hg8 hob8; clear hob8)
              go_roundw
              case rel => exact ⟨k + 1, by go_num, by omega, by rw [HE.out]; exact ho8, pl_grown HP7.out HO.out hg8 (by decide), Nat.le_trans hs3 hb8.size, HB7.out.trans (hb8.mono HBs.out)⟩
              case measure => simp [intOf]; omega
            · obtain rfl : k = n := by omega
              have hlow : ∃ kk, Low k s kk := by
                rcases low_or_full s k with h | h
                · have := full_len.1 h; have := HC.out; omega
                · exact h
              obtain ⟨kk, hkk⟩ := hlow
              have HK := Lib.hid hkk
              have kk1 := hkk.1
              have HN : Hid ((all k (upd s kk (some 9)) none).length + (i + 1) = f) := by
                have h1 := len_less (s := s) (x := none) (y := some 9) hkk.2.1 (by simp) k hkk.1
                have h2 := HC.out
                rw [all_len'] at h2
                show (all k (upd s kk (some 9)) none).length + (i + 1) = f
                rw [all_len']; omega
              have HFr : Hid ((frl s k)[kk]? = some (.bool true)) := by show (frl s k)[kk]? = _; rw [frl_at s kk1, hkk.2.1]; rfl
              have HFr2 : Hid (∀ j, j < kk → (frl s k)[j]? = some (.bool false)) := fun j hj => by
                rw [frl_at s (by omega)]
                cases hs : s j with
                | none => exact absurd hs (hkk.2.2 j hj)
                | some o => rfl
              clear hkk hkn
              go_wp2_with fail
              refine (len_any HP4.out).mono ?_
              rintro e w5 ⟨rfl, hb5⟩
              have HP5 := Lib.hid (HP4.out.below hb5)
              have HL5 := Lib.hid (Own.below HL.out hb5)
              have HB5 := Lib.hid (bt HB4.out hb5)
              clear hb5 HL HP4 HB4
              go_wp2_with fail
              refine (take_low HP5.out 9 HK.out (by omega)).mono ?_
              rintro e w6 ⟨rfl, hp6, ho6⟩
              have HP6 := Lib.hid hp6
              have HL6 := Lib.hid (own_ob HL5.out HP5.out ho6 (by decide))
              have HB6 := Lib.hid (Ob.to_below HB5.out ho6 HB5.out.size HB.out)
              clear hp6 ho6 HL5 HP5 HB5
              obtain ⟨gb, go, rfl, hgb, hgc⟩ := own_at HL6.out HFr.out
              have f6 : (kk : Int) < k := by omega
              have t1 : decide ((kk : Int) < 0) = false := decide_eq_false (by omega)
              have t2 : decide ((k : Int) ≤ (kk : Int)) = false := decide_eq_false (by omega)
              have t3 : decide (k ≤ kk) = false := decide_eq_false (by omega)
              go_wp2_with fail
              clear t1 t2 t3
              go_loopw [15] (fun j V => InvJ kk w6 j V) (fun j _ => kk - (intOf j).toNat)
              case atStart => exact ⟨0, rfl, by omega, rfl⟩
              case round =>
                obtain ⟨j, rfl, hj, rfl⟩ := hrel
                by_cases hjk : j < kk
                · obtain ⟨gb2, go2, e2, hgb2, hgc2⟩ := own_at HL6.out (HFr2.out j hjk)
                  injection e2 with e2
                  injection e2 with e3 e4
                  subst e3 e4
                  have f7 : (j : Int) < kk := by omega
                  have f8 : (j : Int) < k := by omega
                  go_wp2_with fail
                  go_roundw
                  case rel => exact ⟨j + 1, by go_num, by omega, rfl⟩
                  case measure => simp [intOf]; omega
                · obtain rfl : j = kk := by omega
                  go_wp2_with fail
                  go_roundw
                  case rel => exact ⟨i + 1, _, _, by go_num, by omega, HP6.out.more (by push_cast; omega), HN.out, HB6.out⟩
                  case measure => simp [intOf]; omega
        · obtain rfl : i = f := by omega
          have HF : Hid (Full n s) := full_len.2 (by have := HC.out; omega)
          go_wp2_with fail
          refine (take_full HP.out 9 HF.out).mono ?_
          rintro e w8 ⟨rfl, hp8, hb8⟩
          have HP8 := Lib.hid hp8
          have HB8 := Lib.hid (bt HB3.out hb8)
          have HZ : Hid ((all n s none).length = 0) := by have := HC.out; show (all n s none).length = 0; omega
          clear hp8 hb8
          go_wp2_with fail
          refine (free_any HP8.out).mono ?_
          rintro e w9 ⟨rfl, hb9⟩
          rw [HZ.out]
          have HB9 := Lib.hid (bt HB8.out hb9)
          clear hb9
          go_wp2_with fail
          go_ret
          exact ⟨rfl, HB9.out⟩
end Go.Proofs.Ytppmfmgmlicefaa.poolLowest
