/- LaneSame, walked. Written by gen_qlsame.py. -/
import Derived.Test.YtjkdajkfbphnpaaQStep
namespace Go.Proofs.Ytjkdajkfbphnpaa.laneSame
open Go.RowKit Go.Proofs.Ytjkdajkfbphnpaa.G Go.Proofs.Ytjkdajkfbphnpaa.L10
set_option maxRecDepth 100000
/-- The messages of the first k steps. -/
def xs (l : List Sp) (k : Nat) : List MV := (l.take k).map Sp.msg
theorem xs_snoc {l : List Sp} {k : Nat} {u : Sp} (h : l[k]? = some u) : xs l (k + 1) = xs l k ++ [u.msg] := by unfold xs; rw [take_snoc h, List.map_append]; rfl
theorem xs_ws {l : List Sp} {w : World} (h : ∀ (k : Nat) (y : Sp), l[k]? = some y → SpOk w y) (k : Nat) : WsR w (xs l k) := fun m hm => by
  unfold xs at hm
  obtain ⟨u, hu, rfl⟩ := List.mem_map.1 hm
  have hu' := List.mem_of_mem_take hu
  obtain ⟨i, hi⟩ := List.mem_iff_getElem?.1 hu'
  exact (Sp.msg_wr (h i u hi).1.wr).1
theorem set_lt (n : Int) : ∀ (l : List MV) (k : Nat) (m : MV), l[k]? = some m → (mvs l).set (k * 5 + 3) (.int .i64 n) = mvs (l.set k { m with lt := n })
  | [], k, m, h => by simp at h
  | x :: t, 0, m, h => by
    obtain rfl : x = m := by simpa using h
    simp [mvs, MV.cells]
  | x :: t, k + 1, m, h => by
    have ih := set_lt n t k m (by simpa using h)
    have e : ∀ t' : List MV, mvs (x :: t') = .slice x.a x.ws.length x.c :: .int .i64 x.ln :: .int .i64 x.st :: .int .i64 x.lt :: .int .i64 x.sq :: mvs t' := fun t' => by simp [mvs, MV.cells]
    rw [List.set_cons_succ, e, e, ← ih, show (k + 1) * 5 + 3 = k * 5 + 3 + 5 by omega]
    simp only [List.set_cons_succ]
theorem sm_ {V : World} {A B : Option Addr} {a b c d : Nat} {l r : List MV} (ha : l.length = a) (hb : r.length = b) (h1 : Row V A (mvs l)) (h2 : Row V B (mvs r)) (wl : WsR V l) (wr' : WsR V r) (hc : l.length ≤ 1000) (hd : r.length ≤ 1000) : Calls Try.prog 35 #[.slice A a c, .slice B b d] V (SmPost (sames l r) V) := by subst ha hb; exact same_any h1 h2 wl wr' hc hd
theorem rsm_ {V : World} {A B : Option Addr} {a b c d : Nat} {l r : List MV} (ha : l.length = a) (hb : r.length = b) (h1 : Row V A (mvs l)) (h2 : Row V B (mvs r)) (wl : WsR V l) (wr' : WsR V r) (hc : l.length ≤ 1000) (hd : r.length ≤ 1000) : Calls Try.prog 24 #[.slice A a c, .slice B b d] V (SmPost (sames l r) V) := by subst ha hb; exact rsame_any h1 h2 wl wr' hc hd
theorem sames_self (l : List MV) : sames l l = true := decide_eq_true rfl
theorem ws_set {w : World} {K : List MV} {m : MV} (h : WsR w K) (hm : m ∈ K) (j : Nat) (n : Int) : WsR w (K.set j { m with lt := n }) := fun x hx => by
  rcases List.mem_or_eq_of_mem_set hx with hx | rfl
  · exact h x hx
  · exact ⟨(h m hm).row, (h m hm).le, (h m hm).top⟩
theorem own_row {w : World} {B n c : Nat} {A : Option Addr} {xs : List Value} (h : Own w B 33 5 (.slice A n c) n xs) : Row w A xs := by
  obtain ⟨A', c', e, hr, _⟩ := h.row
  injection e with e1
  subst e1
  exact hr
/-- The five calls. -/
theorem calls5 {w V : World} {A B D : Option Addr} {a b c d e : Nat} {l r z : List MV} (h : Below w.heap.size w V) (hl : WsR w l ∧ l.length = a) (hr : WsR w r ∧ r.length = b) (hz : WsR w z ∧ z.length = a) (h1 : Row V A (mvs l)) (h2 : Row V B (mvs r)) (h3 : Row V D (mvs z)) (ha : a ≤ 1000) (hb : b ≤ 1000) (W : World) (hW : Below V.heap.size V W) :
    Calls Try.prog 35 #[.slice A a c, .slice B b d] W (SmPost (sames l r) W) ∧ Calls Try.prog 24 #[.slice A a c, .slice B b d] W (SmPost (sames l r) W) ∧ Calls Try.prog 35 #[.slice A a c, .slice D a e] W (SmPost (sames l z) W) ∧ Calls Try.prog 24 #[.slice A a c, .slice D a e] W (SmPost (sames l z) W) ∧ Calls Try.prog 35 #[.slice A a c, .slice A a c] W (SmPost true W) := by
  have q1 := hl.1.below (bt h hW)
  have q2 := hr.1.below (bt h hW)
  have q3 := hz.1.below (bt h hW)
  have m1 := hl.2
  have m2 := hr.2
  have m3 := hz.2
  refine ⟨sm_ m1 m2 (h1.below hW) (h2.below hW) q1 q2 (by omega) (by omega), rsm_ m1 m2 (h1.below hW) (h2.below hW) q1 q2 (by omega) (by omega), sm_ m1 m3 (h1.below hW) (h3.below hW) q1 q3 (by omega) (by omega), rsm_ m1 m3 (h1.below hW) (h3.below hW) q1 q3 (by omega) (by omega), ?_⟩
  have := sm_ (c := c) (d := c) m1 m1 (h1.below hW) (h1.below hW) q1 q1 (by omega) (by omega)
  rw [sames_self] at this
  exact this
/-- The store of one late. -/
theorem late_set {w5 : World} {B k c : Nat} {A : Option Addr} {K : List MV} (n : Int) (h : Own w5 B 33 5 (.slice A k c) k (mvs K)) (hk : K.length = k) (hpos : 0 < k) : ∃ (j g : Nat) (m : MV), (IntKind.u64.wrap n).tmod k = j ∧ j < k ∧ A = some ⟨g, 0, none⟩ ∧ B ≤ g ∧ g < w5.heap.size ∧ m ∈ K ∧ w5.cell? ⟨g, j * 5 + 3, none⟩ = some (.int .i64 m.lt) ∧ w5.frozen? ⟨g, j * 5 + 3, none⟩ = false ∧ Own (w5.setCell ⟨g, j * 5 + 3, none⟩ (.int .i64 n)) B 33 5 (.slice A k c) k (mvs (K.set j { m with lt := n })) := by
  have hq := modU_bd n k (by omega)
  obtain ⟨j, hj⟩ : ∃ j : Nat, modU n k = j := ⟨(modU n k).toNat, by omega⟩
  have hjk : j < k := by omega
  obtain ⟨m, hm⟩ : ∃ m, K[j]? = some m := ⟨_, List.getElem?_eq_getElem (by omega)⟩
  obtain ⟨_, g, rfl, hg, y0, y1, y2, y3, y4⟩ := own_msg (n := k) (by rw [hk]; exact h) hm
  obtain ⟨hB, cur, hc⟩ := h.block_lt (g := g) rfl
  refine ⟨j, g, m, hj, hjk, rfl, hB, hg, List.mem_of_getElem? hm, y3, hc.frozen _, ?_⟩
  have := own_set h (j * 5 + 3) (.int .i64 n)
  rw [set_lt n K j m hm] at this
  exact this
set_option maxHeartbeats 8000000 in
theorem walk {w : World} {A B : Option Addr} {l r : List Sp} {c d : Nat} (n : Int) (hr1 : Row w A (sps l)) (ho1 : ∀ (k : Nat) (y : Sp), l[k]? = some y → SpOk w y) (hr2 : Row w B (sps r)) (ho2 : ∀ (k : Nat) (y : Sp), r[k]? = some y → SpOk w y) : Calls Try.prog 8 #[.slice A l.length c, .slice B r.length d, .int .i64 n] w fun e w' => e = .returned (.bool true) ∧ Below w.heap.size w w' := by
  obtain ⟨i0, hi, hz0, hz1, hz2⟩ := info_parts infoM
  have HL := Lib.hid (And.intro hr1 ho1)
  have HR0 := Lib.hid (And.intro hr2 ho2)
  clear hr1 ho1 hr2 ho2
  go_enter Try.func8, Try.ntmps8
  go_wp2_with fail
  refine (lives_any _).mono ?_
  rintro e w1 ⟨rfl, hb1⟩
  have HL1 : Hid (Row w1 A (sps l)) := HL.out.1.below hb1
  have HW1 := Lib.hid hb1
  clear hb1
  go_wp2_with fail
  go_loopw [7, 9] (fun xv i V => ∃ k : Nat, i = .int .i64 k ∧ k ≤ l.length ∧ k ≤ 6 ∧ Own V w1.heap.size 33 5 xv k (mvs (xs l k)) ∧ Below w1.heap.size w1 V) (fun _ i _ => 6 - (intOf i).toNat)
  case atStart => exact ⟨0, rfl, Nat.zero_le _, Nat.zero_le _, Own.nil_ _ _ _ _, Below.refl _ _⟩
  case round =>
    obtain ⟨k, rfl, hk, hk6, hx, hb⟩ := hrel
    obtain ⟨Ax, cx, rfl, hxx⟩ := hx.row
    clear hxx
    have HX := Lib.hid hx
    have HB := Lib.hid hb
    have hxl : (xs l k).length = k := by unfold xs; rw [List.length_map, List.length_take]; omega
    by_cases hlt : k < l.length ∧ k < 6
    · have hl1 : (k : Int) < l.length := by omega
      have hl2 : (k : Int) < 6 := by omega
      obtain ⟨u, hu⟩ : ∃ u, l[k]? = some u := ⟨_, List.getElem?_eq_getElem hlt.1⟩
      obtain ⟨g, o, rfl, _, s0, s1, s2, s3, s4, s5, s6⟩ := sps_at (HL1.out.below hb) hu
      have C := Lib.hid (msg_any u ((HL.out.2 k u hu).1.wr.below (bt HW1.out hb)))
      have HU := Lib.hid (And.intro hu hxl)
      unfold Sp.val at C
      clear hx hb hu hlt hxl
      go_wp2_with fail
      refine C.out.mono ?_
      rintro e w3 ⟨rfl, hb3⟩
      obtain ⟨M, hM⟩ : ∃ M, u.msg = M := ⟨_, rfl⟩
      have HM := Lib.hid hM
      rw [hM]
      unfold MV.val
      have HO := Lib.hid ((HX.out.below hb3).below (b01 w3 (.cells #[.slice M.a M.ws.length M.c, .int .i64 M.ln, .int .i64 M.st, .int .i64 M.lt, .int .i64 M.sq] 33)))
      have HB3 := Lib.hid (ba1 (bt HB.out hb3) (.cells #[.slice M.a M.ws.length M.c, .int .i64 M.ln, .int .i64 M.st, .int .i64 M.lt, .int .i64 M.sq] 33))
      have HR := Lib.hid (row_one w3 M)
      have HSz := Lib.hid HB3.out.size
      clear hM hb3 s0 s1 s2 s3 s4 s5 s6 C
      go_wp2_with (at_builtin; go_must (refine wpList_app Try.underlying26 hi hz0 hz1 hz2 rfl (by decide) rfl (.tmp 24) (.tmp 30) rfl w1.heap.size (.slice Ax k cx) k (mvs (xs l k)) rfl HO.out (some ⟨w3.heap.size, 0, none⟩) 1 1 M.cells rfl HR.out rfl (MV.one M) (by omega) (by decide) HSz.out ?_); intro v' w5 ho5 hb5 hg5 hob5; have H5 := Lib.hid (And.intro ho5 hb5); clear ho5 hb5 hg5 hob5)
      go_roundw
      case rel =>
        refine ⟨k + 1, by go_num, by omega, by omega, ?_, HB3.out.trans H5.out.2⟩
        rw [xs_snoc HU.out.1, HM.out, mvs_snoc]
        exact H5.out.1
      case measure => simp [intOf] <;> omega
    · obtain ⟨K, hK⟩ : ∃ K, xs l k = K := ⟨_, rfl⟩
      have HK := Lib.hid (And.intro (show WsR w K by rw [← hK]; exact xs_ws HL.out.2 k) (show K.length = k by rw [← hK]; exact hxl))
      rw [hK] at HX
      have hor : ¬ (k : Int) < l.length ∨ ((k : Int) < l.length ∧ ¬ (k : Int) < 6) := by omega
      have HW := Lib.hid (bt HW1.out hb)
      have HR2 : Hid (Row wr B (sps r)) := HR0.out.1.below HW.out
      clear hx hb hK hlt hxl HL1
      obtain ⟨w2, hw2⟩ : ∃ w2, wr = w2 := ⟨_, rfl⟩
      rw [hw2] at HX HW HR2 HB
      rcases hor with hor | ⟨hor, hor2⟩
      all_goals
        go_wp2_with fail
        clear hw2
        go_loopw [8, 10] (fun xv i V => ∃ k2 : Nat, i = .int .i64 k2 ∧ k2 ≤ r.length ∧ k2 ≤ 6 ∧ Own V w2.heap.size 33 5 xv k2 (mvs (xs r k2)) ∧ Below w2.heap.size w2 V) (fun _ i _ => 6 - (intOf i).toNat)
        case atStart => exact ⟨0, rfl, Nat.zero_le _, Nat.zero_le _, Own.nil_ _ _ _ _, Below.refl _ _⟩
        case round =>
          obtain ⟨k2, rfl, hk2, hk26, hy, hb⟩ := hrel
          obtain ⟨Ay, cy, rfl, hyy⟩ := hy.row
          clear hyy
          have HY := Lib.hid hy
          have HB := Lib.hid hb
          have hyl : (xs r k2).length = k2 := by unfold xs; rw [List.length_map, List.length_take]; omega
          by_cases hlt : k2 < r.length ∧ k2 < 6
          · have hl1 : (k2 : Int) < r.length := by omega
            have hl2 : (k2 : Int) < 6 := by omega
            obtain ⟨u, hu⟩ : ∃ u, r[k2]? = some u := ⟨_, List.getElem?_eq_getElem hlt.1⟩
            obtain ⟨g, o, rfl, _, s0, s1, s2, s3, s4, s5, s6⟩ := sps_at (HR2.out.below hb) hu
            have C := Lib.hid (msg_any u ((HR0.out.2 k2 u hu).1.wr.below (bt HW.out hb)))
            have HU := Lib.hid (And.intro hu hyl)
            unfold Sp.val at C
            clear hy hb hu hlt hyl
            go_wp2_with fail
            refine C.out.mono ?_
            rintro e w3 ⟨rfl, hb3⟩
            obtain ⟨M, hM⟩ : ∃ M, u.msg = M := ⟨_, rfl⟩
            have HM := Lib.hid hM
            rw [hM]
            unfold MV.val
            have HO := Lib.hid ((HY.out.below hb3).below (b01 w3 (.cells #[.slice M.a M.ws.length M.c, .int .i64 M.ln, .int .i64 M.st, .int .i64 M.lt, .int .i64 M.sq] 33)))
            have HB3 := Lib.hid (ba1 (bt HB.out hb3) (.cells #[.slice M.a M.ws.length M.c, .int .i64 M.ln, .int .i64 M.st, .int .i64 M.lt, .int .i64 M.sq] 33))
            have HR := Lib.hid (row_one w3 M)
            have HSz := Lib.hid HB3.out.size
            clear hM hb3 s0 s1 s2 s3 s4 s5 s6 C
            go_wp2_with (at_builtin; go_must (refine wpList_app Try.underlying26 hi hz0 hz1 hz2 rfl (by decide) rfl (.tmp 42) (.tmp 48) rfl w2.heap.size (.slice Ay k2 cy) k2 (mvs (xs r k2)) rfl HO.out (some ⟨w3.heap.size, 0, none⟩) 1 1 M.cells rfl HR.out rfl (MV.one M) (by omega) (by decide) HSz.out ?_); intro v' w5 ho5 hb5 hg5 hob5; have H5 := Lib.hid (And.intro ho5 hb5); clear ho5 hb5 hg5 hob5)
            go_roundw
            case rel =>
              refine ⟨k2 + 1, by go_num, by omega, by omega, ?_, HB3.out.trans H5.out.2⟩
              rw [xs_snoc HU.out.1, HM.out, mvs_snoc]
              exact H5.out.1
            case measure => simp [intOf] <;> omega
          · obtain ⟨K2, hK2⟩ : ∃ K2, xs r k2 = K2 := ⟨_, rfl⟩
            have HK2 := Lib.hid (And.intro (show WsR w K2 by rw [← hK2]; exact xs_ws HR0.out.2 k2) (show K2.length = k2 by rw [← hK2]; exact hyl))
            rw [hK2] at HY
            have hor3 : ¬ (k2 : Int) < r.length ∨ ((k2 : Int) < r.length ∧ ¬ (k2 : Int) < 6) := by omega
            have HW3 := Lib.hid (bt HW.out hb)
            have HX3 := Lib.hid (HX.out.below hb)
            have HY3 : Hid (Own wr w2.heap.size 33 5 (.slice Ay k2 cy) k2 (mvs K2)) := HY
            clear hy hb hK2 hlt hyl HB HY HX
            obtain ⟨w3, hw3⟩ : ∃ w3, wr = w3 := ⟨_, rfl⟩
            rw [hw3] at HY3 HW3 HX3
            obtain ⟨A1, c1, e1, hrX, z1⟩ := HX3.out.row
            injection e1 with e1 e2 e3
            subst e1 e3
            obtain ⟨A2, c2, e4, hrY, z2⟩ := HY3.out.row
            injection e4 with e4 e5 e6
            subst e4 e6
            have HRX := Lib.hid hrX
            have HRY := Lib.hid hrY
            clear z1 z2 e2 e5 hrX hrY
            have hkk : ¬ (k : Int) > 0 ∨ (k : Int) > 0 := by omega
            obtain ⟨s1, hs1⟩ : ∃ s1, sames K K2 = s1 := ⟨_, rfl⟩
            have t1 : (s1 == s1) = true := by simp
            have HS1 := Lib.hid hs1
            clear hs1
            rcases hor3 with hor3 | ⟨hor3, hor4⟩
            all_goals
              rcases hkk with hkk | hkk
              · first
                | (exfalso; omega)
                | (
                    go_wp2_with (at_builtin; go_must (refine wpList_app Try.underlying26 hi hz0 hz1 hz2 rfl (by decide) rfl (.tmp 50) (.tmp 51) rfl w3.heap.size (.slice none 0 0) 0 [] rfl (Own.nil_ _ _ _ _) Ax k cx (mvs K) rfl HRX.out (by rw [mvs_len, HK.out.2]) (mvs_one K) (by omega) (by decide) (Nat.le_refl _) ?_; intro v' w5 ho5 hb5 hg5 hob5; rw [Nat.zero_add, List.nil_append] at ho5; obtain ⟨Az, cz, e7, z1⟩ := ho5.row; subst e7; obtain ⟨Z, hZ⟩ : ∃ Z : List MV, Z = K := ⟨_, rfl⟩; have hzl : Z.length = k := (by rw [hZ]; exact HK.out.2); have hzw : WsR w Z := (by rw [hZ]; exact HK.out.1); obtain ⟨s2, hs2⟩ : ∃ s2, sames K Z = s2 := ⟨_, rfl⟩; have t2 : (s2 == s2) = true := (by simp); have CS := Lib.hid (calls5 (c := cx) (d := cy) (e := cz) (bt HW3.out hb5) HK.out HK2.out ⟨hzw, hzl⟩ (HRX.out.below hb5) (HRY.out.below hb5) (show Row w5 Az (mvs Z) by rw [hZ]; exact z1.1) (by omega) (by omega)); rw [HS1.out, hs2] at CS; have H5 := Lib.hid (bt HW3.out hb5); clear ho5 hb5 hg5 hob5 z1 hs2 hzw hzl hZ))
                    refine (CS.out _ (Below.refl _ _)).1.mono ?_
                    rintro e w6 ⟨rfl, h6⟩
                    have H6 := Lib.hid h6
                    clear h6
                    go_wp2_with fail
                    refine (CS.out _ H6.out).2.1.mono ?_
                    rintro e w7 ⟨rfl, h7⟩
                    have H7 := Lib.hid (bt H6.out h7)
                    clear h7
                    go_wp2_with fail
                    refine (CS.out _ H7.out).2.2.1.mono ?_
                    rintro e w8 ⟨rfl, h8⟩
                    have H8 := Lib.hid (bt H7.out h8)
                    clear h8
                    go_wp2_with fail
                    refine (CS.out _ H8.out).2.2.2.1.mono ?_
                    rintro e w9 ⟨rfl, h9⟩
                    have H9 := Lib.hid (bt H8.out h9)
                    clear h9
                    go_wp2_with fail
                    refine (CS.out _ H9.out).2.2.2.2.mono ?_
                    rintro e wA ⟨rfl, hA⟩
                    have HA := Lib.hid (bt H9.out hA)
                    clear hA
                    go_wp2_with fail
                    go_ret
                    exact ⟨rfl, bt H5.out HA.out⟩)
              · go_wp2_with (at_builtin; go_must (refine wpList_app Try.underlying26 hi hz0 hz1 hz2 rfl (by decide) rfl (.tmp 50) (.tmp 51) rfl w3.heap.size (.slice none 0 0) 0 [] rfl (Own.nil_ _ _ _ _) Ax k cx (mvs K) rfl HRX.out (by rw [mvs_len, HK.out.2]) (mvs_one K) (by omega) (by decide) (Nat.le_refl _) ?_; intro v' w5 ho5 hb5 hg5 hob5; rw [Nat.zero_add, List.nil_append] at ho5; obtain ⟨Az, cz, e7, z1⟩ := ho5.row; subst e7; obtain ⟨j, g, m, q0, hj, eA, hBg, hg, hm, y3, f3, hoz⟩ := late_set n ho5 HK.out.2 (by omega); subst eA; have hb6 : Below w3.heap.size w3 (w5.setCell ⟨g, j * 5 + 3, none⟩ (.int .i64 n)) := hb5.setCell hBg _; obtain ⟨Z, hZ⟩ : ∃ Z : List MV, K.set j { m with lt := n } = Z := ⟨_, rfl⟩; rw [hZ] at hoz; have hzl : Z.length = k := (by rw [← hZ, List.length_set]; exact HK.out.2); have hzw : WsR w Z := (by rw [← hZ]; exact ws_set HK.out.1 hm j n); obtain ⟨s2, hs2⟩ : ∃ s2, sames K Z = s2 := ⟨_, rfl⟩; have t2 : (s2 == s2) = true := (by simp); have CS := Lib.hid (calls5 (c := cx) (d := cy) (e := cz) (bt HW3.out hb6) HK.out HK2.out ⟨hzw, hzl⟩ (HRX.out.below hb6) (HRY.out.below hb6) (own_row hoz) (by omega) (by omega)); rw [HS1.out, hs2] at CS; have H5 := Lib.hid (bt HW3.out hb6); have t3 : (j : Int) < k := (by omega); clear ho5 hb5 hg5 hob5 z1 hs2 hzw hzl hZ hb6 hm hoz hBg))
                refine (CS.out _ (Below.refl _ _)).1.mono ?_
                rintro e w6 ⟨rfl, h6⟩
                have H6 := Lib.hid h6
                clear h6
                go_wp2_with fail
                refine (CS.out _ H6.out).2.1.mono ?_
                rintro e w7 ⟨rfl, h7⟩
                have H7 := Lib.hid (bt H6.out h7)
                clear h7
                go_wp2_with fail
                refine (CS.out _ H7.out).2.2.1.mono ?_
                rintro e w8 ⟨rfl, h8⟩
                have H8 := Lib.hid (bt H7.out h8)
                clear h8
                go_wp2_with fail
                refine (CS.out _ H8.out).2.2.2.1.mono ?_
                rintro e w9 ⟨rfl, h9⟩
                have H9 := Lib.hid (bt H8.out h9)
                clear h9
                go_wp2_with fail
                refine (CS.out _ H9.out).2.2.2.2.mono ?_
                rintro e wA ⟨rfl, hA⟩
                have HA := Lib.hid (bt H9.out hA)
                clear hA
                go_wp2_with fail
                go_ret
                exact ⟨rfl, bt H5.out HA.out⟩
end Go.Proofs.Ytjkdajkfbphnpaa.laneSame
