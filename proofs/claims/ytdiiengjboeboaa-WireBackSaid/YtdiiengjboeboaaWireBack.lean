/- At the landed commit, for any numbers and any widths (each made such as may be): numbers that are put one behind the other are read as they were, and nothing is left. Conditions: none. -/
import Derived.Test.YtdiiengjboeboaaBack
import Derived.Deep.RegionHeld3
namespace Go.Proofs.Ytdiiengjboeboaa.wireBack
open Go.ChangeShapes Go.WideShapes Go.ChangeAt Go.RowKit
open Go.Proofs.Ytdiiengjboeboaa.Wire

def Apart (vo vw : Value) : Prop := ∀ k, vo.ownBlock = some k → vw.ownBlock ≠ some k
theorem Apart.left {vo vw : Value} (h : Apart vo vw) : vo.ownBlock = none ∨ vo.ownBlock ≠ vw.ownBlock := by
  rcases e : vo.ownBlock with _ | k
  · exact .inl rfl
  · right; intro e'; exact h k e (by rw [← e'])
theorem Apart.right {vo vw : Value} (h : Apart vo vw) : vw.ownBlock = none ∨ vw.ownBlock ≠ vo.ownBlock := by
  rcases e : vw.ownBlock with _ | k
  · exact .inl rfl
  · right; intro e'; exact h k e'.symm e
def Inv (w : World) (n m : Nat) (vb vo vw i : Value) (wr : World) : Prop := ∃ ps : List (Int × Int), ps.length ≤ n ∧ ps.length ≤ m ∧ ps.length ≤ 40 ∧ i = .int .i64 ps.length ∧ (∀ p ∈ ps, okP p) ∧ Lst wr w.heap.size vb (encs ps) ∧ ILst wr w.heap.size vo (ps.map (·.2)) ∧ ILst wr w.heap.size vw (ps.map (·.1)) ∧ Apart vo vw ∧ Below w.heap.size w wr

theorem Rdr.drew {w : World} {b : Nat} {l : List UInt8} {e : Int} (h : Rdr w b l e) : Rdr w.drew b l e := by
  obtain ⟨A, c, h⟩ := h; exact ⟨A, c, h.head, h.bytes, h.room, h.top, h.ne⟩
theorem row_at {w : World} {B : Nat} {v : Value} {ps : List (Int × Int)} {f : Int × Int → Int} (h : ILst w B v (ps.map f)) : ∃ A c, v = .slice A ps.length c ∧ ps.length ≤ c ∧ c ≤ maxLen ∧
    ∀ j, j < ps.length → ∃ g, A = some ⟨g, 0, none⟩ ∧ g < w.heap.size ∧ w.cell? ⟨g, j, none⟩ = some (.int .i64 (f (ps.getD j (0, 0)))) := by
  obtain ⟨A, c, e, h1, h2, _, h4⟩ := h.rd
  rw [List.length_map] at e h1 h4
  refine ⟨A, c, e, h1, h2, fun j hj => ?_⟩
  obtain ⟨g, eA, _, _, hlt, hc⟩ := h4 (by omega)
  refine ⟨g, eA, hlt, ?_⟩
  rw [hc j hj]; simp [hj]
theorem encs_at {ps : List (Int × Int)} {j : Nat} (hj : j < ps.length) : encs (ps.drop j) = num (ps.getD j (0, 0)).1 (ps.getD j (0, 0)).2 ++ encs (ps.drop (j + 1)) := by
  rw [List.drop_eq_getElem_cons hj, show ps.getD j (0, 0) = ps[j] by simp [hj]]
  rfl
theorem okP_at {ps : List (Int × Int)} (h : ∀ p ∈ ps, okP p) {j : Nat} (hj : j < ps.length) : okP (ps.getD j (0, 0)) := by
  have : ps.getD j (0, 0) = ps[j] := by simp [hj]
  rw [this]; exact h _ (List.getElem_mem hj)
def Inv2 (w2 : World) (b : Nat) (ps : List (Int × Int)) (i : Value) (wr : World) : Prop := ∃ j : Nat, j ≤ ps.length ∧ i = .int .i64 j ∧ Rdr wr b (encs (ps.drop j)) 0 ∧ w2.grownBy wr (some b)
theorem grown_cell {w w' : World} {b : Nat} (h : w.grownBy w' (some b)) {g j : Nat} (hg : g < w.heap.size) (hne : g ≠ b) : w'.cell? ⟨g, j, none⟩ = w.cell? ⟨g, j, none⟩ :=
  World.cell?_of_block (a := ⟨g, j, none⟩) (h.block g hg (fun e => hne (by injection e)))
set_option maxHeartbeats 1000000 in
set_option maxRecDepth 100000 in
theorem walk {w : World} {A A2 : Option Addr} {n m c c2 : Nat} {z z2 : Nat → Int} (hz : Ints w A n z) (hz2 : Ints w A2 m z2) :
    Calls Try.prog 6 #[.slice A n c, .slice A2 m c2] w fun e w' => e = .returned (.bool true) ∧ Below w.heap.size w w' := by
  have HZ := Lib.hid hz; clear hz
  have HZ2 := Lib.hid hz2; clear hz2
  go_enter Try.func6, Try.ntmps6
  go_wp2_with fail
  refine (lives_any _).mono ?_
  rintro e w1 ⟨rfl, hb1⟩
  go_wp2_with fail
  go_loopw [5, 6, 7, 8] (fun vb vo vw i wr => Inv w n m vb vo vw i wr) (fun _ _ _ i _ => n - (intOf i).toNat)
  case atStart => exact ⟨[], by simp, by simp, by simp, rfl, by simp, Lst.nil_ _ _, ILst.nil_ _ _, ILst.nil_ _ _, (fun k h => by cases h), hb1⟩
  case round =>
    obtain ⟨ps, hpn, hpm, hp40, rfl, hok, hvb, hvo, hvw, hap, hS⟩ := hrel
    have HOK := Lib.hid hok
    have hel := encs_length ps hok
    have HVO := Lib.hid hvo; have HVW := Lib.hid hvw; have HVB := Lib.hid hvb; have HAP := Lib.hid hap
    obtain ⟨Ab, cb, rfl, hrb, _, _, _⟩ := hvb.rd
    have HRB := Lib.hid hrb
    clear hok hvo hvw hap hrb
    by_cases c1 : ps.length < n
    · by_cases c3 : ps.length < m
      · by_cases c4 : ps.length < 40
        · obtain ⟨zb, zo, rfl, hzb, hzc, hz1, hz2⟩ := HZ.out.at_ hS c1
          obtain ⟨yb, yo, rfl, hyb, hyc, hy1, hy2⟩ := HZ2.out.at_ hS c3
          go_wp2_with fail
          refine (wide_any _ _).mono ?_
          rintro e w2 ⟨rfl, hb2⟩
          have hS2 : Below w.heap.size w w2 := bt hS hb2
          have hzc2 : w2.cell? ⟨zb, zo + ps.length, none⟩ = some (.int .i64 (z ps.length)) := by
            rw [hS2.cell (p := ⟨zb, zo + ps.length, none⟩) hzb, ← hS.cell (p := ⟨zb, zo + ps.length, none⟩) hzb]; exact hzc
          clear hzc hyc
          obtain ⟨nn, hnn⟩ : ∃ nn, wd (z2 ps.length) = nn := ⟨_, rfl⟩
          have hsz := wd_sz (z2 ps.length)
          rw [hnn] at hsz ⊢
          clear hnn
          have HSZ := Lib.hid hsz
          have key : ∃ v : Int, (IntKind.u64.wrap (z ps.length)).tmod (mx nn) = v ∧ 0 ≤ v ∧ v < mx nn :=
            have hp : 0 < mx nn := by rcases of_decide_eq_true hsz with rfl | rfl | rfl <;> decide
            ⟨_, rfl, Int.tmod_nonneg _ (by rw [IntKind.wrap_u64]; omega), Int.tmod_lt_of_pos _ hp⟩
          obtain ⟨v, hv, v0, v1⟩ := key
          have hin : inN nn v = true := decide_eq_true ⟨v0, v1⟩
          have HIN := Lib.hid hin; clear hin
          rcases of_decide_eq_true hsz with rfl | rfl | rfl
          · have hv' : (IntKind.u64.wrap (z ps.length)).tmod 256 = v := hv
            have v1' : v < 256 := v1
            clear hv v1 hsz
            go_wp2_with fail
            refine (put_ok (HRB.out.below hb2) (by omega) 1 v HSZ.out HIN.out).mono ?_
            rintro e w3 ⟨x3, rfl, hx3, hb3⟩
            have hS3 : Below w.heap.size w w3 := bt hS2 hb3
            have hlen : (encs ps ++ num 1 v).length = (encs ps).length + 1 := by simp [num]
            obtain ⟨A3, c3', rfl, _, _, _, _⟩ := hx3.rd
            rw [hlen] at hx3 ⊢
            have HX3 := Lib.hid (hx3.less hS2.size)
            have HVO3 := Lib.hid ((HVO.out.below hb2).below hb3)
            have HVW3 := Lib.hid ((HVW.out.below hb2).below hb3)
            clear hx3 hlen hv'
            have hs3 := hS3.size
            go_wp2_with (first
              | (at_builtin
                 refine wpList_app1 rfl (.tmp 68) (.tmp 70) rfl w.heap.size u6 (ps.map (·.2)) rfl (HVO3.out.alloc _) w3.heap.size 1 v rfl (by simp) (by simp; omega) (by simp; omega) ?_
                 intro x4 w4 hx4 hb4 hg4 hw4
                 have hS4 : Below w.heap.size w w4 := (hS3.alloc hs3 _).trans hb4
                 have HX4 := Lib.hid hx4
                 have HVW4 := Lib.hid ((HVW3.out.alloc _).grown hg4 HAP.out.right)
                 have HX34 := Lib.hid ((HX3.out.alloc _).grown hg4 (HX3.out.apart HVO3.out))
                 have HAP4 : Hid (Apart x4 u7) := fun k hk hk' => by
                   rcases hw4 with e | e
                   · exact HAP.out k (by rw [← e]; exact hk) hk'
                   · rw [e] at hk; injection hk with hk; have := (HVW3.out.block k hk').2; simp at hk; omega
                 have hs4 := hS4.size
                 clear hx4 hg4 hw4 hb4)
              | (at_builtin
                 refine wpList_app1 rfl (.tmp 72) (.tmp 74) rfl w.heap.size u7 (ps.map (·.1)) rfl (HVW4.out.alloc _) w4.heap.size 1 1 rfl (by simp) (by simp; omega) (by simp; omega) ?_
                 intro x5 w5 hx5 hb5 hg5 hw5
                 have hS5 : Below w.heap.size w w5 := (hS4.alloc hs4 _).trans hb5
                 have HX5 := Lib.hid hx5
                 have HX45 := Lib.hid ((HX4.out.alloc _).grown hg5 HAP4.out.left)
                 have HX35 := Lib.hid ((HX34.out.alloc _).grown hg5 (HX34.out.apart HVW4.out))
                 have HAP5 : Hid (Apart x4 x5) := fun k hk hk' => by
                   rcases hw5 with e | e
                   · exact HAP4.out k hk (by rw [← e]; exact hk')
                   · rw [e] at hk'; injection hk' with hk'; have := (HX4.out.block k hk).2; simp at hk'; omega
                 clear hx5 hg5 hw5 hb5))
            go_roundw
            case rel => exact ⟨ps ++ [(1, v)], by simp; omega, by simp; omega, by simp; omega, by simp, (fun p hp => by rcases List.mem_append.1 hp with h | h; · exact HOK.out p h
                                                                                                                        · rw [List.mem_singleton.1 h]; exact ⟨HSZ.out, HIN.out⟩), by rw [encs_snoc]; exact HX35.out, by rw [List.map_append]; exact HX45.out, by rw [List.map_append]; exact HX5.out, HAP5.out, hS5⟩
            case measure => simp [intOf]; omega
          · have hv' : (IntKind.u64.wrap (z ps.length)).tmod 65536 = v := hv
            have v1' : v < 65536 := v1
            clear hv v1 hsz
            go_wp2_with fail
            refine (put_ok (HRB.out.below hb2) (by omega) 2 v HSZ.out HIN.out).mono ?_
            rintro e w3 ⟨x3, rfl, hx3, hb3⟩
            have hS3 : Below w.heap.size w w3 := bt hS2 hb3
            have hlen : (encs ps ++ num 2 v).length = (encs ps).length + 2 := by simp [num]
            obtain ⟨A3, c3', rfl, _, _, _, _⟩ := hx3.rd
            rw [hlen] at hx3 ⊢
            have HX3 := Lib.hid (hx3.less hS2.size)
            have HVO3 := Lib.hid ((HVO.out.below hb2).below hb3)
            have HVW3 := Lib.hid ((HVW.out.below hb2).below hb3)
            clear hx3 hlen hv'
            have hs3 := hS3.size
            go_wp2_with (first
              | (at_builtin
                 refine wpList_app1 rfl (.tmp 68) (.tmp 70) rfl w.heap.size u6 (ps.map (·.2)) rfl (HVO3.out.alloc _) w3.heap.size 1 v rfl (by simp) (by simp; omega) (by simp; omega) ?_
                 intro x4 w4 hx4 hb4 hg4 hw4
                 have hS4 : Below w.heap.size w w4 := (hS3.alloc hs3 _).trans hb4
                 have HX4 := Lib.hid hx4
                 have HVW4 := Lib.hid ((HVW3.out.alloc _).grown hg4 HAP.out.right)
                 have HX34 := Lib.hid ((HX3.out.alloc _).grown hg4 (HX3.out.apart HVO3.out))
                 have HAP4 : Hid (Apart x4 u7) := fun k hk hk' => by
                   rcases hw4 with e | e
                   · exact HAP.out k (by rw [← e]; exact hk) hk'
                   · rw [e] at hk; injection hk with hk; have := (HVW3.out.block k hk').2; simp at hk; omega
                 have hs4 := hS4.size
                 clear hx4 hg4 hw4 hb4)
              | (at_builtin
                 refine wpList_app1 rfl (.tmp 72) (.tmp 74) rfl w.heap.size u7 (ps.map (·.1)) rfl (HVW4.out.alloc _) w4.heap.size 1 2 rfl (by simp) (by simp; omega) (by simp; omega) ?_
                 intro x5 w5 hx5 hb5 hg5 hw5
                 have hS5 : Below w.heap.size w w5 := (hS4.alloc hs4 _).trans hb5
                 have HX5 := Lib.hid hx5
                 have HX45 := Lib.hid ((HX4.out.alloc _).grown hg5 HAP4.out.left)
                 have HX35 := Lib.hid ((HX34.out.alloc _).grown hg5 (HX34.out.apart HVW4.out))
                 have HAP5 : Hid (Apart x4 x5) := fun k hk hk' => by
                   rcases hw5 with e | e
                   · exact HAP4.out k hk (by rw [← e]; exact hk')
                   · rw [e] at hk'; injection hk' with hk'; have := (HX4.out.block k hk).2; simp at hk'; omega
                 clear hx5 hg5 hw5 hb5))
            go_roundw
            case rel => exact ⟨ps ++ [(2, v)], by simp; omega, by simp; omega, by simp; omega, by simp, (fun p hp => by rcases List.mem_append.1 hp with h | h; · exact HOK.out p h
                                                                                                                        · rw [List.mem_singleton.1 h]; exact ⟨HSZ.out, HIN.out⟩), by rw [encs_snoc]; exact HX35.out, by rw [List.map_append]; exact HX45.out, by rw [List.map_append]; exact HX5.out, HAP5.out, hS5⟩
            case measure => simp [intOf]; omega
          · have hv' : (IntKind.u64.wrap (z ps.length)).tmod 4294967296 = v := hv
            have v1' : v < 4294967296 := v1
            clear hv v1 hsz
            go_wp2_with fail
            refine (put_ok (HRB.out.below hb2) (by omega) 4 v HSZ.out HIN.out).mono ?_
            rintro e w3 ⟨x3, rfl, hx3, hb3⟩
            have hS3 : Below w.heap.size w w3 := bt hS2 hb3
            have hlen : (encs ps ++ num 4 v).length = (encs ps).length + 4 := by simp [num]
            obtain ⟨A3, c3', rfl, _, _, _, _⟩ := hx3.rd
            rw [hlen] at hx3 ⊢
            have HX3 := Lib.hid (hx3.less hS2.size)
            have HVO3 := Lib.hid ((HVO.out.below hb2).below hb3)
            have HVW3 := Lib.hid ((HVW.out.below hb2).below hb3)
            clear hx3 hlen hv'
            have hs3 := hS3.size
            go_wp2_with (first
              | (at_builtin
                 refine wpList_app1 rfl (.tmp 68) (.tmp 70) rfl w.heap.size u6 (ps.map (·.2)) rfl (HVO3.out.alloc _) w3.heap.size 1 v rfl (by simp) (by simp; omega) (by simp; omega) ?_
                 intro x4 w4 hx4 hb4 hg4 hw4
                 have hS4 : Below w.heap.size w w4 := (hS3.alloc hs3 _).trans hb4
                 have HX4 := Lib.hid hx4
                 have HVW4 := Lib.hid ((HVW3.out.alloc _).grown hg4 HAP.out.right)
                 have HX34 := Lib.hid ((HX3.out.alloc _).grown hg4 (HX3.out.apart HVO3.out))
                 have HAP4 : Hid (Apart x4 u7) := fun k hk hk' => by
                   rcases hw4 with e | e
                   · exact HAP.out k (by rw [← e]; exact hk) hk'
                   · rw [e] at hk; injection hk with hk; have := (HVW3.out.block k hk').2; simp at hk; omega
                 have hs4 := hS4.size
                 clear hx4 hg4 hw4 hb4)
              | (at_builtin
                 refine wpList_app1 rfl (.tmp 72) (.tmp 74) rfl w.heap.size u7 (ps.map (·.1)) rfl (HVW4.out.alloc _) w4.heap.size 1 4 rfl (by simp) (by simp; omega) (by simp; omega) ?_
                 intro x5 w5 hx5 hb5 hg5 hw5
                 have hS5 : Below w.heap.size w w5 := (hS4.alloc hs4 _).trans hb5
                 have HX5 := Lib.hid hx5
                 have HX45 := Lib.hid ((HX4.out.alloc _).grown hg5 HAP4.out.left)
                 have HX35 := Lib.hid ((HX34.out.alloc _).grown hg5 (HX34.out.apart HVW4.out))
                 have HAP5 : Hid (Apart x4 x5) := fun k hk hk' => by
                   rcases hw5 with e | e
                   · exact HAP4.out k hk (by rw [← e]; exact hk')
                   · rw [e] at hk'; injection hk' with hk'; have := (HX4.out.block k hk).2; simp at hk'; omega
                 clear hx5 hg5 hw5 hb5))
            go_roundw
            case rel => exact ⟨ps ++ [(4, v)], by simp; omega, by simp; omega, by simp; omega, by simp, (fun p hp => by rcases List.mem_append.1 hp with h | h; · exact HOK.out p h
                                                                                                                        · rw [List.mem_singleton.1 h]; exact ⟨HSZ.out, HIN.out⟩), by rw [encs_snoc]; exact HX35.out, by rw [List.map_append]; exact HX45.out, by rw [List.map_append]; exact HX5.out, HAP5.out, hS5⟩
            case measure => simp [intOf]; omega
        · go_wp2_with fail
          refine (read_any HRB.out (by omega)).mono ?_
          rintro e w2 ⟨b, rfl, hb, h2, hb2⟩
          have hS2 : Below w.heap.size w w2 := bt hS hb2
          have hB : w.heap.size ≤ b := bs hS hb
          obtain ⟨Ao, co, rfl, hco, hmo, hro⟩ := row_at HVO.out
          obtain ⟨Aw, cw, rfl, hcw, hmw, hrw⟩ := row_at HVW.out
          have HRO := Lib.hid hro; have HRW := Lib.hid hrw; have H2 := Lib.hid h2
          clear hro hrw h2
          go_wp2_with fail
          go_loopw [14] (fun i wr => Inv2 w2 b ps i wr) (fun i _ => ps.length - (intOf i).toNat)
          case atStart => exact ⟨0, by omega, rfl, H2.out, World.grownBy.refl _ _⟩
          case round =>
            obtain ⟨j, hj, rfl, hrd, hgr⟩ := hrel
            by_cases hlt : j < ps.length
            · obtain ⟨go, rfl, hgo, hco1⟩ := HRO.out j hlt
              obtain ⟨gw, rfl, hgw, hcw1⟩ := HRW.out j hlt
              obtain ⟨k1, k2⟩ := okP_at HOK.out hlt
              rw [encs_at hlt] at hrd
              obtain ⟨pn, hpn'⟩ : ∃ pn, (ps.getD j (0, 0)).1 = pn := ⟨_, rfl⟩
              obtain ⟨pv, hpv'⟩ : ∃ pv, (ps.getD j (0, 0)).2 = pv := ⟨_, rfl⟩
              simp only [hpn', hpv'] at *
              have hlen2 : (encs (ps.drop (j + 1))).length ≤ 2048 := by
                have := encs_length (ps.drop (j + 1)) (fun p hp => HOK.out p (List.mem_of_mem_drop hp))
                simp at this; omega
              have HN := Lib.hid (next_num pn pv k1 k2 (Rdr.drew hrd) hlen2)
              have cw2 : wr.cell? ⟨gw, j, none⟩ = some (.int .i64 pn) := by
                rw [grown_cell hgr (Nat.lt_of_lt_of_le hgw hb2.size) (by omega), hb2.cell (p := ⟨gw, j, none⟩) hgw]; exact hcw1
              have co2 : wr.cell? ⟨go, j, none⟩ = some (.int .i64 pv) := by
                rw [grown_cell hgr (Nat.lt_of_lt_of_le hgo hb2.size) (by omega), hb2.cell (p := ⟨go, j, none⟩) hgo]; exact hco1
              have hgo2 : go < wr.heap.size := Nat.lt_of_lt_of_le hgo (Nat.le_trans hb2.size hgr.size)
              have hgw2 : gw < wr.heap.size := Nat.lt_of_lt_of_le hgw (Nat.le_trans hb2.size hgr.size)
              have hgob : go ≠ b := by omega
              have hgwb : gw ≠ b := by omega
              have f1 : (0 : Int) ≤ j := by omega
              have f2 : (j : Int) < ps.length := by omega
              have HGR := Lib.hid hgr
              clear hrd hgr hpn' hpv' k1 k2 hco1 hcw1
              go_wp2_with fail
              go_region_held3 (fun W => W.cell? ⟨gw, j, none⟩ = some (.int .i64 pn) ∧ W.cell? ⟨go, j, none⟩ = some (.int .i64 pv)) (first | exact ⟨cw2, co2⟩ | exact ⟨cw3, co3⟩)
                (first
                 | (go_at_call 20; (with_reducible refine HN.out.mono ?_); rintro e w3 ⟨rfl, h3, g3⟩; have H3 := Lib.hid h3; have cw3 := (grown_cell g3 hgw2 hgwb).trans cw2; have co3 := (grown_cell g3 hgo2 hgob).trans co2; have G3 := Lib.hid g3; clear h3 g3))
              go_wp2
              go_roundw
              case rel => exact ⟨j + 1, by omega, by go_num, H3.out, HGR.out.trans (show World.grownBy wr w3 (some b) from ⟨G3.out.os, G3.out.tape, G3.out.output, G3.out.size, G3.out.block⟩)⟩
              case measure => simp [intOf]; omega
            · have hj' : ps.length ≤ j := by omega
              rw [List.drop_eq_nil_of_le hj'] at hrd
              have HRD := Lib.hid (show Rdr wr b [] 0 from hrd)
              have HE : Hid (endE [] 0 = 0) := rfl
              clear hrd
              go_wp2_with (first | (go_at_call 23; refine (end_any HRD.out).mono ?_; rintro e w' ⟨rfl, rfl⟩; rw [HE.out]) | (go_at_call 22; refine (left_any HRD.out).mono ?_; rintro e w' ⟨rfl, rfl⟩))
              go_ret
              exact ⟨rfl, bg hS2 hgr hB⟩
      · go_wp2_with fail
        refine (read_any HRB.out (by omega)).mono ?_
        rintro e w2 ⟨b, rfl, hb, h2, hb2⟩
        have hS2 : Below w.heap.size w w2 := bt hS hb2
        have hB : w.heap.size ≤ b := bs hS hb
        obtain ⟨Ao, co, rfl, hco, hmo, hro⟩ := row_at HVO.out
        obtain ⟨Aw, cw, rfl, hcw, hmw, hrw⟩ := row_at HVW.out
        have HRO := Lib.hid hro; have HRW := Lib.hid hrw; have H2 := Lib.hid h2
        clear hro hrw h2
        go_wp2_with fail
        go_loopw [14] (fun i wr => Inv2 w2 b ps i wr) (fun i _ => ps.length - (intOf i).toNat)
        case atStart => exact ⟨0, by omega, rfl, H2.out, World.grownBy.refl _ _⟩
        case round =>
          obtain ⟨j, hj, rfl, hrd, hgr⟩ := hrel
          by_cases hlt : j < ps.length
          · obtain ⟨go, rfl, hgo, hco1⟩ := HRO.out j hlt
            obtain ⟨gw, rfl, hgw, hcw1⟩ := HRW.out j hlt
            obtain ⟨k1, k2⟩ := okP_at HOK.out hlt
            rw [encs_at hlt] at hrd
            obtain ⟨pn, hpn'⟩ : ∃ pn, (ps.getD j (0, 0)).1 = pn := ⟨_, rfl⟩
            obtain ⟨pv, hpv'⟩ : ∃ pv, (ps.getD j (0, 0)).2 = pv := ⟨_, rfl⟩
            simp only [hpn', hpv'] at *
            have hlen2 : (encs (ps.drop (j + 1))).length ≤ 2048 := by
              have := encs_length (ps.drop (j + 1)) (fun p hp => HOK.out p (List.mem_of_mem_drop hp))
              simp at this; omega
            have HN := Lib.hid (next_num pn pv k1 k2 (Rdr.drew hrd) hlen2)
            have cw2 : wr.cell? ⟨gw, j, none⟩ = some (.int .i64 pn) := by
              rw [grown_cell hgr (Nat.lt_of_lt_of_le hgw hb2.size) (by omega), hb2.cell (p := ⟨gw, j, none⟩) hgw]; exact hcw1
            have co2 : wr.cell? ⟨go, j, none⟩ = some (.int .i64 pv) := by
              rw [grown_cell hgr (Nat.lt_of_lt_of_le hgo hb2.size) (by omega), hb2.cell (p := ⟨go, j, none⟩) hgo]; exact hco1
            have hgo2 : go < wr.heap.size := Nat.lt_of_lt_of_le hgo (Nat.le_trans hb2.size hgr.size)
            have hgw2 : gw < wr.heap.size := Nat.lt_of_lt_of_le hgw (Nat.le_trans hb2.size hgr.size)
            have hgob : go ≠ b := by omega
            have hgwb : gw ≠ b := by omega
            have f1 : (0 : Int) ≤ j := by omega
            have f2 : (j : Int) < ps.length := by omega
            have HGR := Lib.hid hgr
            clear hrd hgr hpn' hpv' k1 k2 hco1 hcw1
            go_wp2_with fail
            go_region_held3 (fun W => W.cell? ⟨gw, j, none⟩ = some (.int .i64 pn) ∧ W.cell? ⟨go, j, none⟩ = some (.int .i64 pv)) (first | exact ⟨cw2, co2⟩ | exact ⟨cw3, co3⟩)
              (first
               | (go_at_call 20; (with_reducible refine HN.out.mono ?_); rintro e w3 ⟨rfl, h3, g3⟩; have H3 := Lib.hid h3; have cw3 := (grown_cell g3 hgw2 hgwb).trans cw2; have co3 := (grown_cell g3 hgo2 hgob).trans co2; have G3 := Lib.hid g3; clear h3 g3))
            go_wp2
            go_roundw
            case rel => exact ⟨j + 1, by omega, by go_num, H3.out, HGR.out.trans (show World.grownBy wr w3 (some b) from ⟨G3.out.os, G3.out.tape, G3.out.output, G3.out.size, G3.out.block⟩)⟩
            case measure => simp [intOf]; omega
          · have hj' : ps.length ≤ j := by omega
            rw [List.drop_eq_nil_of_le hj'] at hrd
            have HRD := Lib.hid (show Rdr wr b [] 0 from hrd)
            have HE : Hid (endE [] 0 = 0) := rfl
            clear hrd
            go_wp2_with (first | (go_at_call 23; refine (end_any HRD.out).mono ?_; rintro e w' ⟨rfl, rfl⟩; rw [HE.out]) | (go_at_call 22; refine (left_any HRD.out).mono ?_; rintro e w' ⟨rfl, rfl⟩))
            go_ret
            exact ⟨rfl, bg hS2 hgr hB⟩
    · go_wp2_with fail
      refine (read_any HRB.out (by omega)).mono ?_
      rintro e w2 ⟨b, rfl, hb, h2, hb2⟩
      have hS2 : Below w.heap.size w w2 := bt hS hb2
      have hB : w.heap.size ≤ b := bs hS hb
      obtain ⟨Ao, co, rfl, hco, hmo, hro⟩ := row_at HVO.out
      obtain ⟨Aw, cw, rfl, hcw, hmw, hrw⟩ := row_at HVW.out
      have HRO := Lib.hid hro; have HRW := Lib.hid hrw; have H2 := Lib.hid h2
      clear hro hrw h2
      go_wp2_with fail
      go_loopw [14] (fun i wr => Inv2 w2 b ps i wr) (fun i _ => ps.length - (intOf i).toNat)
      case atStart => exact ⟨0, by omega, rfl, H2.out, World.grownBy.refl _ _⟩
      case round =>
        obtain ⟨j, hj, rfl, hrd, hgr⟩ := hrel
        by_cases hlt : j < ps.length
        · obtain ⟨go, rfl, hgo, hco1⟩ := HRO.out j hlt
          obtain ⟨gw, rfl, hgw, hcw1⟩ := HRW.out j hlt
          obtain ⟨k1, k2⟩ := okP_at HOK.out hlt
          rw [encs_at hlt] at hrd
          obtain ⟨pn, hpn'⟩ : ∃ pn, (ps.getD j (0, 0)).1 = pn := ⟨_, rfl⟩
          obtain ⟨pv, hpv'⟩ : ∃ pv, (ps.getD j (0, 0)).2 = pv := ⟨_, rfl⟩
          simp only [hpn', hpv'] at *
          have hlen2 : (encs (ps.drop (j + 1))).length ≤ 2048 := by
            have := encs_length (ps.drop (j + 1)) (fun p hp => HOK.out p (List.mem_of_mem_drop hp))
            simp at this; omega
          have HN := Lib.hid (next_num pn pv k1 k2 (Rdr.drew hrd) hlen2)
          have cw2 : wr.cell? ⟨gw, j, none⟩ = some (.int .i64 pn) := by
            rw [grown_cell hgr (Nat.lt_of_lt_of_le hgw hb2.size) (by omega), hb2.cell (p := ⟨gw, j, none⟩) hgw]; exact hcw1
          have co2 : wr.cell? ⟨go, j, none⟩ = some (.int .i64 pv) := by
            rw [grown_cell hgr (Nat.lt_of_lt_of_le hgo hb2.size) (by omega), hb2.cell (p := ⟨go, j, none⟩) hgo]; exact hco1
          have hgo2 : go < wr.heap.size := Nat.lt_of_lt_of_le hgo (Nat.le_trans hb2.size hgr.size)
          have hgw2 : gw < wr.heap.size := Nat.lt_of_lt_of_le hgw (Nat.le_trans hb2.size hgr.size)
          have hgob : go ≠ b := by omega
          have hgwb : gw ≠ b := by omega
          have f1 : (0 : Int) ≤ j := by omega
          have f2 : (j : Int) < ps.length := by omega
          have HGR := Lib.hid hgr
          clear hrd hgr hpn' hpv' k1 k2 hco1 hcw1
          go_wp2_with fail
          go_region_held3 (fun W => W.cell? ⟨gw, j, none⟩ = some (.int .i64 pn) ∧ W.cell? ⟨go, j, none⟩ = some (.int .i64 pv)) (first | exact ⟨cw2, co2⟩ | exact ⟨cw3, co3⟩)
            (first
             | (go_at_call 20; (with_reducible refine HN.out.mono ?_); rintro e w3 ⟨rfl, h3, g3⟩; have H3 := Lib.hid h3; have cw3 := (grown_cell g3 hgw2 hgwb).trans cw2; have co3 := (grown_cell g3 hgo2 hgob).trans co2; have G3 := Lib.hid g3; clear h3 g3))
          go_wp2
          go_roundw
          case rel => exact ⟨j + 1, by omega, by go_num, H3.out, HGR.out.trans (show World.grownBy wr w3 (some b) from ⟨G3.out.os, G3.out.tape, G3.out.output, G3.out.size, G3.out.block⟩)⟩
          case measure => simp [intOf]; omega
        · have hj' : ps.length ≤ j := by omega
          rw [List.drop_eq_nil_of_le hj'] at hrd
          have HRD := Lib.hid (show Rdr wr b [] 0 from hrd)
          have HE : Hid (endE [] 0 = 0) := rfl
          clear hrd
          go_wp2_with (first | (go_at_call 23; refine (end_any HRD.out).mono ?_; rintro e w' ⟨rfl, rfl⟩; rw [HE.out]) | (go_at_call 22; refine (left_any HRD.out).mono ?_; rintro e w' ⟨rfl, rfl⟩))
          go_ret
          exact ⟨rfl, bg hS2 hgr hB⟩

/-! ### The row -/
set_option maxHeartbeats 400000 in
set_option maxRecDepth 100000 in
theorem lifted (os : Os) (started : os.Started) (H : Type) (enc : TypeId × Value → H) :
    ReturnsInHanded {} Try.checked os 6 .any (Rows.wireBackSpec.pre6 enc Try.prog Try.f6 Rows.wireBackRow.domain false) (Rows.wireBackSpec.post enc Try.prog Try.f6 false true false false) := by
  refine returnsInHanded_of_change (C := Try.checked) own started (by kernel_rfl) Try.func6
    (ChangeSpec.witness6 (enc := enc) (C := Try.checked) false ⟨#[], #[.slice none 0 0, .slice none 0 0], []⟩ 8 (by kernel_rfl) (by kernel_rfl) (by kernel_rfl) (by kernel_rfl)) ?_
  intro W base args ds gs before hval0 hW hcnd _
  have hval : ∀ (j : Nat) t v, Try.f6.params[j]? = some t → args[j]? = some v → Value.okWide Try.prog W .any base t v := hval0
  have hW' := hW
  obtain ⟨p, q, hA0, hV, rfl, _, _⟩ := hW
  have hA : DataW.TrodAll enc Try.prog W 0 (fun _ => true) true Try.f6.params.toList args.toList ds p := hA0
  rw [Try.params6] at hA hval
  obtain ⟨v0, vs0, d0, ds0, p0, q0, hargs, rfl, rfl, h0, r0⟩ := trodAll_cons hA
  obtain ⟨v1, vs1, d1, ds1, p1, q1, rfl, rfl, rfl, h1, r1⟩ := trodAll_cons r0
  obtain ⟨rfl, rfl, rfl⟩ := trodAll_nil r1
  obtain rfl : args = #[v0, v1] := by cases args; simp_all
  obtain ⟨rfl, rfl⟩ := trodVars_none hV
  obtain ⟨A0, n0, c0, z0, rfl, hn0, hc0, hr0⟩ := open_numbers (hval 0 31 v0 rfl rfl) h0
  obtain ⟨A1, n1, c1, z1, rfl, hn1, hc1, hr1⟩ := open_numbers (hval 1 31 v1 rfl rfl) h1
  clear hA0 hval0
  refine (walk hr0 hr1).mono fun e W' ⟨he, hb⟩ => ?_
  subst he
  exact ⟨_, rfl, post_true hW' rfl rfl (by kernel_rfl) rfl hb⟩

theorem over : Rows.wireBackRow.holds Try.pinned (OpenSpec.ofChange Rows.wireBackSpec) :=
  OpenClaim.holds_of_wide 6 Try.f6 rfl rfl rfl rfl rfl rfl rfl ⟨rfl, rfl, rfl, rfl, rfl⟩ rfl rfl rfl rfl rfl (by kernel_rfl) Try.func6 (by kernel_rfl)
    (of_decide_eq_true (by kernel_rfl)) (by unfold Func.isWrapper; first | (rw [if_pos (by decide +kernel)]; kernel_rfl) | (rw [if_neg (by decide +kernel)]; exact ⟨rfl, rfl⟩))
    (fun os started H enc _ => lifted os started H enc)
end Go.Proofs.Ytdiiengjboeboaa.wireBack
namespace Go.Proofs.Ytdiiengjboeboaa
theorem wireBack_holds : Rows.WireBackSaid := wireBack.over
#print axioms wireBack_holds
end Go.Proofs.Ytdiiengjboeboaa
