/- The document's own Same of numbers and of configs: contracts against the same plain functions as the program's calls. -/
import Derived.Test.YtfbbgoahipejlabDoorEqA
namespace Go.Proofs.YtfbbgoahipejlabDoor.C04
open Go.RowKit Go.Proofs.YtfbbgoahipejlabDoor.G

set_option maxHeartbeats 2000000 in
theorem rsame_any {w : World} {u v : Value} {a b : Cfg} (ha : CfgAt w u a) (hb : CfgAt w v b) : Calls Tryd.prog 11 #[u, v] w (BoolPost (sam a b) w) := by
  obtain ⟨A1, A2, A3, c1, c2, c3, rfl, h1, h2, h3, l1, m1, l2, m2, l3, m3, _⟩ := ha
  obtain ⟨B1, B2, B3, d1, d2, d3, rfl, i1, i2, i3, j1, k1, j2, k2, j3, k3, _⟩ := hb
  have HW1 := Lib.hid h1
  have HW2 := Lib.hid i1
  have HC1 := Lib.hid h2
  have HC2 := Lib.hid i2
  have E3 : Hid (∀ W, Below w.heap.size w W → Calls Tryd.prog 24 #[.slice A3 a.ac.length c3, .slice B3 b.ac.length d3] W (QPost (eqb a.ac b.ac) W)) := fun W h => rsame1_any (h3.below h) (i3.below h) (by omega) (by omega)
  clear h1 h2 h3 i1 i2 i3
  have HB : Below w.heap.size w ((w.alloc (.cells #[.int .i64 a.P, .int .i64 a.F, .slice A1 a.ws.length c1, .slice A2 a.cs.length c2, .slice A3 a.ac.length c3] 30)).alloc (.cells #[.int .i64 b.P, .int .i64 b.F, .slice B1 b.ws.length d1, .slice B2 b.cs.length d2, .slice B3 b.ac.length d3] 30)) := ba1 (b01 _ _) _
  have X0 := Lib.hid ((Blk.new w 30 #[.int .i64 a.P, .int .i64 a.F, .slice A1 a.ws.length c1, .slice A2 a.cs.length c2, .slice A3 a.ac.length c3]).alloc (.cells #[.int .i64 b.P, .int .i64 b.F, .slice B1 b.ws.length d1, .slice B2 b.cs.length d2, .slice B3 b.ac.length d3] 30))
  have X1 := Lib.hid (Blk.new_at (w := w.alloc (.cells #[.int .i64 a.P, .int .i64 a.F, .slice A1 a.ws.length c1, .slice A2 a.cs.length c2, .slice A3 a.ac.length c3] 30)) (n := w.heap.size + 1) (by simp) 30 #[.int .i64 b.P, .int .i64 b.F, .slice B1 b.ws.length d1, .slice B2 b.cs.length d2, .slice B3 b.ac.length d3])
  by_cases hP : a.P = b.P
  · have t0 : (a.P != b.P) = false := by simpa using hP
    have HP := Lib.hid hP; clear hP
    by_cases hF : a.F = b.F
    · have t1 : (a.F != b.F) = false := by simpa using hF
      have HF := Lib.hid hF; clear hF
      by_cases hw : a.ws.length = b.ws.length
      · have t2 : ((a.ws.length : Int) != (b.ws.length : Int)) = false := by rw [bne_eq_false_iff_eq]; omega
        have LW := Lib.hid hw; clear hw
        by_cases hc : a.cs.length = b.cs.length
        · have t3 : ((a.cs.length : Int) != (b.cs.length : Int)) = false := by rw [bne_eq_false_iff_eq]; omega
          have LC := Lib.hid hc; clear hc
          by_cases hi : eqb a.ac b.ac = true
          · have HI := Lib.hid hi
            go_enter Tryd.func11, Tryd.ntmps11
            go_wp2_with (go_at_call 24; refine (E3.out _ HB).mono ?_; rintro e w1 ⟨rfl, n3, rfl⟩; rw [HI.out])
            clear hi t0 t1 t2 t3
            go_loopw [5] (fun i wr => InvE ((w.alloc (.cells #[.int .i64 a.P, .int .i64 a.F, .slice A1 a.ws.length c1, .slice A2 a.cs.length c2, .slice A3 a.ac.length c3] 30)).alloc (.cells #[.int .i64 b.P, .int .i64 b.F, .slice B1 b.ws.length d1, .slice B2 b.cs.length d2, .slice B3 b.ac.length d3] 30)) a.ws b.ws i wr) (fun i _ => a.ws.length - (intOf i).toNat)
            case atStart => exact ⟨0, n3, rfl, by omega, rfl, rfl⟩
            case round =>
              obtain ⟨k, m, rfl, hk, ht, hw⟩ := hrel
              have HT := Lib.hid ht
              have HW := Lib.hid hw
              clear ht hw
              have q0 : ∀ i, wr.cell? ⟨w.heap.size, i, none⟩ = (#[.int .i64 a.P, .int .i64 a.F, .slice A1 a.ws.length c1, .slice A2 a.cs.length c2, .slice A3 a.ac.length c3] : Array Value)[i]? := by rw [HW.out]; exact X0.out.cell
              have q1 : ∀ i, wr.cell? ⟨w.heap.size + 1, i, none⟩ = (#[.int .i64 b.P, .int .i64 b.F, .slice B1 b.ws.length d1, .slice B2 b.cs.length d2, .slice B3 b.ac.length d3] : Array Value)[i]? := by rw [HW.out]; exact X1.out.cell
              have hbw : Below w.heap.size w wr := by rw [HW.out]; exact bn HB m
              by_cases hlt : k < a.ws.length
              · obtain ⟨x, hx, _⟩ := drop_cons hlt
                obtain ⟨y, hy, _⟩ := drop_cons (l := b.ws) (k := k) (by rw [← LW.out]; exact hlt)
                obtain ⟨b1, o1, rfl, _, g0, g1, g2⟩ := row_win (HW1.out.below hbw) hx
                obtain ⟨b2, o2, rfl, _, i0, i1, i2⟩ := row_win (HW2.out.below hbw) hy
                have HX := Lib.hid hx
                have HY := Lib.hid hy
                have hr : (k : Int) < (b.ws.length : Int) := by have := LW.out; omega
                have f0 : (0 : Int) ≤ (k : Int) := by omega
                clear hx hy
                by_cases hxy : x = y
                · have t1 : ∀ W, (binOp .neq 89 x.val y.val).run Tryd.prog W = .ok (.bool false) W := fun W => by rw [run_neqw, decide_eq_true hxy]; rfl
                  have HN := Lib.hid hxy; clear hxy
                  unfold Win.val at t1
                  go_wp2
                  go_quiet (fail)
                  go_wp2
                  go_roundw
                  case rel => exact ⟨k + 1, m + nq, by go_num, by omega, drop_eq hlt LW.out HT.out HX.out HY.out HN.out, by rw [HW.out, World.drewN_drewN]⟩
                  case measure => simp [intOf]; omega
                · have t1 : ∀ W, (binOp .neq 89 x.val y.val).run Tryd.prog W = .ok (.bool true) W := fun W => by rw [run_neqw, decide_eq_false hxy]; rfl
                  unfold Win.val at t1
                  have HN := Lib.hid hxy; clear hxy
                  go_wp2
                  go_quiet (fail)
                  go_wp2
                  go_ret
                  have hne : ¬ a.ws = b.ws := by
                    intro e
                    have h1 := HX.out; rw [e, HY.out] at h1
                    exact HN.out (Option.some.inj h1).symm
                  refine ⟨?_, bn hbw _⟩
                  have hs : sam a b = false := by simp [sam, eqb, hne]
                  rw [hs]; rfl
              · have HE : Hid (a.ws = b.ws) := by
                  show a.ws = b.ws
                  have h1 := HT.out
                  rwa [List.take_of_length_le (by omega), List.take_of_length_le (by have := LW.out; omega)] at h1
            
            
                have HE1 := HE
                clear HE HT
                go_wp2
                go_loopw [6] (fun i wr => InvE ((w.alloc (.cells #[.int .i64 a.P, .int .i64 a.F, .slice A1 a.ws.length c1, .slice A2 a.cs.length c2, .slice A3 a.ac.length c3] 30)).alloc (.cells #[.int .i64 b.P, .int .i64 b.F, .slice B1 b.ws.length d1, .slice B2 b.cs.length d2, .slice B3 b.ac.length d3] 30)) a.cs b.cs i wr) (fun i _ => a.cs.length - (intOf i).toNat)
                case atStart => exact ⟨0, m, rfl, by omega, rfl, HW.out⟩
                case round =>
                  obtain ⟨k9, m9, rfl, hk, ht, hw⟩ := hrel
                  have HT := Lib.hid ht
                  have HW := Lib.hid hw
                  clear ht hw
                  have q0 : ∀ i, wr.cell? ⟨w.heap.size, i, none⟩ = (#[.int .i64 a.P, .int .i64 a.F, .slice A1 a.ws.length c1, .slice A2 a.cs.length c2, .slice A3 a.ac.length c3] : Array Value)[i]? := by rw [HW.out]; exact X0.out.cell
                  have q1 : ∀ i, wr.cell? ⟨w.heap.size + 1, i, none⟩ = (#[.int .i64 b.P, .int .i64 b.F, .slice B1 b.ws.length d1, .slice B2 b.cs.length d2, .slice B3 b.ac.length d3] : Array Value)[i]? := by rw [HW.out]; exact X1.out.cell
                  have hbw : Below w.heap.size w wr := by rw [HW.out]; exact bn HB m9
                  by_cases hlt : k9 < a.cs.length
                  · obtain ⟨x, hx, _⟩ := drop_cons hlt
                    obtain ⟨y, hy, _⟩ := drop_cons (l := b.cs) (k := k9) (by rw [← LC.out]; exact hlt)
                    obtain ⟨b1, o1, rfl, _, g0, g1, g2, g3, g4, g5, g6, g7, g8, g9, g10⟩ := row_chn (HC1.out.below hbw) hx
                    obtain ⟨b2, o2, rfl, _, i0, i1, i2, i3, i4, i5, i6, i7, i8, i9, i10⟩ := row_chn (HC2.out.below hbw) hy
                    have HX := Lib.hid hx
                    have HY := Lib.hid hy
                    have hr : (k9 : Int) < (b.cs.length : Int) := by have := LC.out; omega
                    have f0 : (0 : Int) ≤ (k9 : Int) := by omega
                    clear hx hy
                    by_cases hxy : x = y
                    · have t1 : ∀ W, (binOp .neq 118 x.val y.val).run Tryd.prog W = .ok (.bool false) W := fun W => by rw [run_neqc, decide_eq_true hxy]; rfl
                      have HN := Lib.hid hxy; clear hxy
                      unfold Chn.val at t1
                      go_wp2
                      go_quiet (fail)
                      go_wp2
                      go_roundw
                      case rel => exact ⟨k9 + 1, m9 + nq, by go_num, by omega, drop_eq hlt LC.out HT.out HX.out HY.out HN.out, by rw [HW.out, World.drewN_drewN]⟩
                      case measure => simp [intOf]; omega
                    · have t1 : ∀ W, (binOp .neq 118 x.val y.val).run Tryd.prog W = .ok (.bool true) W := fun W => by rw [run_neqc, decide_eq_false hxy]; rfl
                      unfold Chn.val at t1
                      have HN := Lib.hid hxy; clear hxy
                      go_wp2
                      go_quiet (fail)
                      go_wp2
                      go_ret
                      have hne : ¬ a.cs = b.cs := by
                        intro e
                        have h1 := HX.out; rw [e, HY.out] at h1
                        exact HN.out (Option.some.inj h1).symm
                      refine ⟨?_, bn hbw _⟩
                      have hs : sam a b = false := by simp [sam, eqb, hne]
                      rw [hs]; rfl
                  · have HE : Hid (a.cs = b.cs) := by
                      show a.cs = b.cs
                      have h1 := HT.out
                      rwa [List.take_of_length_le (by omega), List.take_of_length_le (by have := LC.out; omega)] at h1
                
                
                    go_wp2
                    go_ret
                    refine ⟨?_, hbw⟩
                    have hs : sam a b = true := by simp [sam, eqb, HP.out, HF.out, HE1.out, HE.out, HI.out]; simpa [eqb] using HI.out
                    rw [hs]; rfl
          · have HS : Hid (sam a b = false) := by show sam a b = false; simp [sam, hi]
            have HI : Hid (eqb a.ac b.ac = false) := by show eqb a.ac b.ac = false; simpa using hi
            clear hi
            go_enter Tryd.func11, Tryd.ntmps11
            go_wp2_with (go_at_call 24; refine (E3.out _ HB).mono ?_; rintro e w1 ⟨rfl, n3, rfl⟩; rw [HI.out])
            go_ret
            exact ⟨by rw [HS.out]; rfl, bn HB _⟩
        · have hne : ¬ a.cs = b.cs := fun e => hc (by rw [e])
          have t3 : ((a.cs.length : Int) != (b.cs.length : Int)) = true := by rw [bne_iff_ne]; omega
          have HS : Hid (sam a b = false) := by show sam a b = false; simp [sam, eqb, hne]
          clear hne hc
          go_enter Tryd.func11, Tryd.ntmps11
          go_wp2_with (go_at_call 24; refine (E3.out _ HB).mono ?_; rintro e w1 ⟨rfl, n3, rfl⟩)
          go_ret
          exact ⟨by rw [HS.out]; rfl, by first | exact HB | exact bn HB _⟩
      · have hne : ¬ a.ws = b.ws := fun e => hw (by rw [e])
        have t2 : ((a.ws.length : Int) != (b.ws.length : Int)) = true := by rw [bne_iff_ne]; omega
        have HS : Hid (sam a b = false) := by show sam a b = false; simp [sam, eqb, hne]
        clear hne hw
        go_enter Tryd.func11, Tryd.ntmps11
        go_wp2_with (go_at_call 24; refine (E3.out _ HB).mono ?_; rintro e w1 ⟨rfl, n3, rfl⟩)
        go_ret
        exact ⟨by rw [HS.out]; rfl, by first | exact HB | exact bn HB _⟩
    · have t1 : (a.F != b.F) = true := by simpa using hF
      have HS : Hid (sam a b = false) := by show sam a b = false; simp [sam, eqb, hF]
      clear hF
      go_enter Tryd.func11, Tryd.ntmps11
      go_wp2_with (go_at_call 24; refine (E3.out _ HB).mono ?_; rintro e w1 ⟨rfl, n3, rfl⟩)
      go_ret
      exact ⟨by rw [HS.out]; rfl, by first | exact HB | exact bn HB _⟩
  · have t0 : (a.P != b.P) = true := by simpa using hP
    have HS : Hid (sam a b = false) := by show sam a b = false; simp [sam, eqb, hP]
    clear hP
    go_enter Tryd.func11, Tryd.ntmps11
    go_wp2_with (go_at_call 24; refine (E3.out _ HB).mono ?_; rintro e w1 ⟨rfl, n3, rfl⟩)
    go_ret
    exact ⟨by rw [HS.out]; rfl, by first | exact HB | exact bn HB _⟩
end Go.Proofs.YtfbbgoahipejlabDoor.C04
