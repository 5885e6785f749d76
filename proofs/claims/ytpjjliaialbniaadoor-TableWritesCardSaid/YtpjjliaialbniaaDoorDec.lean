/- table.Decode: the config of any bytes. -/
import Derived.Test.YtpjjliaialbniaaDoorPR8
import Derived.Test.YtpjjliaialbniaaDoorLiv
import Derived.Deep.DeepCutAuto
import Derived.Deep.CutRange
import Derived.Deep.CutBlock
namespace Go.Proofs.YtpjjliaialbniaaDoor.T
open Go.RowKit Go.Proofs.YtpjjliaialbniaaDoor.G Go.Proofs.YtpjjliaialbniaaDoor.C04

def opE (l : List UInt8) : Int := if W.openE l = 0 then (if (W.openL l).length < 2 then 9 else if W.nxV (W.openL l) 0 1 = 231 ∧ W.nxV (rl [1] (W.openL l) 0) (re [1] (W.openL l) 0) 1 = 1 then 0 else 8) else W.openE l
def OpPost (w : World) (l : List UInt8) (e : Ending) (w' : World) : Prop := Below w.heap.size w w' ∧ ((opE l ≠ 0 ∧ e = .returned (.tuple #[.pointer none, .int .i64 (opE l)])) ∨ (opE l = 0 ∧ ∃ br, e = .returned (.tuple #[.pointer (some ⟨br, 0, none⟩), .int .i64 0]) ∧ w.heap.size ≤ br ∧ W.Rdr w' br (rl [1, 1] (W.openL l) 0) (re [1, 1] (W.openL l) 0)))
set_option maxHeartbeats 2000000 in
set_option maxRecDepth 100000 in
theorem open_rd {w : World} {A : Option Addr} {c : Nat} {l : List UInt8} (hr : W.Rd w A l) (hl : l.length ≤ 2048) (hc : l.length ≤ c) : Calls Tryd.prog 25 #[.slice A l.length c] w (OpPost w l) := by
  have HK := Lib.hid (W.open_any hr hl hc)
  obtain ⟨e0, he0⟩ : ∃ x, W.openE l = x := ⟨_, rfl⟩
  obtain ⟨p, hp⟩ : ∃ x, W.openL l = x := ⟨_, rfl⟩
  have hpl : p.length ≤ 2048 := by rw [← hp]; exact Nat.le_trans (W.openL_length l) hl
  have HE := Lib.hid (And.intro he0 hp)
  clear hr he0 hp
  by_cases h0 : e0 = 0
  · subst h0
    by_cases h2 : p.length < 2
    · have HO : Hid (opE l = 9) := by show opE l = 9; rw [opE, HE.out.1, HE.out.2, if_pos rfl, if_pos h2]
      have t2 : (p.length : Int) < 2 := by omega
      go_enter Tryd.func25, Tryd.ntmps25
      go_wp2_with (first
        | (go_at_call 51; refine HK.out.mono ?_; rintro e w1 ⟨x1, rfl, hx1, hb1⟩; rw [HE.out.1]; rw [HE.out.2] at hx1; obtain ⟨A1, c1, rfl, hr1, _, _, _⟩ := hx1.rd; have HR1 := Lib.hid hr1; clear hr1 hx1)
        | (go_at_call 52; (with_reducible refine (W.read_any HR1.out (Nat.le_trans hpl (by omega))).mono ?_); rintro e w2 ⟨br, rfl, hbr, hrd, hb2⟩; have HRD := Lib.hid hrd; clear hrd)
        | (go_at_call 53; (with_reducible refine (W.left_any HRD.out).mono ?_); rintro e w' ⟨rfl, rfl⟩))
      go_ret2
      exact ⟨bt hb1 hb2, .inl ⟨by rw [HO.out]; decide, by rw [HO.out]; rfl⟩⟩
    · have t2 : ¬ (p.length : Int) < 2 := by omega
      obtain ⟨y0, hy0⟩ : ∃ y, W.nxV p 0 1 = y := ⟨_, rfl⟩
      obtain ⟨y1, hy1⟩ : ∃ y, W.nxV (rl [1] p 0) (re [1] p 0) 1 = y := ⟨_, rfl⟩
      have HO : Hid (opE l = if y0 = 231 ∧ y1 = 1 then 0 else 8) := by show opE l = _; rw [opE, HE.out.1, HE.out.2, if_pos rfl, if_neg h2, hy0, hy1]
      have HY := Lib.hid (And.intro hy0 hy1)
      clear hy0 hy1
      go_enter Tryd.func25, Tryd.ntmps25
      go_upto_region 7 with (first
        | (go_at_call 51; refine HK.out.mono ?_; rintro e w1 ⟨x1, rfl, hx1, hb1⟩; rw [HE.out.1]; rw [HE.out.2] at hx1; obtain ⟨A1, c1, rfl, hr1, _, _, _⟩ := hx1.rd; have HR1 := Lib.hid hr1; clear hr1 hx1)
        | (go_at_call 52; (with_reducible refine (W.read_any HR1.out (Nat.le_trans hpl (by omega))).mono ?_); rintro e w2 ⟨br, rfl, hbr, hrd, hb2⟩; have HRD := Lib.hid hrd; clear hrd)
        | (go_at_call 53; (with_reducible refine (W.left_any HRD.out).mono ?_); rintro e w' ⟨rfl, rfl⟩))
      have HBB : Below w.heap.size w w2 := bt hb1 hb2
      have hbw : w.heap.size ≤ br := Nat.le_trans hb1.size hbr
      by_cases c0 : y0 = 231
      · subst c0
        by_cases c1' : y1 = 1
        · subst c1'
          go_wp2_with (first
            | (go_at_call 27; (with_reducible refine (W.next_any HRD.out (Nat.le_trans hpl (by omega)) 1).mono ?_); rintro r w3 ⟨rfl, hr3, hg3⟩; rw [HY.out.1]; have HR3 := Lib.hid hr3; have hl3 := Nat.le_trans (W.nxL_length p 0 1) hpl; clear hr3 HRD)
            | (go_at_call 27; (with_reducible refine (W.next_any HR3.out (Nat.le_trans hl3 (by omega)) 1).mono ?_); rintro r w4 ⟨rfl, hr4, hg4⟩; have hv : W.nxV (W.nxL p 0 1) (W.nxE p 0 1) 1 = 1 := HY.out.2; rw [hv]; have HR4 := Lib.hid hr4; clear hr4))
          go_ret2
          refine ⟨gbelow (gbelow HBB hg3 hbw) hg4 hbw, .inr ⟨by rw [HO.out]; simp, br, rfl, hbw, ?_⟩⟩
          rw [HE.out.2]; exact HR4.out
        · have t1 : (y1 != 1) = true := by simpa using c1'
          have HC := Lib.hid c1'
          clear c1'
          go_wp2_with (first
            | (go_at_call 27; (with_reducible refine (W.next_any HRD.out (Nat.le_trans hpl (by omega)) 1).mono ?_); rintro r w3 ⟨rfl, hr3, hg3⟩; rw [HY.out.1]; have HR3 := Lib.hid hr3; have hl3 := Nat.le_trans (W.nxL_length p 0 1) hpl; clear hr3 HRD)
            | (go_at_call 27; (with_reducible refine (W.next_any HR3.out (Nat.le_trans hl3 (by omega)) 1).mono ?_); rintro r w4 ⟨rfl, hr4, hg4⟩; have hv : W.nxV (W.nxL p 0 1) (W.nxE p 0 1) 1 = y1 := HY.out.2; rw [hv]; clear hr4))
          go_ret2
          have ho : opE l = 8 := by rw [HO.out, if_neg (fun h => HC.out h.2)]
          exact ⟨gbelow (gbelow HBB hg3 hbw) hg4 hbw, .inl ⟨by rw [ho]; decide, by rw [ho]; rfl⟩⟩
      · have t1 : (y0 != 231) = true := by simpa using c0
        have HC := Lib.hid c0
        clear c0
        go_wp2_with (go_at_call 27; (with_reducible refine (W.next_any HRD.out (Nat.le_trans hpl (by omega)) 1).mono ?_); rintro r w3 ⟨rfl, hr3, hg3⟩; rw [HY.out.1]; clear hr3)
        go_ret2
        have ho : opE l = 8 := by rw [HO.out, if_neg (fun h => HC.out h.1)]
        exact ⟨gbelow HBB hg3 hbw, .inl ⟨by rw [ho]; decide, by rw [ho]; rfl⟩⟩
  · have HO : Hid (opE l = e0) := by show opE l = e0; rw [opE, HE.out.1, if_neg h0]
    have t0 : (e0 != 0) = true := by simpa using h0
    have HN := Lib.hid h0
    clear h0
    go_enter Tryd.func25, Tryd.ntmps25
    go_wp2_with (go_at_call 51; refine HK.out.mono ?_; rintro e w1 ⟨x1, rfl, hx1, hb1⟩; rw [HE.out.1]; clear hx1)
    go_ret2
    exact ⟨hb1, .inl ⟨by rw [HO.out]; exact HN.out, by rw [HO.out]; rfl⟩⟩
end Go.Proofs.YtpjjliaialbniaaDoor.T
