/- Messages, compared: two lists, by the program's own Same and by the document's: contracts. -/
import Derived.Test.YtmfkapbllmfegaaQEq
namespace Go.Proofs.Ytmfkapbllmfegaa.L10
open Go.RowKit Go.Proofs.Ytmfkapbllmfegaa.G Go.Sort
set_option maxRecDepth 100000
variable {w w' : World} {b L P : Nat} {r : Value} {d : List MV}
set_option maxHeartbeats 4000000 in
theorem rsame_any {A B : Option Addr} {c d : Nat} {l r : List MV} (ha : Row w A (mvs l)) (hb : Row w B (mvs r)) (wl : WsR w l) (wr' : WsR w r) (hc : l.length ≤ 1000) (hd : r.length ≤ 1000) :
    Calls Try.prog 17 #[.slice A l.length c, .slice B r.length d] w (SmPost (sames l r) w) := by
  have mixed : Try.prog.follows .mixedOrders = true := by kernel_rfl
  obtain ⟨z, hz⟩ : ∃ z, sames l r = z := ⟨_, rfl⟩
  have HZ := Lib.hid hz
  rw [hz]
  clear hz
  have HA := Lib.hid (And.intro ha wl)
  have HB := Lib.hid (And.intro hb wr')
  clear ha hb wl wr'
  by_cases hl : l.length = r.length
  · have HL := Lib.hid hl
    have t0 : ((l.length : Int) != (r.length : Int)) = false := by rw [bne_eq_false_iff_eq]; omega
    clear hl
    go_enter Try.func17, Try.ntmps17
    go_wp2_with fail
    go_loopw [5] (fun i V => InvS w l r i V) (fun i _ => l.length - (intOf i).toNat)
    case atStart => exact ⟨0, rfl, by omega, rfl, Below.refl _ _⟩
    case round =>
      obtain ⟨k, rfl, hk, ht, hw⟩ := hrel
      have HT := Lib.hid ht
      have HW := Lib.hid hw
      clear ht hw
      by_cases hlt : k < l.length
      · have hlt2 : k < r.length := by rw [← HL.out]; exact hlt
        obtain ⟨x, hx⟩ : ∃ x, l[k]? = some x := ⟨_, List.getElem?_eq_getElem hlt⟩
        obtain ⟨y, hy⟩ : ∃ y, r[k]? = some y := ⟨_, List.getElem?_eq_getElem hlt2⟩
        obtain ⟨b1, o1, rfl, _, _⟩ := row_msg (HA.out.1.below HW.out) hx
        obtain ⟨b2, o2, rfl, _, _⟩ := row_msg (HB.out.1.below HW.out) hy
        have G1 : ∀ n os, MsgAt (grow (wr.drewN n) os) b1 (o1 + k * 5) x := fun n os => by
          obtain ⟨b', o', e, _, hm⟩ := row_msg ((HA.out.1.below HW.out).below (below_grow wr n os)) hx
          injection e with e
          injection e with e1 e2
          subst e1 e2
          exact hm
        have G2 : ∀ n os, MsgAt (grow (wr.drewN n) os) b2 (o2 + k * 5) y := fun n os => by
          obtain ⟨b', o', e, _, hm⟩ := row_msg ((HB.out.1.below HW.out).below (below_grow wr n os)) hy
          injection e with e
          injection e with e1 e2
          subst e1 e2
          exact hm
        have x0 := fun n os => (G1 n os).1
        have x1 := fun n os => (G1 n os).2.1
        have x2 := fun n os => (G1 n os).2.2.1
        have x3 := fun n os => (G1 n os).2.2.2.1
        have x4 := fun n os => (G1 n os).2.2.2.2
        have y0 := fun n os => (G2 n os).1
        have y1 := fun n os => (G2 n os).2.1
        have y2 := fun n os => (G2 n os).2.2.1
        have y3 := fun n os => (G2 n os).2.2.2.1
        have y4 := fun n os => (G2 n os).2.2.2.2
        have CC : Hid (∀ n os, Calls Try.prog 13 #[x.val, y.val] (grow (wr.drewN n) os) fun e w'' => e = .returned (.bool (one x y)) ∧ ∃ p : GrownBy, w'' = grow (wr.drewN p.n) p.os) := fun n os =>
          Calls.grown_of (one_any (((HA.out.2 x (List.mem_of_getElem? hx)).below HW.out).below (below_grow wr n os)) (((HB.out.2 y (List.mem_of_getElem? hy)).below HW.out).below (below_grow wr n os)))
        have HX := Lib.hid (And.intro hx hy)
        have hkr : (k : Int) < (r.length : Int) := by omega
        have f0 : (0 : Int) ≤ (k : Int) := by omega
        unfold MV.val at CC
        obtain ⟨u, hu⟩ : ∃ u, one x y = u := ⟨_, rfl⟩
        rw [hu] at CC
        have HU := Lib.hid hu
        clear hu hx hy G1 G2 hlt2
        go_wp2_with fail
        go_quiet_grown (first | (go_at_call 13; exact CC.out _ _))
        cases u with
        | true =>
          go_wp2_with fail
          go_roundw
          case rel => exact ⟨k + 1, by go_num, by omega, take_pl HT.out HX.out.1 HX.out.2 HU.out, bt HW.out (below_grow wr nq osq)⟩
          case measure => simp [intOf] <;> omega
        | false =>
          have ez : false = z := by rw [← HZ.out]; exact (sames_no HX.out.1 HX.out.2 HU.out).symm
          subst ez
          go_wp2_with fail
          go_ret
          exact ⟨rfl, bt HW.out (below_grow wr nq osq)⟩
      · have ez : true = z := by rw [← HZ.out]; exact (sames_all HL.out (by have h1 := HT.out; rw [show k = l.length by omega] at h1; exact h1)).symm
        subst ez
        have hkz : ¬ (k : Int) < l.length := by omega
        go_wp2_with fail
        go_ret
        exact ⟨rfl, HW.out⟩
  · have ez : false = z := by rw [← HZ.out]; exact (sames_len hl).symm
    subst ez
    have t0 : ((l.length : Int) != (r.length : Int)) = true := by rw [bne_iff_ne]; omega
    clear hl
    go_enter Try.func17, Try.ntmps17
    go_wp2_with fail
    go_ret
    exact ⟨rfl, Below.refl _ _⟩
end Go.Proofs.Ytmfkapbllmfegaa.L10
