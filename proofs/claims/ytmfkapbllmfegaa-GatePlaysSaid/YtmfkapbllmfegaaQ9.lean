/- Sorting messages: slices' insertion sort: a contract. -/
import Derived.Test.YtmfkapbllmfegaaQ8
namespace Go.Proofs.Ytmfkapbllmfegaa.L10
open Go.RowKit Go.Proofs.Ytmfkapbllmfegaa.G Go.Sort
set_option maxRecDepth 100000
variable {w0 w W : World} {g n c q : Nat} {s : Nat → MV}

def FLane : Array Value := #[.func (.func 73) #[] #[]]
/-- A message of the row, in every world behind that draws and makes new memory alone. -/
theorem Sv.gat (h : Sv w0 g n c s W) {k : Nat} (hk : k < n) (m : Nat) (os : Array Obj) : MsgAt (grow (W.drewN m) os) g (k * 5) (s k) := (h.below (below_grow W m os)).at_ hk
theorem Sv.fn (h : Sv w0 g n c s W) (hq : Blk w0 q 108 FLane) (hg : q ≠ g) : Blk W q 108 FLane := h.on.blk hq hg
theorem Sv.gw (h : Sv w0 g n c s W) (m : Nat) (os : Array Obj) : Sv w0 g n c s (grow (W.drewN m) os) := h.below (below_grow W m os)
theorem Sv.cmp (h : Sv w0 g n c s W) (hq : Blk w0 q 108 FLane) (hg : q ≠ g) (x y : MV) (m : Nat) (os : Array Obj) : Calls Try.prog 77 #[x.val, y.val, .pointer (some ⟨q, 0, none⟩)] (grow (W.drewN m) os) fun e w'' => e = .returned (.int .i64 (cmpI x.ln y.ln)) ∧ ∃ p : GrownBy, w'' = grow (W.drewN p.n) p.os :=
  Calls.grown_of (by_any x y ((h.gw m os).fn hq hg))
theorem cmp_dec {x y : MV} {r : Bool} (h : ltM x y = r) : decide (cmpI x.ln y.ln < 0) = r := by rw [cmpI_lt]; exact h
theorem insIn_go {α : Type} {lt : α → α → Bool} {a j : Nat} {s : Nat → α} (h : a < j + 1) (hl : lt (s (j + 1)) (s j) = true) : insIn lt a (j + 1) s = insIn lt a j (sw (j + 1) j s) := by
  rw [insIn, if_pos ⟨h, hl⟩]
theorem insIn_no {α : Type} {lt : α → α → Bool} {a j : Nat} {s : Nat → α} (hl : lt (s (j + 1)) (s j) = false) : insIn lt a (j + 1) s = s := by
  rw [insIn, if_neg (fun h => by rw [hl] at h; exact absurd h.2 (by simp))]
theorem insIn_end {α : Type} {lt : α → α → Bool} {a j : Nat} {s : Nat → α} (h : j ≤ a) : insIn lt a j s = s := by
  cases j with
  | zero => rfl
  | succ j => rw [insIn, if_neg (fun hh => by have := hh.1; omega)]
theorem insOut_go {α : Type} {lt : α → α → Bool} {a b i : Nat} {s : Nat → α} (h : i < b) : insOut lt a (b - i) i s = insOut lt a (b - (i + 1)) (i + 1) (insIn lt a i s) := by
  rw [show b - i = (b - (i + 1)) + 1 by omega, insOut]
set_option maxHeartbeats 4000000 in
theorem ins_any (h : Sv w0 g n c s w) (hq : Blk w0 q 108 FLane) (hg : q ≠ g) (a b : Nat) (hb : b ≤ n) (ha : a ≤ 1000) (hn : n ≤ 1000) :
    Calls Try.prog 81 #[.slice (some ⟨g, 0, none⟩) n c, .int .i64 a, .int .i64 b, .func (.func 77) #[] #[.pointer (some ⟨q, 0, none⟩)]] w fun e w' => e = .returned (.tuple #[]) ∧ Sv w0 g n c (insS ltM a b s) w' := by
  have mixed : Try.prog.follows .mixedOrders = true := by kernel_rfl
  have HS := Lib.hid h
  have HQ := Lib.hid (And.intro hq hg)
  clear h hq hg
  go_enter Try.func81, Try.ntmps81
  go_wp2_with fail
  go_loopw [8] (fun v V => ∃ (i : Nat) (s1 : Nat → MV), v = .int .i64 i ∧ a + 1 ≤ i ∧ (i ≤ b ∨ i = a + 1) ∧ Sv w0 g n c s1 V ∧ insOut ltM a (b - i) i s1 = insS ltM a b s) (fun v _ => b - (intOf v).toNat)
  case atStart => exact ⟨a + 1, s, by go_num, by omega, .inr rfl, HS.out, rfl⟩
  case round =>
    obtain ⟨i, s1, rfl, hi1, hi2, hs1, ho1⟩ := hrel
    have HO1 := Lib.hid ho1
    have HS1 := Lib.hid hs1
    clear ho1 hs1 HS
    by_cases hlt : i < b
    · have hltz : (i : Int) < b := by omega
      go_wp2_with fail
      go_loopw [9] (fun v V => ∃ (j : Nat) (s2 : Nat → MV), v = .int .i64 j ∧ a ≤ j ∧ j ≤ i ∧ Sv w0 g n c s2 V ∧ insIn ltM a j s2 = insIn ltM a i s1) (fun v _ => (intOf v).toNat)
      case atStart => exact ⟨i, s1, rfl, by omega, Nat.le_refl _, HS1.out, rfl⟩
      case round =>
        obtain ⟨j, s2, rfl, hj1, hj2, hs2, ho2⟩ := hrel
        have HO2 := Lib.hid ho2
        have HS2 := Lib.hid hs2
        clear hs2 ho2
        by_cases hja : a < j
        · obtain ⟨jp, rfl⟩ : ∃ jp, j = jp + 1 := ⟨j - 1, by omega⟩
          have hjz : (a : Int) < (jp : Int) + 1 := by omega
          have hwp : IntKind.i64.wrap (jp : Int) = (jp : Int) := by rw [IntKind.wrap_i64]; omega
          have b1 : (jp : Int) + 1 < (n : Int) := by omega
          have b2 : (jp : Int) < (n : Int) := by omega
          have p0 : (0 : Int) ≤ (jp : Int) + 1 := by omega
          have e0 : ((jp : Int) + 1).toNat = jp + 1 := by omega
          have A1 := fun m os => HS2.out.gat (k := jp + 1) (by omega) m os
          have A2 := fun m os => HS2.out.gat (k := jp) (by omega) m os
          have CC := Lib.hid (fun m os => HS2.out.cmp HQ.out.1 HQ.out.2 (s2 (jp + 1)) (s2 jp) m os)
          obtain ⟨r, hr⟩ : ∃ r, ltM (s2 (jp + 1)) (s2 jp) = r := ⟨_, rfl⟩
          have HR := Lib.hid hr
          have hd := cmp_dec hr
          unfold MV.val at CC
          obtain ⟨x, hx⟩ : ∃ x, s2 (jp + 1) = x := ⟨_, rfl⟩
          obtain ⟨y, hy⟩ : ∃ y, s2 jp = y := ⟨_, rfl⟩
          rw [hx] at A1 CC hd
          rw [hy] at A2 CC hd
          have HX := Lib.hid (And.intro hx hy)
          clear hx hy
          have x0 := fun m os => (A1 m os).1
          have x1 := fun m os => (A1 m os).2.1
          have x2 := fun m os => (A1 m os).2.2.1
          have x3 := fun m os => (A1 m os).2.2.2.1
          have x4 := fun m os => (A1 m os).2.2.2.2
          have y0 := fun m os => (A2 m os).1
          have y1 := fun m os => (A2 m os).2.1
          have y2 := fun m os => (A2 m os).2.2.1
          have y3 := fun m os => (A2 m os).2.2.2.1
          have y4 := fun m os => (A2 m os).2.2.2.2
          generalize cmpI x.ln y.ln = cv at *
          clear A1 A2 hr
          cases r with
          | true =>
            have hcv : cv < 0 := of_decide_eq_true hd
            go_wp2_with fail
            go_quiet_grown (first | (go_at_call 77; exact CC.out _ _))
            have HS3 := Lib.hid (HS2.out.gw nq osq)
            have x0' := x0 nq osq
            have x1' := x1 nq osq
            have x2' := x2 nq osq
            have x3' := x3 nq osq
            have x4' := x4 nq osq
            have y0' := y0 nq osq
            have y1' := y1 nq osq
            have y2' := y2 nq osq
            have y3' := y3 nq osq
            have y4' := y4 nq osq
            clear x0 x1 x2 x3 x4 y0 y1 y2 y3 y4
            generalize grow (wr.drewN nq) osq = W2 at *
            have z := HS3.out.frozen
            obtain ⟨o, ho⟩ : ∃ o, jp * 5 = o := ⟨_, rfl⟩
            have ho5 : (jp + 1) * 5 = o + 5 := by omega
            rw [ho5] at x0' x1' x2' x3' x4'
            rw [ho] at y0' y1' y2' y3' y4'
            have HO := Lib.hid (And.intro ho ho5)
            clear CC hd hcv
            go_wp2_with fail
            go_region
            go_wp2_with fail
            go_roundw
            case rel =>
              refine ⟨jp, sw (jp + 1) jp s2, by go_num, by omega, by omega, ?_, ?_⟩
              · have h5 := HS3.out.swap (i := jp + 1) (j := jp) (by omega) (by omega) (by omega)
                rw [HX.out.1, HX.out.2, HO.out.1, HO.out.2] at h5
                exact h5.below (bn (Below.refl _ _) 1)
              · rw [← HO2.out, insIn_go hja HR.out]
            case measure => simp [intOf] <;> omega
          | false =>
            have hcv : ¬ cv < 0 := of_decide_eq_false hd
            go_wp2_with fail
            go_quiet_grown (first | (go_at_call 77; exact CC.out _ _))
            go_wp2_with fail
            go_roundw
            case rel =>
              refine ⟨i + 1, s2, by go_num, by omega, by omega, HS2.out.gw nq osq, ?_⟩
              rw [← HO1.out, insOut_go hlt, ← HO2.out, insIn_no HR.out]
            case measure => simp [intOf] <;> omega
        · have hjaz : decide ((j : Int) > (a : Int)) = false := decide_eq_false (by omega)
          go_wp2_with fail
          go_region
          go_wp2_with fail
          go_roundw
          case rel =>
            refine ⟨i + 1, s2, by go_num, by omega, by omega, HS2.out.below (bn (Below.refl _ _) 1), ?_⟩
            rw [← HO1.out, insOut_go hlt, ← HO2.out, insIn_end (by omega)]
          case measure => simp [intOf] <;> omega
    · have hltz : ¬ (i : Int) < b := by omega
      go_wp2_with fail
      go_end0
      refine ⟨rfl, ?_⟩
      have := HO1.out
      rw [show b - i = 0 by omega] at this
      rw [← this]
      exact HS1.out
end Go.Proofs.Ytmfkapbllmfegaa.L10
