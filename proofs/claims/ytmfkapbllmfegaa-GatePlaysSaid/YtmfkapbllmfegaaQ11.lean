/- Sorting messages: slices' symMerge, where one side is one message: contracts. -/
import Derived.Test.YtmfkapbllmfegaaQ10
namespace Go.Proofs.Ytmfkapbllmfegaa.L10
open Go.RowKit Go.Proofs.Ytmfkapbllmfegaa.G Go.Sort
set_option maxRecDepth 100000
variable {w0 w W : World} {g n c q : Nat} {s : Nat → MV}

/-- A search by halves: the first place, from i to j, of which p doesn't hold. -/
def bsA (p : Nat → Bool) : Nat → Nat → Nat → Nat
  | 0, i, _ => i
  | f + 1, i, j => if i < j then (if p ((i + j) / 2) = true then bsA p f ((i + j) / 2 + 1) j else bsA p f i ((i + j) / 2)) else i
theorem bsA_yes {p : Nat → Bool} {f i j h : Nat} (hl : i < j) (hh : (i + j) / 2 = h) (hp : p h = true) : bsA p (f + 1) i j = bsA p f (h + 1) j := by rw [bsA, if_pos hl, hh, if_pos hp]
theorem bsA_no {p : Nat → Bool} {f i j h : Nat} (hl : i < j) (hh : (i + j) / 2 = h) (hp : p h = false) : bsA p (f + 1) i j = bsA p f i h := by rw [bsA, if_pos hl, hh, if_neg (by rw [hp]; simp)]
theorem bsA_end {p : Nat → Bool} {f i j : Nat} (hl : ¬ i < j) : bsA p f i j = i := by
  cases f with
  | zero => rfl
  | succ f => rw [bsA, if_neg hl]
theorem bsA_bd (p : Nat → Bool) : ∀ (f i j : Nat), i ≤ j → i ≤ bsA p f i j ∧ bsA p f i j ≤ j
  | 0, i, j, h => ⟨Nat.le_refl _, h⟩
  | f + 1, i, j, h => by
    rw [bsA]
    split
    · split
      · have := bsA_bd p f ((i + j) / 2 + 1) j (by omega); omega
      · have := bsA_bd p f i ((i + j) / 2) (by omega); omega
    · exact ⟨Nat.le_refl _, h⟩
def up {α : Type} : Nat → Nat → (Nat → α) → (Nat → α)
  | 0, _, s => s
  | t + 1, k, s => up t (k + 1) (sw k (k + 1) s)
def dn {α : Type} : Nat → Nat → (Nat → α) → (Nat → α)
  | 0, _, s => s
  | t + 1, k, s => dn t (k - 1) (sw k (k - 1) s)
def sym1 {α : Type} (lt : α → α → Bool) (a m b : Nat) (s : Nat → α) : Nat → α := up (bsA (fun h => lt (s h) (s a)) (b - m) m b - 1 - a) a s
def sym2 {α : Type} (lt : α → α → Bool) (a m _b : Nat) (s : Nat → α) : Nat → α := dn (m - bsA (fun h => !lt (s m) (s h)) (m - a) a m) m s
set_option maxHeartbeats 4000000 in
theorem sym1_any (h : Sv w0 g n c s w) (hq : Blk w0 q 108 FLane) (hg : q ≠ g) (a m b : Nat) (hma : m = a + 1) (hmb : m < b) (hb : b ≤ n) (hn : n ≤ 1000) :
    Calls Try.prog 82 #[.slice (some ⟨g, 0, none⟩) n c, .int .i64 a, .int .i64 m, .int .i64 b, .func (.func 77) #[] #[.pointer (some ⟨q, 0, none⟩)]] w fun e w' => e = .returned (.tuple #[]) ∧ Sv w0 g n c (sym1 ltM a m b s) w' := by
  have mixed : Try.prog.follows .mixedOrders = true := by kernel_rfl
  have HS := Lib.hid h
  have HQ := Lib.hid (And.intro hq hg)
  have HMA := Lib.hid hma
  have m0 : (m : Int) - (a : Int) = 1 := by omega
  have a1 : (a : Int) < n := by omega
  clear h hq hg hma
  go_enter Try.func82, Try.ntmps82
  go_wp2_with fail
  go_loopw [10, 11] (fun v u V => ∃ (i j f : Nat), v = .int .i64 i ∧ u = .int .i64 j ∧ m ≤ i ∧ i ≤ j ∧ j ≤ b ∧ j - i ≤ f ∧ Sv w0 g n c s V ∧ bsA (fun h => ltM (s h) (s a)) f i j = bsA (fun h => ltM (s h) (s a)) (b - m) m b) (fun v u _ => (intOf u).toNat - (intOf v).toNat)
  case atStart => exact ⟨m, b, b - m, rfl, rfl, by omega, by omega, by omega, by omega, HS.out, rfl⟩
  case round =>
    obtain ⟨i, j, f, rfl, rfl, h1, h2, h3, h4, hs1, ho1⟩ := hrel
    have HO1 := Lib.hid ho1
    have HS1 := Lib.hid hs1
    have hma := HMA.out
    clear ho1 hs1 HS
    by_cases hlt : i < j
    · have hltz : (i : Int) < j := by omega
      obtain ⟨f', rfl⟩ : ∃ f', f = f' + 1 := ⟨f - 1, by omega⟩
      obtain ⟨h, hh⟩ : ∃ h, (i + j) / 2 = h := ⟨_, rfl⟩
      have hz : ((i : Int) + (j : Int)) / 2 = (h : Int) := by omega
      have h5 : i ≤ h ∧ h < j := by omega
      have b1 : (h : Int) < n := by omega
      have A1 := fun t os => HS1.out.gat (k := h) (by omega) t os
      have A2 := fun t os => HS1.out.gat (k := a) (by omega) t os
      have CC := Lib.hid (fun t os => HS1.out.cmp HQ.out.1 HQ.out.2 (s h) (s a) t os)
      obtain ⟨r, hr⟩ : ∃ r, ltM (s h) (s a) = r := ⟨_, rfl⟩
      have HR := Lib.hid hr
      have hd := cmp_dec hr
      unfold MV.val at CC
      obtain ⟨x, hx⟩ : ∃ x, s h = x := ⟨_, rfl⟩
      obtain ⟨y, hy⟩ : ∃ y, s a = y := ⟨_, rfl⟩
      rw [hx] at A1 CC hd
      rw [hy] at A2 CC hd
      clear hx hy
      have x0 := fun t os => (A1 t os).1
      have x1 := fun t os => (A1 t os).2.1
      have x2 := fun t os => (A1 t os).2.2.1
      have x3 := fun t os => (A1 t os).2.2.2.1
      have x4 := fun t os => (A1 t os).2.2.2.2
      have y0 := fun t os => (A2 t os).1
      have y1 := fun t os => (A2 t os).2.1
      have y2 := fun t os => (A2 t os).2.2.1
      have y3 := fun t os => (A2 t os).2.2.2.1
      have y4 := fun t os => (A2 t os).2.2.2.2
      generalize cmpI x.ln y.ln = cv at *
      clear A1 A2 hr
      have HH := Lib.hid (And.intro hlt (And.intro hh h5))
      clear hlt hh h5 hma
      cases r with
      | true =>
        have hcv : cv < 0 := of_decide_eq_true hd
        go_wp2_with fail
        go_quiet_grown (first | (go_at_call 77; exact CC.out _ _))
        go_wp2_with fail
        have hh := HH.out
        go_roundw
        case rel => exact ⟨h + 1, j, f', by go_num, rfl, by omega, by omega, h3, by omega, HS1.out.gw nq osq, by rw [← HO1.out, bsA_yes hh.1 hh.2.1 HR.out]⟩
        case measure => simp [intOf] <;> omega
      | false =>
        have hcv : ¬ cv < 0 := of_decide_eq_false hd
        go_wp2_with fail
        go_quiet_grown (first | (go_at_call 77; exact CC.out _ _))
        go_wp2_with fail
        have hh := HH.out
        go_roundw
        case rel => exact ⟨i, h, f', rfl, rfl, h1, by omega, by omega, by omega, HS1.out.gw nq osq, by rw [← HO1.out, bsA_no hh.1 hh.2.1 HR.out]⟩
        case measure => simp [intOf] <;> omega
    · obtain ⟨z0, hz0⟩ : ∃ z0, z0 = bsA (fun h => ltM (s h) (s a)) (b - m) m b := ⟨_, rfl⟩
      have hi0 : i = z0 := by rw [hz0, ← HO1.out, bsA_end hlt]
      have HZ : Hid (sym1 ltM a m b s = up (i - 1 - a) a s) := by show _ = _; unfold sym1; rw [← hz0, ← hi0]
      have i1 : (i : Int) - 1 = ((i - 1 : Nat) : Int) := by omega
      have i3 : i - 1 < b := by omega
      have hltz : ¬ (i : Int) < j := by omega
      obtain ⟨i', hi'⟩ : ∃ i', i - 1 = i' := ⟨_, rfl⟩
      rw [hi'] at HZ i1 i3
      have i2 : a ≤ i' := by omega
      have HS2 := HS1
      clear hz0 hi0 HO1 HS1 hi' hlt hma
      go_wp2_with fail
      go_loopw [13] (fun v V => ∃ (k : Nat) (s1 : Nat → MV), v = .int .i64 k ∧ a ≤ k ∧ k ≤ i' ∧ Sv w0 g n c s1 V ∧ up (i' - k) k s1 = up (i' - a) a s) (fun v _ => i' - (intOf v).toNat)
      case atStart => exact ⟨a, s, rfl, by omega, by omega, HS2.out, rfl⟩
      case round =>
        obtain ⟨k, s1, rfl, k1, k2, hs1, hu⟩ := hrel
        have HS1 := Lib.hid hs1
        have HU := Lib.hid hu
        clear hs1 hu HS2
        by_cases hk : k < i'
        · have hkz : (k : Int) < i' := by omega
          have b1 : (k : Int) < n := by omega
          have b2 : (k : Int) + 1 < n := by omega
          have b3 : (0 : Int) ≤ (k : Int) + 1 := by omega
          have b4 : ((k : Int) + 1).toNat = k + 1 := by omega
          obtain ⟨y, hy⟩ : ∃ y, s1 k = y := ⟨_, rfl⟩
          obtain ⟨x, hx⟩ : ∃ x, s1 (k + 1) = x := ⟨_, rfl⟩
          have HX := Lib.hid (And.intro hx hy)
          obtain ⟨y0, y1, y2, y3, y4⟩ := HS1.out.at_ (k := k) (by omega)
          obtain ⟨x0, x1, x2, x3, x4⟩ := HS1.out.at_ (k := (k + 1)) (by omega)
          have z := HS1.out.frozen
          obtain ⟨o, ho⟩ : ∃ o, k * 5 = o := ⟨_, rfl⟩
          have ho5 : (k + 1) * 5 = o + 5 := by omega
          rw [hx, ho5] at x0 x1 x2 x3 x4
          rw [hy, ho] at y0 y1 y2 y3 y4
          have HO := Lib.hid (And.intro ho ho5)
          clear hx hy
          go_wp2_with fail
          go_region
          go_wp2_with fail
          go_roundw
          case rel =>
            refine ⟨k + 1, sw k (k + 1) s1, by go_num, by omega, by omega, ?_, ?_⟩
            · have h5 := HS1.out.swap (i := k) (j := k + 1) (by omega) (by omega) (by omega)
              rw [HX.out.1, HX.out.2, HO.out.1, HO.out.2] at h5
              exact h5.below (bn (Below.refl _ _) 1)
            · rw [← HU.out, show i' - k = (i' - (k + 1)) + 1 by omega, up]
          case measure => simp [intOf] <;> omega
        · have hkz : ¬ (k : Int) < i' := by omega
          go_wp2_with fail
          (try simp only [Exit.inBlock, Exit.then])
          refine bodyPost_ret (results_none rfl _ _ _) rfl ?_
          refine ⟨rfl, ?_⟩
          have := HU.out
          rw [show i' - k = 0 by omega] at this
          rw [HZ.out, ← this]
          exact HS1.out
set_option maxHeartbeats 4000000 in
theorem sym2_any (h : Sv w0 g n c s w) (hq : Blk w0 q 108 FLane) (hg : q ≠ g) (a m b : Nat) (hma : a + 1 < m) (hmb : b = m + 1) (hb : b ≤ n) (hn : n ≤ 1000) :
    Calls Try.prog 82 #[.slice (some ⟨g, 0, none⟩) n c, .int .i64 a, .int .i64 m, .int .i64 b, .func (.func 77) #[] #[.pointer (some ⟨q, 0, none⟩)]] w fun e w' => e = .returned (.tuple #[]) ∧ Sv w0 g n c (sym2 ltM a m b s) w' := by
  have mixed : Try.prog.follows .mixedOrders = true := by kernel_rfl
  have HS := Lib.hid h
  have HQ := Lib.hid (And.intro hq hg)
  have HMB := Lib.hid (And.intro hmb hma)
  obtain ⟨ma, hma'⟩ : ∃ ma, m - a = ma := ⟨_, rfl⟩
  have m0 : (m : Int) - (a : Int) = ma := by omega
  have m2 : ((ma : Int) == 1) = false := by rw [beq_eq_false_iff_ne]; omega
  have m1 : (b : Int) - (m : Int) = 1 := by omega
  have a1 : (m : Int) < n := by omega
  have a2 : m < n := by omega
  clear h hq hg hma hma' hmb
  go_enter Try.func82, Try.ntmps82
  go_wp2_with fail
  go_loopw [14, 15] (fun v u V => ∃ (i j f : Nat), v = .int .i64 i ∧ u = .int .i64 j ∧ a ≤ i ∧ i ≤ j ∧ j ≤ m ∧ j - i ≤ f ∧ Sv w0 g n c s V ∧ bsA (fun h => !ltM (s m) (s h)) f i j = bsA (fun h => !ltM (s m) (s h)) (m - a) a m) (fun v u _ => (intOf u).toNat - (intOf v).toNat)
  case atStart => exact ⟨a, m, m - a, rfl, rfl, by omega, by have := HMB.out; omega, by omega, by omega, HS.out, rfl⟩
  case round =>
    obtain ⟨i, j, f, rfl, rfl, h1, h2, h3, h4, hs1, ho1⟩ := hrel
    have HO1 := Lib.hid ho1
    have HS1 := Lib.hid hs1
    have hma := HMB.out
    clear ho1 hs1 HS
    by_cases hlt : i < j
    · have hltz : (i : Int) < j := by omega
      obtain ⟨f', rfl⟩ : ∃ f', f = f' + 1 := ⟨f - 1, by omega⟩
      obtain ⟨h, hh⟩ : ∃ h, (i + j) / 2 = h := ⟨_, rfl⟩
      have hz : ((i : Int) + (j : Int)) / 2 = (h : Int) := by omega
      have h5 : i ≤ h ∧ h < j := by omega
      have b1 : (h : Int) < n := by omega
      have A1 := fun t os => HS1.out.gat (k := m) (by omega) t os
      have A2 := fun t os => HS1.out.gat (k := h) (by omega) t os
      have CC := Lib.hid (fun t os => HS1.out.cmp HQ.out.1 HQ.out.2 (s m) (s h) t os)
      obtain ⟨r, hr⟩ : ∃ r, ltM (s m) (s h) = r := ⟨_, rfl⟩
      have HR := Lib.hid hr
      have hd := cmp_dec hr
      unfold MV.val at CC
      obtain ⟨x, hx⟩ : ∃ x, s m = x := ⟨_, rfl⟩
      obtain ⟨y, hy⟩ : ∃ y, s h = y := ⟨_, rfl⟩
      rw [hx] at A1 CC hd
      rw [hy] at A2 CC hd
      clear hx hy
      have x0 := fun t os => (A1 t os).1
      have x1 := fun t os => (A1 t os).2.1
      have x2 := fun t os => (A1 t os).2.2.1
      have x3 := fun t os => (A1 t os).2.2.2.1
      have x4 := fun t os => (A1 t os).2.2.2.2
      have y0 := fun t os => (A2 t os).1
      have y1 := fun t os => (A2 t os).2.1
      have y2 := fun t os => (A2 t os).2.2.1
      have y3 := fun t os => (A2 t os).2.2.2.1
      have y4 := fun t os => (A2 t os).2.2.2.2
      generalize cmpI x.ln y.ln = cv at *
      clear A1 A2 hr
      have HH := Lib.hid (And.intro hlt (And.intro hh h5))
      clear hlt hh h5 hma
      cases r with
      | true =>
        have hcv : cv < 0 := of_decide_eq_true hd
        go_wp2_with fail
        go_quiet_grown (first | (go_at_call 77; exact CC.out _ _))
        go_wp2_with fail
        have hh := HH.out
        go_roundw
        case rel => exact ⟨i, h, f', rfl, rfl, h1, by omega, by omega, by omega, HS1.out.gw nq osq, by rw [← HO1.out, bsA_no hh.1 hh.2.1 (by rw [HR.out]; rfl)]⟩
        case measure => simp [intOf] <;> omega
      | false =>
        have hcv : ¬ cv < 0 := of_decide_eq_false hd
        go_wp2_with fail
        go_quiet_grown (first | (go_at_call 77; exact CC.out _ _))
        go_wp2_with fail
        have hh := HH.out
        go_roundw
        case rel => exact ⟨h + 1, j, f', by go_num, rfl, by omega, by omega, h3, by omega, HS1.out.gw nq osq, by rw [← HO1.out, bsA_yes hh.1 hh.2.1 (by rw [HR.out]; rfl)]⟩
        case measure => simp [intOf] <;> omega
    · obtain ⟨z0, hz0⟩ : ∃ z0, z0 = bsA (fun h => !ltM (s m) (s h)) (m - a) a m := ⟨_, rfl⟩
      have hi0 : i = z0 := by rw [hz0, ← HO1.out, bsA_end hlt]
      have HZ : Hid (sym2 ltM a m b s = dn (m - i) m s) := by show _ = _; unfold sym2; rw [← hz0, ← hi0]
      have i3 : i ≤ m := by omega
      have hltz : ¬ (i : Int) < j := by omega
      have HS2 := HS1
      clear hz0 hi0 HO1 HS1 hlt hma
      go_wp2_with fail
      go_loopw [17] (fun v V => ∃ (k : Nat) (s1 : Nat → MV), v = .int .i64 k ∧ i ≤ k ∧ k ≤ m ∧ Sv w0 g n c s1 V ∧ dn (k - i) k s1 = dn (m - i) m s) (fun v _ => (intOf v).toNat)
      case atStart => exact ⟨m, s, rfl, by omega, by omega, HS2.out, rfl⟩
      case round =>
        obtain ⟨k, s1, rfl, k1, k2, hs1, hu⟩ := hrel
        have HS1 := Lib.hid hs1
        have HU := Lib.hid hu
        clear hs1 hu HS2
        by_cases hk : i < k
        · obtain ⟨kp, rfl⟩ : ∃ kp, k = kp + 1 := ⟨k - 1, by omega⟩
          have hkz : (i : Int) < (kp : Int) + 1 := by omega
          have b1 : (kp : Int) < n := by omega
          have b2 : (kp : Int) + 1 < n := by omega
          have b3 : (0 : Int) ≤ (kp : Int) + 1 := by omega
          have b4 : ((kp : Int) + 1).toNat = kp + 1 := by omega
          have hwp : IntKind.i64.wrap (kp : Int) = (kp : Int) := by rw [IntKind.wrap_i64]; omega
          obtain ⟨y, hy⟩ : ∃ y, s1 kp = y := ⟨_, rfl⟩
          obtain ⟨x, hx⟩ : ∃ x, s1 (kp + 1) = x := ⟨_, rfl⟩
          have HX := Lib.hid (And.intro hx hy)
          obtain ⟨y0, y1, y2, y3, y4⟩ := HS1.out.at_ (k := kp) (by omega)
          obtain ⟨x0, x1, x2, x3, x4⟩ := HS1.out.at_ (k := (kp + 1)) (by omega)
          have z := HS1.out.frozen
          obtain ⟨o, ho⟩ : ∃ o, kp * 5 = o := ⟨_, rfl⟩
          have ho5 : (kp + 1) * 5 = o + 5 := by omega
          rw [hx, ho5] at x0 x1 x2 x3 x4
          rw [hy, ho] at y0 y1 y2 y3 y4
          have HO := Lib.hid (And.intro ho ho5)
          clear hx hy
          go_wp2_with fail
          go_region
          go_wp2_with fail
          go_roundw
          case rel =>
            refine ⟨kp, sw (kp + 1) kp s1, by go_num, by omega, by omega, ?_, ?_⟩
            · have h5 := HS1.out.swap (i := kp + 1) (j := kp) (by omega) (by omega) (by omega)
              rw [HX.out.1, HX.out.2, HO.out.1, HO.out.2] at h5
              exact h5.below (bn (Below.refl _ _) 1)
            · rw [← HU.out, show kp + 1 - i = (kp - i) + 1 by omega, dn]; rfl
          case measure => simp [intOf] <;> omega
        · have hkz : ¬ (i : Int) < (k : Int) := by omega
          go_wp2_with fail
          (try simp only [Exit.inBlock, Exit.then])
          refine bodyPost_ret (results_none rfl _ _ _) rfl ?_
          refine ⟨rfl, ?_⟩
          have := HU.out
          rw [show k - i = 0 by omega] at this
          rw [HZ.out, ← this]
          exact HS1.out
end Go.Proofs.Ytmfkapbllmfegaa.L10
