/- Sorting messages: slices' swapRange and rotate: contracts. -/
import Derived.Test.YtmfkapbllmfegaaQ9
namespace Go.Proofs.Ytmfkapbllmfegaa.L10
open Go.RowKit Go.Proofs.Ytmfkapbllmfegaa.G Go.Sort
set_option maxRecDepth 100000
variable {w0 w W : World} {g n c q : Nat} {s : Nat → MV}

def swR {α : Type} (a b : Nat) : Nat → Nat → (Nat → α) → (Nat → α)
  | 0, _, s => s
  | t + 1, i, s => swR a b t (i + 1) (sw (a + i) (b + i) s)
theorem swR_go {α : Type} {a b k i : Nat} {s : Nat → α} (h : i < k) : swR a b (k - i) i s = swR a b (k - (i + 1)) (i + 1) (sw (a + i) (b + i) s) := by
  rw [show k - i = (k - (i + 1)) + 1 by omega, swR]
set_option maxHeartbeats 2000000 in
theorem swr_any (h : Sv w0 g n c s w) (a b k : Nat) (hab : a + k ≤ b) (hb : b + k ≤ n) (hn : n ≤ 1000) (f : Value) :
    Calls Try.prog 84 #[.slice (some ⟨g, 0, none⟩) n c, .int .i64 a, .int .i64 b, .int .i64 k, f] w fun e w' => e = .returned (.tuple #[]) ∧ Sv w0 g n c (swR a b k 0 s) w' := by
  have HS := Lib.hid h
  clear h
  go_enter Try.func84, Try.ntmps84
  go_wp2_with fail
  go_loopw [10] (fun v V => ∃ (i : Nat) (s1 : Nat → MV), v = .int .i64 i ∧ i ≤ k ∧ Sv w0 g n c s1 V ∧ swR a b (k - i) i s1 = swR a b k 0 s) (fun v _ => k - (intOf v).toNat)
  case atStart => exact ⟨0, s, rfl, Nat.zero_le _, HS.out, rfl⟩
  case round =>
    obtain ⟨i, s1, rfl, hi1, hs1, ho1⟩ := hrel
    have HO1 := Lib.hid ho1
    have HS1 := Lib.hid hs1
    clear ho1 hs1 HS
    by_cases hlt : i < k
    · have hltz : (i : Int) < k := by omega
      obtain ⟨p, hp⟩ : ∃ p, a + i = p := ⟨_, rfl⟩
      obtain ⟨e, he⟩ : ∃ e, b + i = p + 1 + e := ⟨b - a - 1, by omega⟩
      have pz : (a : Int) + (i : Int) = (p : Int) := by omega
      have qz : (b : Int) + (i : Int) = (p : Int) + 1 + (e : Int) := by omega
      obtain ⟨y, hy⟩ : ∃ y, s1 (a + i) = y := ⟨_, rfl⟩
      obtain ⟨x, hx⟩ : ∃ x, s1 (b + i) = x := ⟨_, rfl⟩
      have HX := Lib.hid (And.intro hx hy)
      obtain ⟨y0, y1, y2, y3, y4⟩ := HS1.out.at_ (k := a + i) (by omega)
      obtain ⟨x0, x1, x2, x3, x4⟩ := HS1.out.at_ (k := b + i) (by omega)
      have z := HS1.out.frozen
      obtain ⟨o, ho⟩ : ∃ o, p * 5 = o := ⟨_, rfl⟩
      obtain ⟨d, hd⟩ : ∃ d, e * 5 = d := ⟨_, rfl⟩
      have ho5 : (p + 1 + e) * 5 = o + 5 + d := by omega
      rw [hx, he, ho5] at x0 x1 x2 x3 x4
      rw [hy, hp, ho] at y0 y1 y2 y3 y4
      have HP := Lib.hid (And.intro hp he)
      have b1 : (p : Int) < n := by omega
      have b2 : (p : Int) + 1 + (e : Int) < n := by omega
      have b3 : (0 : Int) ≤ (p : Int) + 1 + (e : Int) := by omega
      have b4 : ((p : Int) + 1 + (e : Int)).toNat = p + 1 + e := by omega
      have HO := Lib.hid (And.intro ho ho5)
      clear hx hy hp he hd
      go_wp2_with fail
      go_region
      go_wp2_with fail
      go_roundw
      case rel =>
        refine ⟨i + 1, sw (a + i) (b + i) s1, by go_num, by omega, ?_, ?_⟩
        · have h5 := HS1.out.swap (i := a + i) (j := b + i) (by omega) (by omega) (by omega)
          rw [HX.out.1, HX.out.2, HP.out.2, HP.out.1, HO.out.1, HO.out.2] at h5
          rw [HP.out.2, HP.out.1]
          exact h5.below (bn (Below.refl _ _) 1)
        · rw [← HO1.out, swR_go hlt]
      case measure => simp [intOf] <;> omega
    · have hltz : ¬ (i : Int) < k := by omega
      go_wp2_with fail
      go_end0
      refine ⟨rfl, ?_⟩
      have := HO1.out
      rw [show k - i = 0 by omega] at this
      rw [← this]
      exact HS1.out
def rot {α : Type} (m : Nat) : Nat → Nat → Nat → (Nat → α) → (Nat → α)
  | 0, _, _, s => s
  | f + 1, i, j, s => if i = j then swR (m - i) m i 0 s else if j < i then rot m f (i - j) j (swR (m - i) m j 0 s) else rot m f i (j - i) (swR (m - i) (m + j - i) i 0 s)
theorem rot_eq {α : Type} {m f i j : Nat} {s : Nat → α} (h : i = j) : rot m (f + 1) i j s = swR (m - i) m i 0 s := by rw [rot, if_pos h]
theorem rot_gt {α : Type} {m f i j : Nat} {s : Nat → α} (h : j < i) : rot m (f + 1) i j s = rot m f (i - j) j (swR (m - i) m j 0 s) := by rw [rot, if_neg (by omega), if_pos h]
theorem rot_lt {α : Type} {m f i j : Nat} {s : Nat → α} (h : i < j) : rot m (f + 1) i j s = rot m f i (j - i) (swR (m - i) (m + j - i) i 0 s) := by rw [rot, if_neg (by omega), if_neg (by omega)]
/-- rotate: from a to b, about m. -/
def rota {α : Type} (a m b : Nat) (s : Nat → α) : Nat → α := rot m (b - a) (m - a) (b - m) s
set_option maxHeartbeats 2000000 in
theorem rot_any (h : Sv w0 g n c s w) (a m b : Nat) (ham : a < m) (hmb : m < b) (hb : b ≤ n) (hn : n ≤ 1000) (fv : Value) :
    Calls Try.prog 83 #[.slice (some ⟨g, 0, none⟩) n c, .int .i64 a, .int .i64 m, .int .i64 b, fv] w fun e w' => e = .returned (.tuple #[]) ∧ Sv w0 g n c (rota a m b s) w' := by
  have HS := Lib.hid h
  have m0 : (m : Int) - (a : Int) = ((m - a : Nat) : Int) := by omega
  have m1 : (b : Int) - (m : Int) = ((b - m : Nat) : Int) := by omega
  clear h
  obtain ⟨i0, hi0⟩ : ∃ i0, m - a = i0 := ⟨_, rfl⟩
  obtain ⟨j0, hj0⟩ : ∃ j0, b - m = j0 := ⟨_, rfl⟩
  rw [hi0] at m0
  rw [hj0] at m1
  have HI := Lib.hid (And.intro hi0 hj0)
  have q1 : 1 ≤ i0 ∧ i0 ≤ m ∧ 1 ≤ j0 ∧ m + j0 ≤ n ∧ i0 + j0 = b - a := by omega
  clear hi0 hj0
  go_enter Try.func83, Try.ntmps83
  go_wp2_with fail
  clear m0 m1
  go_loopw [10, 11] (fun v u V => ∃ (i j f : Nat) (s1 : Nat → MV), v = .int .i64 i ∧ u = .int .i64 j ∧ 1 ≤ i ∧ i ≤ m ∧ 1 ≤ j ∧ m + j ≤ n ∧ i + j ≤ f + 1 ∧ Sv w0 g n c s1 V ∧ rot m (f + 1) i j s1 = rota a m b s) (fun v u _ => (intOf v).toNat + (intOf u).toNat)
  case atStart => exact ⟨i0, j0, b - a - 1, s, rfl, rfl, by omega, by omega, by omega, by omega, by omega, HS.out, by unfold rota; rw [HI.out.1, HI.out.2, show b - a - 1 + 1 = b - a by omega]⟩
  case round =>
    obtain ⟨i, j, f, s1, rfl, rfl, h1, h2, h3, h4, h5, hs1, ho1⟩ := hrel
    have HO1 := Lib.hid ho1
    have HS1 := Lib.hid hs1
    clear ho1 hs1 HS q1 HI
    have e1 : (m : Int) - (i : Int) = ((m - i : Nat) : Int) := by omega
    rcases Nat.lt_trichotomy i j with hlt | heq | hgt
    · have t1 : ((i : Int) != (j : Int)) = true := by rw [bne_iff_ne]; omega
      have t2 : decide ((i : Int) > (j : Int)) = false := decide_eq_false (by omega)
      have e2 : (m : Int) + (j : Int) - (i : Int) = ((m + j - i : Nat) : Int) := by omega
      have e3 : (j : Int) - (i : Int) = ((j - i : Nat) : Int) := by omega
      have HC := Lib.hid (fun cc => swr_any HS1.out (m - i) (m + j - i) i (by omega) (by omega) hn cc)
      obtain ⟨mi, hmi⟩ : ∃ x, m - i = x := ⟨_, rfl⟩
      obtain ⟨mj, hmj⟩ : ∃ x, m + j - i = x := ⟨_, rfl⟩
      obtain ⟨ji, hji⟩ : ∃ x, j - i = x := ⟨_, rfl⟩
      have HM := Lib.hid (And.intro hmi (And.intro hmj hji))
      rw [hmi] at e1
      rw [hmj] at e2
      rw [hji] at e3
      rw [hmi, hmj] at HC
      have hlt2 : (i : Int) < j := by omega
      have e4 : (m : Int) + (j : Int) - (i : Int) = (mj : Int) := e2
      clear hmi hmj hji
      go_wp2_with fail
      refine (HC.out _).mono ?_
      rintro e w1 ⟨rfl, hs2⟩
      have HS2 := Lib.hid hs2
      clear hs2
      go_wp2_with fail
      go_roundw
      case rel =>
        have hr := HO1.out
        rw [rot_lt hlt, HM.out.1, HM.out.2.1, HM.out.2.2] at hr
        have := HM.out.2.2
        obtain ⟨f', rfl⟩ : ∃ f', f = f' + 1 := ⟨f - 1, by omega⟩
        exact ⟨i, ji, f', _, rfl, rfl, h1, h2, by omega, by omega, by omega, HS2.out, hr⟩
      case measure =>
        have := HM.out.2.2
        simp [intOf] <;> omega
    · subst heq
      have t1 : ((i : Int) != (i : Int)) = false := by simp
      have HC := Lib.hid (fun cc => swr_any HS1.out (m - i) m i (by omega) (by omega) hn cc)
      obtain ⟨mi, hmi⟩ : ∃ x, m - i = x := ⟨_, rfl⟩
      have HM := Lib.hid hmi
      rw [hmi] at e1
      rw [hmi] at HC
      clear hmi
      go_wp2_with fail
      refine (HC.out _).mono ?_
      rintro e w1 ⟨rfl, hs2⟩
      have HS2 := Lib.hid hs2
      clear hs2
      go_wp2_with fail
      go_end0
      refine ⟨rfl, ?_⟩
      have hr := HO1.out
      rw [rot_eq rfl, HM.out] at hr
      rw [← hr]
      exact HS2.out
    · have t1 : ((i : Int) != (j : Int)) = true := by rw [bne_iff_ne]; omega
      have t2 : decide ((i : Int) > (j : Int)) = true := decide_eq_true (by omega)
      have e3 : (i : Int) - (j : Int) = ((i - j : Nat) : Int) := by omega
      have HC := Lib.hid (fun cc => swr_any HS1.out (m - i) m j (by omega) (by omega) hn cc)
      obtain ⟨mi, hmi⟩ : ∃ x, m - i = x := ⟨_, rfl⟩
      obtain ⟨ij, hij⟩ : ∃ x, i - j = x := ⟨_, rfl⟩
      have HM := Lib.hid (And.intro hmi hij)
      rw [hmi] at e1
      rw [hij] at e3
      rw [hmi] at HC
      clear hmi hij
      go_wp2_with fail
      refine (HC.out _).mono ?_
      rintro e w1 ⟨rfl, hs2⟩
      have HS2 := Lib.hid hs2
      clear hs2
      go_wp2_with fail
      go_roundw
      case rel =>
        have hr := HO1.out
        rw [rot_gt hgt, HM.out.1, HM.out.2] at hr
        have := HM.out.2
        obtain ⟨f', rfl⟩ : ∃ f', f = f' + 1 := ⟨f - 1, by omega⟩
        exact ⟨ij, j, f', _, rfl, rfl, by omega, by omega, h3, h4, by omega, HS2.out, hr⟩
      case measure =>
        have := HM.out.2
        simp [intOf] <;> omega
end Go.Proofs.Ytmfkapbllmfegaa.L10
