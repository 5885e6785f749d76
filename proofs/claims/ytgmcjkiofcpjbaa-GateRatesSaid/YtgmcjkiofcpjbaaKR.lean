/- The document's own bucket, by value: contracts. -/
import Derived.Test.YtgmcjkiofcpjbaaKAll
import Derived.LoopTactic
namespace Go.Proofs.Ytgmcjkiofcpjbaa.K11
open Go.RowKit Go.Proofs.Ytgmcjkiofcpjbaa.G Go.Proofs.Ytgmcjkiofcpjbaa.Sat
set_option maxRecDepth 100000
variable {w w' : World} {b : Nat} {R C T N r : Int}
def rB (R C T N : Int) : Value := .agg #[.int .i64 R, .int .i64 C, .int .i64 T, .int .i64 N]
theorem rnew_any (r c : Int) (w : World) : Calls Try.prog 38 #[.int .i64 r, .int .i64 c] w fun e w' => e = .returned (rB (rof r) (cof c) (cof c) 0) ∧ Below w.heap.size w w' := by
  obtain ⟨x, hx, hx'⟩ : ∃ x, rof r = x ∧ ((r < 0 ∧ x = 0) ∨ (0 ≤ r ∧ r ≤ 64 ∧ x = r) ∨ (0 ≤ r ∧ 64 < r ∧ x = 64)) := ⟨_, rfl, by unfold rof; omega⟩
  obtain ⟨y, hy, hy'⟩ : ∃ y, cof c = y ∧ ((c < 1 ∧ y = 1) ∨ (1 ≤ c ∧ c ≤ 64 ∧ y = c) ∨ (1 ≤ c ∧ 64 < c ∧ y = 64)) := ⟨_, rfl, by unfold cof; omega⟩
  rw [hx, hy]
  clear hx hy
  unfold rB
  rcases hx' with ⟨h1, rfl⟩ | ⟨h1, h2, rfl⟩ | ⟨h1, h2, rfl⟩
  all_goals
    rcases hy' with ⟨h3, rfl⟩ | ⟨h3, h4, rfl⟩ | ⟨h3, h4, rfl⟩
  all_goals
    go_enter Try.func38, Try.ntmps38
    go_wp2_with fail
    refine bodyPost_ret (v := _) (by simp [results, Try.results38, go_sem]) rfl ⟨rfl, ?_⟩
    exact b01 _ _
/-- How many it has behind i rounds. -/
def tk (R C T i : Int) : Int := min (T + i * R) C
theorem tk_zero (h : Ok R C T N) : tk R C T 0 = T := by unfold tk; have := h.t1; omega
theorem tk_succ (h : Ok R C T N) (i : Int) : tk R C T (i + 1) = min (tk R C T i + R) C := by
  unfold tk
  rw [Int.add_mul, Int.one_mul]
  have := h.r0
  omega
theorem tk_bd (h : Ok R C T N) {i : Int} (hi : 0 ≤ i) : 0 ≤ tk R C T i ∧ tk R C T i ≤ C := by
  unfold tk
  have h1 : 0 ≤ i * R := Int.mul_nonneg hi h.r0
  have := h.t0
  have := h.c0
  omega
/-- Behind as many rounds as there are between, or 64: what coming to the round gives. -/
theorem tk_end (h : Ok R C T N) (r i : Int) (h0 : 0 ≤ i) (h64 : i ≤ 64) (hi : i = 0 ∨ N + i ≤ cut r) (he : i = 64 ∨ cut r ≤ N + i) : tk R C T i = ctok R C T N r := by
  have hr := cut_bd r
  obtain ⟨a, b, c, d, e, f, g, k⟩ := h
  have hN : cut N = N := cut_id N g k
  have hT : cut T = T := cut_id T e (by omega)
  have hR : cut R = R := cut_id R a (by omega)
  obtain ⟨D, hD⟩ : ∃ D, sub r N = D := ⟨_, rfl⟩
  have hD' : (cut r ≤ N ∧ D = 0) ∨ (N < cut r ∧ D = cut r - N) := by
    rw [← hD]; unfold sub; rw [hN]
    rcases Int.lt_or_le N (cut r) with h1 | h1
    · right; exact ⟨h1, cut_id _ (by omega) (by omega)⟩
    · left; exact ⟨h1, cut_lo _ (by omega)⟩
  have hDb : cut D = D := by rcases hD' with ⟨_, rfl⟩ | ⟨_, rfl⟩ <;> exact cut_id _ (by omega) (by omega)
  unfold ctok tk
  rw [hD]
  unfold add mul
  rw [hR, hDb, hT, cut_cut]
  by_cases hD0 : D = i
  · subst hD0
    have m0 : 0 ≤ D * R := Int.mul_nonneg h0 a
    have m1 : D * R ≤ 64 * 64 := Int.mul_le_mul h64 b a (by omega)
    rw [Int.mul_comm R D, cut_id (D * R) m0 (by omega), cut_id (T + D * R) (by omega) (by omega)]
  · have hi64 : i = 64 ∧ 64 < D := by rcases hD' with ⟨_, rfl⟩ | ⟨_, rfl⟩ <;> omega
    obtain ⟨rfl, hD64⟩ := hi64
    by_cases hR0 : R = 0
    · subst hR0
      rw [Int.zero_mul, Int.mul_zero, cut_id 0 (by omega) (by omega), Int.add_zero, hT]
    · have m1 : 64 * 1 ≤ D * R := Int.mul_le_mul (by omega) (by omega) (by omega) (by omega)
      rw [Int.mul_comm R D]
      have m2 : 64 ≤ cut (D * R) := by
        rcases Int.lt_or_le 4611686018427387904 (D * R) with h5 | h5
        · rw [cut_hi _ (by omega)]; omega
        · rw [cut_id _ (by omega) h5]; omega
      have m3 := (cut_bd (D * R)).2
      have m4 : 64 ≤ cut (T + cut (D * R)) := by
        rcases Int.lt_or_le 4611686018427387904 (T + cut (D * R)) with h5 | h5
        · rw [cut_hi _ (by omega)]; omega
        · rw [cut_id _ (by omega) h5]; omega
      omega
def RbPost (R C T N : Int) (w : World) (e : Ending) (w' : World) : Prop := e = .returned (rB R C T N) ∧ Below w.heap.size w w'
set_option maxHeartbeats 2000000 in
theorem rcome_any (h : Ok R C T N) (r : Int) (w : World) : Calls Try.prog 64 #[rB R C T N, .int .i64 r] w (RbPost R C (ctok R C T N r) (crnd N r) w) := by
  have HK := Lib.hid h
  have HX := Lib.hid (fun V => rcut_any r V)
  obtain ⟨X, hX⟩ : ∃ X, cut r = X := ⟨_, rfl⟩
  have hx0 := cut_bd r
  rw [hX] at HX hx0
  have HE : Hid (∀ i : Int, 0 ≤ i → i ≤ 64 → (i = 0 ∨ N + i ≤ X) → (i = 64 ∨ X ≤ N + i) → tk R C T i = ctok R C T N r) := fun i a b c d => tk_end h r i a b (by rw [hX]; exact c) (by rw [hX]; exact d)
  obtain ⟨Z, hZ⟩ : ∃ Z, crnd N r = Z := ⟨_, rfl⟩
  have hZ' : (N < X ∧ Z = X) ∨ (X ≤ N ∧ Z = N) := by have e : max N X = Z := (by rw [← hZ, ← hX]; rfl); omega
  obtain ⟨T1, hT1⟩ : ∃ T1, ctok R C T N r = T1 := ⟨_, rfl⟩
  rw [hT1] at HE
  rw [hZ, hT1]
  unfold rB
  have n0 := h.n0
  have n1 := h.n1
  have HN0 := Lib.hid ((Blk.new w 33 #[.int .i64 R, .int .i64 C, .int .i64 T, .int .i64 N]).alloc (.cells #[.int .i64 0, .int .i64 0, .int .i64 0, .int .i64 0] 33))
  have HN2 := Lib.hid (Blk.new_at (w := w.alloc (.cells #[.int .i64 R, .int .i64 C, .int .i64 T, .int .i64 N] 33)) (n := w.heap.size + 1) (by rw [World.size_alloc]) 33 #[.int .i64 0, .int .i64 0, .int .i64 0, .int .i64 0])
  have HB0 := Lib.hid (ba1 (b01 w (.cells #[.int .i64 R, .int .i64 C, .int .i64 T, .int .i64 N] 33)) (.cells #[.int .i64 0, .int .i64 0, .int .i64 0, .int .i64 0] 33))
  clear hX hZ hT1 h
  go_enter Try.func64, Try.ntmps64
  go_wp2_with (go_at_call 41; refine (HX.out _).mono ?_; rintro e w' ⟨rfl, rfl⟩)
  obtain ⟨kx, hkx⟩ : ∃ kx, w.heap.size = kx := ⟨_, rfl⟩
  have HKX : Hid (w.heap.size ≤ kx) := by show w.heap.size ≤ kx; omega
  rw [hkx] at HN0 HN2
  rw [hkx]
  clear hkx
  generalize (w.alloc (.cells #[.int .i64 R, .int .i64 C, .int .i64 T, .int .i64 N] 33)).alloc (.cells #[.int .i64 0, .int .i64 0, .int .i64 0, .int .i64 0] 33) = w1 at *
  go_loopw [6] (fun iv V => ∃ k : Nat, iv = .int .i64 k ∧ k ≤ 64 ∧ (k = 0 ∨ N + k ≤ X) ∧ Blk V kx 33 #[.int .i64 R, .int .i64 C, .int .i64 (tk R C T k), .int .i64 N] ∧ Blk V (kx + 1) 33 #[.int .i64 0, .int .i64 0, .int .i64 0, .int .i64 0] ∧ Below w.heap.size w V) (fun iv _ => 64 - (intOf iv).toNat)
  case atStart => exact ⟨0, rfl, by omega, .inl rfl, by rw [show ((0 : Nat) : Int) = 0 from rfl, tk_zero HK.out]; exact HN0.out, HN2.out, HB0.out⟩
  case round =>
    obtain ⟨k, rfl, hk, hkr, hb, hb2, hB⟩ := hrel
    have HB := Lib.hid hb
    have HBB := Lib.hid hB
    have HR := Lib.hid hkr
    have htb := tk_bd HK.out (show (0 : Int) ≤ k by omega)
    have HS := Lib.hid (tk_succ HK.out (k : Int))
    have e1 := HK.out.r1
    have e2 := HK.out.c1
    have e3 := HK.out.r0
    have HN3 := Lib.hid hb2
    have p0 := hb.cell 0
    have p1 := hb.cell 1
    have p2 := hb.cell 2
    have p3 := hb.cell 3
    simp only [List.getElem?_toArray, List.getElem?_cons_zero, List.getElem?_cons_succ] at p0 p1 p2 p3
    have fz := hb.frozen
    have q0 := hb2.cell 0
    have q1 := hb2.cell 1
    have q2 := hb2.cell 2
    have q3 := hb2.cell 3
    simp only [List.getElem?_toArray, List.getElem?_cons_zero, List.getElem?_cons_succ] at q0 q1 q2 q3
    have fq := hb2.frozen
    have HE2 := Lib.hid (HE.out (k : Int) (by omega) (by omega) (by have := HR.out; omega))
    generalize tk R C T (k : Int) = U at *
    obtain ⟨u0, u1⟩ := htb
    clear hb hb2 hB hkr
    by_cases hlt : (k : Int) < 64
    · by_cases hX : N + (k : Int) < X
      · obtain ⟨Y, hY, hY'⟩ : ∃ Y, min (U + R) C = Y ∧ ((U + R ≤ C ∧ Y = U + R) ∨ (C < U + R ∧ Y = C)) := ⟨_, rfl, by omega⟩
        rw [hY] at HS
        clear hY q0 q1 q2 q3 fq
        rcases hY' with ⟨h1, rfl⟩ | ⟨h1, rfl⟩
        all_goals
          go_wp2_with fail
          go_roundw
          case rel => exact ⟨k + 1, by go_num, by omega, .inr (by push_cast; omega), by rw [show ((k + 1 : Nat) : Int) = (k : Int) + 1 from rfl, HS.out]; exact HB.out.set_ 2 _, HN3.out.far (p := ⟨kx, 2, none⟩) (by show kx + 1 ≠ kx; omega) _, HBB.out.setCell (p := ⟨kx, 2, none⟩) HKX.out _⟩
          case measure => simp [intOf] <;> omega
      · have HU : U = T1 := HE2.out (.inr (by omega))
        subst HU
        rcases hZ' with ⟨h1, rfl⟩ | ⟨h1, rfl⟩
        all_goals
          go_wp2_with fail
          refine bodyPost_ret (v := .agg #[.int .i64 R, .int .i64 C, .int .i64 U, .int .i64 Z]) (by simp [results, Try.results64, go_sem, *]) rfl ⟨rfl, ?_⟩
          exact ((((HBB.out.setCell (p := ⟨kx, 3, none⟩) HKX.out _).setCell (p := ⟨kx + 1, 0, none⟩) (Nat.le_succ_of_le HKX.out) _).setCell (p := ⟨kx + 1, 1, none⟩) (Nat.le_succ_of_le HKX.out) _).setCell (p := ⟨kx + 1, 2, none⟩) (Nat.le_succ_of_le HKX.out) _).setCell (p := ⟨kx + 1, 3, none⟩) (Nat.le_succ_of_le HKX.out) _
    · have HU : U = T1 := HE2.out (.inl (by omega))
      subst HU
      rcases hZ' with ⟨h1, rfl⟩ | ⟨h1, rfl⟩
      all_goals
        go_wp2_with fail
        refine bodyPost_ret (v := .agg #[.int .i64 R, .int .i64 C, .int .i64 U, .int .i64 Z]) (by simp [results, Try.results64, go_sem, *]) rfl ⟨rfl, ?_⟩
        exact ((((HBB.out.setCell (p := ⟨kx, 3, none⟩) HKX.out _).setCell (p := ⟨kx + 1, 0, none⟩) (Nat.le_succ_of_le HKX.out) _).setCell (p := ⟨kx + 1, 1, none⟩) (Nat.le_succ_of_le HKX.out) _).setCell (p := ⟨kx + 1, 2, none⟩) (Nat.le_succ_of_le HKX.out) _).setCell (p := ⟨kx + 1, 3, none⟩) (Nat.le_succ_of_le HKX.out) _
theorem b4 {B g : Nat} {a w : World} (h : Below B a w) (hg : B ≤ g) (u0 u1 u2 u3 : Value) : Below B a ((((w.setCell ⟨g, 0, none⟩ u0).setCell ⟨g, 1, none⟩ u1).setCell ⟨g, 2, none⟩ u2).setCell ⟨g, 3, none⟩ u3) :=
  (((h.setCell (p := ⟨g, 0, none⟩) hg u0).setCell (p := ⟨g, 1, none⟩) hg u1).setCell (p := ⟨g, 2, none⟩) hg u2).setCell (p := ⟨g, 3, none⟩) hg u3
def RtPost (v : Bool) (R C T N : Int) (w : World) (e : Ending) (w' : World) : Prop := e = .returned (.tuple #[rB R C T N, .bool v]) ∧ Below w.heap.size w w'
set_option maxHeartbeats 400000 in
theorem rtake_any (h : Ok R C T N) (r : Int) (w : World) : Calls Try.prog 40 #[rB R C T N, .int .i64 r] w (RtPost (ctok R C T N r != 0) R C (less (ctok R C T N r)) (crnd N r) w) := by
  have H1 := Lib.hid (fun V => rcome_any h r V)
  have HK := Lib.hid (h.come r)
  generalize ctok R C T N r = T1 at *
  generalize crnd N r = N1 at *
  unfold rB
  have HN0 := Lib.hid ((Blk.new w 33 #[.int .i64 R, .int .i64 C, .int .i64 T, .int .i64 N]).alloc (.cells #[.int .i64 0, .int .i64 0, .int .i64 0, .int .i64 0] 33))
  have HN2 := Lib.hid (Blk.new_at (w := w.alloc (.cells #[.int .i64 R, .int .i64 C, .int .i64 T, .int .i64 N] 33)) (n := w.heap.size + 1) (by rw [World.size_alloc]) 33 #[.int .i64 0, .int .i64 0, .int .i64 0, .int .i64 0])
  have HB0 := Lib.hid (ba1 (b01 w (.cells #[.int .i64 R, .int .i64 C, .int .i64 T, .int .i64 N] 33)) (.cells #[.int .i64 0, .int .i64 0, .int .i64 0, .int .i64 0] 33))
  clear h
  obtain ⟨kx, hkx⟩ : ∃ kx, w.heap.size = kx := ⟨_, rfl⟩
  have HKX : Hid (w.heap.size ≤ kx) := by show w.heap.size ≤ kx; omega
  rw [hkx] at HN0 HN2
  by_cases h0 : T1 = 0
  · subst h0
    rw [less_zero rfl]
    go_enter Try.func40, Try.ntmps40
    go_wp2_with fail
    refine (H1.out _).mono ?_
    rintro e w1 ⟨rfl, hb1⟩
    have N1 := HN0.out.bel hb1
    have N2 := HN2.out.bel hb1
    have HB1 := Lib.hid (bt HB0.out hb1)
    clear hkx HN0 HN2 HB0 hb1
    have fz := N1.frozen
    have fq := N2.frozen
    have q0 := N2.cell 0
    have q1 := N2.cell 1
    have q2 := N2.cell 2
    have q3 := N2.cell 3
    have p0 := N1.cell 0
    have p1 := N1.cell 1
    have p2 := N1.cell 2
    have p3 := N1.cell 3
    simp only [List.getElem?_toArray, List.getElem?_cons_zero, List.getElem?_cons_succ] at q0 q1 q2 q3 p0 p1 p2 p3
    clear N1 N2
    unfold rB
    go_wp2_with fail
    refine bodyPost_ret (v := .tuple #[.agg #[.int .i64 R, .int .i64 C, .int .i64 0, .int .i64 N1], .bool false]) (by simp [results, Try.results40, go_sem, *]) rfl ⟨rfl, ?_⟩
    exact b4 (b4 HB1.out HKX.out _ _ _ _) (Nat.le_succ_of_le HKX.out) _ _ _ _
  · have t0 : (T1 == 0) = false := by rw [beq_eq_false_iff_ne]; exact h0
    have HT : Hid ((T1 != 0) = true) := by show (T1 != 0) = true; rw [bne_iff_ne]; exact h0
    have HL : Hid (less T1 = T1 - 1) := less_pos h0
    have k1 := HK.out.t0
    have k2 := HK.out.t1
    have k3 := HK.out.c1
    have hw : IntKind.i64.wrap (T1 - 1) = T1 - 1 := IntWalk.i64_in _ (by omega)
    clear h0
    go_enter Try.func40, Try.ntmps40
    go_wp2_with fail
    refine (H1.out _).mono ?_
    rintro e w1 ⟨rfl, hb1⟩
    have X1 := HN0.out.bel hb1
    have X2 := HN2.out.bel hb1
    have HB1 := Lib.hid (b4 (bt HB0.out hb1) HKX.out (.int .i64 R) (.int .i64 C) (.int .i64 T1) (.int .i64 N1))
    clear hkx HN0 HN2 HB0 hb1
    have HM1 : Hid (Blk ((((w1.setCell ⟨kx, 0, none⟩ (.int .i64 R)).setCell ⟨kx, 1, none⟩ (.int .i64 C)).setCell ⟨kx, 2, none⟩ (.int .i64 T1)).setCell ⟨kx, 3, none⟩ (.int .i64 N1)) kx 33 #[.int .i64 R, .int .i64 C, .int .i64 T1, .int .i64 N1]) := (((X1.set_ 0 _).set_ 1 _).set_ 2 _).set_ 3 _
    have hne : kx + 1 ≠ kx := by omega
    have HM2 : Hid (Blk ((((w1.setCell ⟨kx, 0, none⟩ (.int .i64 R)).setCell ⟨kx, 1, none⟩ (.int .i64 C)).setCell ⟨kx, 2, none⟩ (.int .i64 T1)).setCell ⟨kx, 3, none⟩ (.int .i64 N1)) (kx + 1) 33 #[.int .i64 0, .int .i64 0, .int .i64 0, .int .i64 0]) := (((X2.far (p := ⟨kx, 0, none⟩) hne _).far (p := ⟨kx, 1, none⟩) hne _).far (p := ⟨kx, 2, none⟩) hne _).far (p := ⟨kx, 3, none⟩) hne _
    have fz := X1.frozen
    have p0 := X1.cell 0
    have p1 := X1.cell 1
    have p2 := X1.cell 2
    have p3 := X1.cell 3
    simp only [List.getElem?_toArray, List.getElem?_cons_zero, List.getElem?_cons_succ] at p0 p1 p2 p3
    clear X1 X2 hne
    unfold rB
    go_upto_region 4 with fail
    have M1 := HM1
    have M2 := HM2
    generalize (((w1.setCell ⟨kx, 0, none⟩ (.int .i64 R)).setCell ⟨kx, 1, none⟩ (.int .i64 C)).setCell ⟨kx, 2, none⟩ (.int .i64 T1)).setCell ⟨kx, 3, none⟩ (.int .i64 N1) = W at *
    clear p0 p1 p2 p3 fz
    have fz := M1.out.frozen
    have fq := M2.out.frozen
    have q0 := M2.out.cell 0
    have q1 := M2.out.cell 1
    have q2 := M2.out.cell 2
    have q3 := M2.out.cell 3
    have p0 := M1.out.cell 0
    have p1 := M1.out.cell 1
    have p2 := M1.out.cell 2
    have p3 := M1.out.cell 3
    simp only [List.getElem?_toArray, List.getElem?_cons_zero, List.getElem?_cons_succ] at q0 q1 q2 q3 p0 p1 p2 p3
    go_wp2_with fail
    rw [HL.out, HT.out]
    refine bodyPost_ret (v := .tuple #[.agg #[.int .i64 R, .int .i64 C, .int .i64 (T1 - 1), .int .i64 N1], .bool true]) (by simp [results, Try.results40, go_sem, *]) rfl ⟨rfl, ?_⟩
    exact b4 (HB1.out.setCell (p := ⟨kx, 2, none⟩) HKX.out _) (Nat.le_succ_of_le HKX.out) _ _ _ _
def RwPost (v : Int × Bool) (w : World) (e : Ending) (w' : World) : Prop := e = .returned (.tuple #[.int .i64 v.1, .bool v.2]) ∧ Below w.heap.size w w'
end Go.Proofs.Ytgmcjkiofcpjbaa.K11
